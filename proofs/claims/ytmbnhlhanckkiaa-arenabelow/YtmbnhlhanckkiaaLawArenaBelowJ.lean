/- Below is an order, and the merge of two arenas is above both, and below what both are below (arena.Below, Merge, Check). -/
import Derived.Test.YtmbnhlhanckkiaaPartG
import Derived.SizedLaws
import Derived.ProofKit
import Derived.OpenShut
import Derived.ShutString
import Derived.ChangeOld
import Derived.Below
namespace Go.Proofs.Ytmbnhlhanckkiaa
open Go.RowKit
open Go.ChangeShapes Go.WideShapes Go.ChangeAt Go.RowKit
open Go.ChangeMaps (open_string shut_string)
set_option linter.unusedVariables false
set_option linter.unusedSimpArgs false
attribute [local irreducible] setN

set_option maxRecDepth 100000 in
set_option maxHeartbeats 4000000 in
theorem arenaBelow_walk (F0 : Ar) (v0 : Value) (F1 : Ar) (v1 : Value) (F2 : Ar) (v2 : Value) (w0 : CameA F0) (w1 : CameA F1) (w2 : CameA F2) (w : World) (fl0 : isAr F0 v0 w) (fl1 : isAr F1 v1 w) (fl2 : isAr F2 v2 w) :
    Calls Try.prog 6 #[v0, v1, v2] w fun e w' => e = .returned (.bool true) ∧ Below w.heap.size w w' := by
  obtain ⟨pa, ma, rfl, hpa, hma⟩ := fl0
  obtain ⟨pb, mb, rfl, hpb, hmb⟩ := fl1
  obtain ⟨pc, mc, rfl, hpc, hmc⟩ := fl2
  obtain ⟨hB, Va⟩ := abox w F0 pa ma hpa hma (w.heap.size) (by simp)
  obtain ⟨hBn, Vb⟩ := abox (w.alloc (.cells #[.int .i64 F0.cap, pa, ma] 25)) F1 pb mb (stable_ens _ _ _ _ hpb hB.out) (stable_cells _ _ _ _ hmb hB.out) (w.heap.size + 1) (by simp)
  replace Va := Kept.mk (Va.out.keep hBn.out)
  replace hB := Kept.mk (hB.out.trans (hBn.out.mono hB.out.size))
  clear hBn
  obtain ⟨hBn, Vc⟩ := abox ((w.alloc (.cells #[.int .i64 F0.cap, pa, ma] 25)).alloc (.cells #[.int .i64 F1.cap, pb, mb] 25)) F2 pc mc (stable_ens _ _ _ _ hpc hB.out) (stable_cells _ _ _ _ hmc hB.out) (w.heap.size + 2) (by simp)
  replace Va := Kept.mk (Va.out.keep hBn.out)
  replace Vb := Kept.mk (Vb.out.keep hBn.out)
  replace hB := Kept.mk (hB.out.trans (hBn.out.mono hB.out.size))
  clear hBn
  clear hpa hma hpb hmb hpc hmc
  go_enter Try.func6, Try.ntmps6
  go_wp2_with fail
  generalize (((w.alloc (.cells #[.int .i64 F0.cap, pa, ma] 25)).alloc (.cells #[.int .i64 F1.cap, pb, mb] 25)).alloc (.cells #[.int .i64 F2.cap, pc, mc] 25)) = W0 at *
  ((with_reducible refine (aworks_any _).mono ?_); rintro e W1 ⟨rfl, hb1⟩)
  replace hB := Kept.mk (hB.out.trans ((hb1).mono hB.out.size))
  replace Va := Kept.mk (Va.out.keep (hb1))
  replace Vb := Kept.mk (Vb.out.keep (hb1))
  replace Vc := Kept.mk (Vc.out.keep (hb1))
  clear hb1
  obtain ⟨qa, ra, xa, sa, ia, ka0, ka1, ka2⟩ := Va.out.open_
  have Xa := Kept.mk xa
  have Sa := Kept.mk sa
  have Ia := Kept.mk ia
  clear xa sa ia
  go_wp2_with fail
  ((with_reducible refine (afew_any F0 _ _ Xa.out (CameA.keys w0) w0.slots w0.index).mono ?_); rintro e W2 ⟨rfl, hb1⟩)
  clear Xa Sa Ia ka0 ka1 ka2
  replace hB := Kept.mk (hB.out.trans ((hb1).mono hB.out.size))
  replace Va := Kept.mk (Va.out.keep (hb1))
  replace Vb := Kept.mk (Vb.out.keep (hb1))
  replace Vc := Kept.mk (Vc.out.keep (hb1))
  clear hb1
  cases fa : fewA F0 with
  | false =>
    go_wp2
    all_goals go_ret
    all_goals exact ⟨rfl, hB.out⟩
  | true =>
    have FFa := Kept.mk (fewA_fit fa)
    have KFa := Kept.mk fa
    clear fa
    obtain ⟨qb, rb, xb, sb, ib, kb0, kb1, kb2⟩ := Vb.out.open_
    have Xb := Kept.mk xb
    have Sb := Kept.mk sb
    have Ib := Kept.mk ib
    clear xb sb ib
    go_wp2_with fail
    ((with_reducible refine (afew_any F1 _ _ Xb.out (CameA.keys w1) w1.slots w1.index).mono ?_); rintro e W3 ⟨rfl, hb1⟩)
    clear Xb Sb Ib kb0 kb1 kb2
    replace hB := Kept.mk (hB.out.trans ((hb1).mono hB.out.size))
    replace Va := Kept.mk (Va.out.keep (hb1))
    replace Vb := Kept.mk (Vb.out.keep (hb1))
    replace Vc := Kept.mk (Vc.out.keep (hb1))
    clear hb1
    cases fb : fewA F1 with
    | false =>
      go_wp2
      all_goals go_ret
      all_goals exact ⟨rfl, hB.out⟩
    | true =>
      have FFb := Kept.mk (fewA_fit fb)
      have KFb := Kept.mk fb
      clear fb
      obtain ⟨qc, rc, xc, sc, ic, kc0, kc1, kc2⟩ := Vc.out.open_
      have Xc := Kept.mk xc
      have Sc := Kept.mk sc
      have Ic := Kept.mk ic
      clear xc sc ic
      go_wp2_with fail
      ((with_reducible refine (afew_any F2 _ _ Xc.out (CameA.keys w2) w2.slots w2.index).mono ?_); rintro e W4 ⟨rfl, hb1⟩)
      clear Xc Sc Ic kc0 kc1 kc2
      replace hB := Kept.mk (hB.out.trans ((hb1).mono hB.out.size))
      replace Va := Kept.mk (Va.out.keep (hb1))
      replace Vb := Kept.mk (Vb.out.keep (hb1))
      replace Vc := Kept.mk (Vc.out.keep (hb1))
      clear hb1
      cases fc : fewA F2 with
      | false =>
        go_wp2
        all_goals go_ret
        all_goals exact ⟨rfl, hB.out⟩
      | true =>
        have FFc := Kept.mk (fewA_fit fc)
        have KFc := Kept.mk fc
        clear fc
        obtain ⟨qa, ra, xa, sa, ia, ka0, ka1, ka2⟩ := Va.out.open_
        have Xa := Kept.mk xa
        have Sa := Kept.mk sa
        have Ia := Kept.mk ia
        clear xa sa ia
        obtain ⟨qb, rb, xb, sb, ib, kb0, kb1, kb2⟩ := Vb.out.open_
        have Xb := Kept.mk xb
        have Sb := Kept.mk sb
        have Ib := Kept.mk ib
        clear xb sb ib
        go_wp2_with fail
        have hl12 := fewA_slots KFb.out
        clear KFa KFb KFc
        cases d1 : belowA F0 F1 with
        | false =>
          have D1 := Kept.mk d1
          clear d1
          ((with_reducible refine (w_below F0 F1 false _ _ _ Xa.out Xb.out FFa.out FFb.out D1.out).mono ?_); rintro e W5 ⟨rfl, hb1⟩)
          clear Xa Sa Ia ka0 ka1 ka2
          clear Xb Sb Ib kb0 kb1 kb2
          replace hB := Kept.mk (hB.out.trans ((hb1).mono hB.out.size))
          replace Va := Kept.mk (Va.out.keep (hb1))
          replace Vb := Kept.mk (Vb.out.keep (hb1))
          replace Vc := Kept.mk (Vc.out.keep (hb1))
          clear hb1
          obtain ⟨qa, ra, xa, sa, ia, ka0, ka1, ka2⟩ := Va.out.open_
          have Xa := Kept.mk xa
          have Sa := Kept.mk sa
          have Ia := Kept.mk ia
          clear xa sa ia
          go_wp2_with fail
          cases oa : okA F0 with
          | false =>
            have Oa := Kept.mk oa
            clear oa
            have HB := Kept.mk (below_bad (A := F0) (B := F1) (.inl Oa.out))
            ((with_reducible refine (w_check F0 2 _ _ Xa.out FFa.out (chkA_no Oa.out)).mono ?_); rintro e W6 ⟨rfl, hb1⟩)
            clear Xa Sa Ia ka0 ka1 ka2
            replace hB := Kept.mk (hB.out.trans ((hb1).mono hB.out.size))
            replace Va := Kept.mk (Va.out.keep (hb1))
            replace Vb := Kept.mk (Vb.out.keep (hb1))
            replace Vc := Kept.mk (Vc.out.keep (hb1))
            clear hb1
            obtain ⟨qa, ra, xa, sa, ia, ka0, ka1, ka2⟩ := Va.out.open_
            have Xa := Kept.mk xa
            have Sa := Kept.mk sa
            have Ia := Kept.mk ia
            clear xa sa ia
            obtain ⟨qb, rb, xb, sb, ib, kb0, kb1, kb2⟩ := Vb.out.open_
            have Xb := Kept.mk xb
            have Sb := Kept.mk sb
            have Ib := Kept.mk ib
            clear xb sb ib
            go_wp2_with fail
            ((with_reducible refine (w_below F0 F1 false _ _ _ Xa.out Xb.out FFa.out FFb.out HB.out).mono ?_); rintro e W7 ⟨rfl, hb1⟩)
            clear Xa Sa Ia ka0 ka1 ka2
            clear Xb Sb Ib kb0 kb1 kb2
            replace hB := Kept.mk (hB.out.trans ((hb1).mono hB.out.size))
            replace Va := Kept.mk (Va.out.keep (hb1))
            replace Vb := Kept.mk (Vb.out.keep (hb1))
            replace Vc := Kept.mk (Vc.out.keep (hb1))
            clear hb1
            go_wp2
            all_goals go_ret
            all_goals exact ⟨rfl, hB.out⟩
          | true =>
            have Oa := Kept.mk oa
            clear oa
            ((with_reducible refine (w_check F0 0 _ _ Xa.out FFa.out (chkA_yes Oa.out)).mono ?_); rintro e W6 ⟨rfl, hb1⟩)
            clear Xa Sa Ia ka0 ka1 ka2
            replace hB := Kept.mk (hB.out.trans ((hb1).mono hB.out.size))
            replace Va := Kept.mk (Va.out.keep (hb1))
            replace Vb := Kept.mk (Vb.out.keep (hb1))
            replace Vc := Kept.mk (Vc.out.keep (hb1))
            clear hb1
            obtain ⟨qb, rb, xb, sb, ib, kb0, kb1, kb2⟩ := Vb.out.open_
            have Xb := Kept.mk xb
            have Sb := Kept.mk sb
            have Ib := Kept.mk ib
            clear xb sb ib
            go_wp2_with fail
            cases ob : okA F1 with
            | false =>
              have Ob := Kept.mk ob
              clear ob
              have HB := Kept.mk (below_bad (A := F0) (B := F1) (.inr Ob.out))
              ((with_reducible refine (w_check F1 2 _ _ Xb.out FFb.out (chkA_no Ob.out)).mono ?_); rintro e W7 ⟨rfl, hb1⟩)
              clear Xb Sb Ib kb0 kb1 kb2
              replace hB := Kept.mk (hB.out.trans ((hb1).mono hB.out.size))
              replace Va := Kept.mk (Va.out.keep (hb1))
              replace Vb := Kept.mk (Vb.out.keep (hb1))
              replace Vc := Kept.mk (Vc.out.keep (hb1))
              clear hb1
              obtain ⟨qa, ra, xa, sa, ia, ka0, ka1, ka2⟩ := Va.out.open_
              have Xa := Kept.mk xa
              have Sa := Kept.mk sa
              have Ia := Kept.mk ia
              clear xa sa ia
              obtain ⟨qb, rb, xb, sb, ib, kb0, kb1, kb2⟩ := Vb.out.open_
              have Xb := Kept.mk xb
              have Sb := Kept.mk sb
              have Ib := Kept.mk ib
              clear xb sb ib
              go_wp2_with fail
              ((with_reducible refine (w_below F0 F1 false _ _ _ Xa.out Xb.out FFa.out FFb.out HB.out).mono ?_); rintro e W8 ⟨rfl, hb1⟩)
              clear Xa Sa Ia ka0 ka1 ka2
              clear Xb Sb Ib kb0 kb1 kb2
              replace hB := Kept.mk (hB.out.trans ((hb1).mono hB.out.size))
              replace Va := Kept.mk (Va.out.keep (hb1))
              replace Vb := Kept.mk (Vb.out.keep (hb1))
              replace Vc := Kept.mk (Vc.out.keep (hb1))
              clear hb1
              go_wp2
              all_goals go_ret
              all_goals exact ⟨rfl, hB.out⟩
            | true =>
              have Ob := Kept.mk ob
              clear ob
              ((with_reducible refine (w_check F1 0 _ _ Xb.out FFb.out (chkA_yes Ob.out)).mono ?_); rintro e W7 ⟨rfl, hb1⟩)
              clear Xb Sb Ib kb0 kb1 kb2
              replace hB := Kept.mk (hB.out.trans ((hb1).mono hB.out.size))
              replace Va := Kept.mk (Va.out.keep (hb1))
              replace Vb := Kept.mk (Vb.out.keep (hb1))
              replace Vc := Kept.mk (Vc.out.keep (hb1))
              clear hb1
              obtain ⟨qa, ra, xa, sa, ia, ka0, ka1, ka2⟩ := Va.out.open_
              have Xa := Kept.mk xa
              have Sa := Kept.mk sa
              have Ia := Kept.mk ia
              clear xa sa ia
              obtain ⟨qb, rb, xb, sb, ib, kb0, kb1, kb2⟩ := Vb.out.open_
              have Xb := Kept.mk xb
              have Sb := Kept.mk sb
              have Ib := Kept.mk ib
              clear xb sb ib
              go_wp2_with fail
              have OA := Kept.mk (okA_iff.1 Oa.out)
              have OB := Kept.mk (okA_iff.1 Ob.out)
              obtain ⟨G, hG⟩ : ∃ G, mergeF F0 F1.slots = G := ⟨_, rfl⟩
              obtain ⟨n, hn⟩ : ∃ n : Int, (mergeN F0 F1.slots : Int) = n := ⟨_, rfl⟩
              obtain ⟨o, ho⟩ : ∃ o : Int, (mergeO F0 F1.slots : Int) = o := ⟨_, rfl⟩
              have FG := Kept.mk (show FitA G by rw [← hG]; exact okA_fit (merge_okA _ OA.out).1)
              have U1 := Kept.mk (show belowA F0 G = true by rw [← hG]; exact merge_upA OA.out _)
              have HG := Kept.mk hG
              have HN := Kept.mk hn
              have HO := Kept.mk ho
              clear hG hn ho
              by_cases h0 : 0 < o
              · skip
                ((with_reducible refine (ga_merge F0 F1.slots G n o _ _ _ Xa.out Sb.out FFa.out FFb.out.ents (by omega) HG.out HN.out HO.out).mono ?_); rintro e U ⟨v', rfl, ⟨p', m', rfl, hp', hm'⟩, hb1⟩)
                obtain ⟨K1, K2, K3, K4, K5⟩ := anew U G p' m' hp' hm' U.heap.size rfl
                clear hp' hm'
                clear Xa Sa Ia ka0 ka1 ka2
                clear Xb Sb Ib kb0 kb1 kb2
                replace hB := Kept.mk (hB.out.trans ((hb1).mono hB.out.size))
                replace Va := Kept.mk (Va.out.keep (hb1))
                replace Vb := Kept.mk (Vb.out.keep (hb1))
                replace Vc := Kept.mk (Vc.out.keep (hb1))
                clear hb1
                go_wp2_with (have hz0 := K1; refine wpList_storeN 25 rfl (.tmp 9) (.tmp 63) rfl U.heap.size [.int .i64 G.cap, p', m'] size_ar rfl rfl K1.out rfl K2.out K5.out ?_; replace hB := Kept.mk (hB.out.trans ((K3.out).mono hB.out.size)); replace Va := Kept.mk (Va.out.keep (K3.out)); replace Vb := Kept.mk (Vb.out.keep (K3.out)); replace Vc := Kept.mk (Vc.out.keep (K3.out)); have Vj := Kept.mk K4.out; clear hz0 K1 K2 K3 K4 K5; generalize setN (U.alloc (.cells #[.int .i64 0, .slice none 0 0, .slice none 0 0] 25)) U.heap.size 0 [.int .i64 G.cap, p', m'] = W8 at *; generalize U.heap.size = gj at *; obtain ⟨qa, ra, xa, sa, ia, ka0, ka1, ka2⟩ := Va.out.open_; have Xa := Kept.mk xa; have Sa := Kept.mk sa; have Ia := Kept.mk ia; clear xa sa ia; obtain ⟨qj, rj, xj, sj, ij, kj0, kj1, kj2⟩ := Vj.out.open_; have Xj := Kept.mk xj; have Sj := Kept.mk sj; have Ij := Kept.mk ij; clear xj sj ij)
                ((with_reducible refine (w_below F0 G true _ _ _ Xa.out Xj.out FFa.out FG.out U1.out).mono ?_); rintro e W9 ⟨rfl, hb1⟩)
                clear Xa Sa Ia ka0 ka1 ka2
                clear Xj Sj Ij kj0 kj1 kj2
                replace hB := Kept.mk (hB.out.trans ((hb1).mono hB.out.size))
                replace Va := Kept.mk (Va.out.keep (hb1))
                replace Vb := Kept.mk (Vb.out.keep (hb1))
                replace Vc := Kept.mk (Vc.out.keep (hb1))
                replace Vj := Kept.mk (Vj.out.keep (hb1))
                clear hb1
                go_wp2
                all_goals go_ret
                all_goals exact ⟨rfl, hB.out⟩
              · have hz : mergeO F0 F1.slots = 0 := by have := HO.out; omega
                have U2 := Kept.mk (show belowA F1 G = true by have := merge_upB OA.out OB.out hz; rwa [HG.out] at this)
                have U4 := Kept.mk (belowA_self OA.out)
                have U3 := Kept.mk (show belowA F0 F2 = true → belowA F1 F2 = true → belowA G F2 = true by intro h1 h2; have := merge_both OA.out OB.out hz h1 h2; rwa [HG.out] at this)
                clear hz
                ((with_reducible refine (ga_merge F0 F1.slots G n o _ _ _ Xa.out Sb.out FFa.out FFb.out.ents (by omega) HG.out HN.out HO.out).mono ?_); rintro e U ⟨v', rfl, ⟨p', m', rfl, hp', hm'⟩, hb1⟩)
                obtain ⟨K1, K2, K3, K4, K5⟩ := anew U G p' m' hp' hm' U.heap.size rfl
                clear hp' hm'
                clear Xa Sa Ia ka0 ka1 ka2
                clear Xb Sb Ib kb0 kb1 kb2
                replace hB := Kept.mk (hB.out.trans ((hb1).mono hB.out.size))
                replace Va := Kept.mk (Va.out.keep (hb1))
                replace Vb := Kept.mk (Vb.out.keep (hb1))
                replace Vc := Kept.mk (Vc.out.keep (hb1))
                clear hb1
                go_wp2_with (have hz0 := K1; refine wpList_storeN 25 rfl (.tmp 9) (.tmp 63) rfl U.heap.size [.int .i64 G.cap, p', m'] size_ar rfl rfl K1.out rfl K2.out K5.out ?_; replace hB := Kept.mk (hB.out.trans ((K3.out).mono hB.out.size)); replace Va := Kept.mk (Va.out.keep (K3.out)); replace Vb := Kept.mk (Vb.out.keep (K3.out)); replace Vc := Kept.mk (Vc.out.keep (K3.out)); have Vj := Kept.mk K4.out; clear hz0 K1 K2 K3 K4 K5; generalize setN (U.alloc (.cells #[.int .i64 0, .slice none 0 0, .slice none 0 0] 25)) U.heap.size 0 [.int .i64 G.cap, p', m'] = W8 at *; generalize U.heap.size = gj at *; obtain ⟨qa, ra, xa, sa, ia, ka0, ka1, ka2⟩ := Va.out.open_; have Xa := Kept.mk xa; have Sa := Kept.mk sa; have Ia := Kept.mk ia; clear xa sa ia; obtain ⟨qc, rc, xc, sc, ic, kc0, kc1, kc2⟩ := Vc.out.open_; have Xc := Kept.mk xc; have Sc := Kept.mk sc; have Ic := Kept.mk ic; clear xc sc ic)
                cases d3 : belowA F0 F2 with
                | false =>
                  have D3 := Kept.mk d3
                  clear d3
                  ((with_reducible refine (w_below F0 F2 false _ _ _ Xa.out Xc.out FFa.out FFc.out D3.out).mono ?_); rintro e W9 ⟨rfl, hb1⟩)
                  clear Xa Sa Ia ka0 ka1 ka2
                  clear Xc Sc Ic kc0 kc1 kc2
                  replace hB := Kept.mk (hB.out.trans ((hb1).mono hB.out.size))
                  replace Va := Kept.mk (Va.out.keep (hb1))
                  replace Vb := Kept.mk (Vb.out.keep (hb1))
                  replace Vc := Kept.mk (Vc.out.keep (hb1))
                  replace Vj := Kept.mk (Vj.out.keep (hb1))
                  clear hb1
                  obtain ⟨qa, ra, xa, sa, ia, ka0, ka1, ka2⟩ := Va.out.open_
                  have Xa := Kept.mk xa
                  have Sa := Kept.mk sa
                  have Ia := Kept.mk ia
                  clear xa sa ia
                  obtain ⟨qj, rj, xj, sj, ij, kj0, kj1, kj2⟩ := Vj.out.open_
                  have Xj := Kept.mk xj
                  have Sj := Kept.mk sj
                  have Ij := Kept.mk ij
                  clear xj sj ij
                  go_wp2_with fail
                  ((with_reducible refine (w_below F0 G true _ _ _ Xa.out Xj.out FFa.out FG.out U1.out).mono ?_); rintro e W10 ⟨rfl, hb1⟩)
                  clear Xa Sa Ia ka0 ka1 ka2
                  clear Xj Sj Ij kj0 kj1 kj2
                  replace hB := Kept.mk (hB.out.trans ((hb1).mono hB.out.size))
                  replace Va := Kept.mk (Va.out.keep (hb1))
                  replace Vb := Kept.mk (Vb.out.keep (hb1))
                  replace Vc := Kept.mk (Vc.out.keep (hb1))
                  replace Vj := Kept.mk (Vj.out.keep (hb1))
                  clear hb1
                  obtain ⟨qb, rb, xb, sb, ib, kb0, kb1, kb2⟩ := Vb.out.open_
                  have Xb := Kept.mk xb
                  have Sb := Kept.mk sb
                  have Ib := Kept.mk ib
                  clear xb sb ib
                  obtain ⟨qj, rj, xj, sj, ij, kj0, kj1, kj2⟩ := Vj.out.open_
                  have Xj := Kept.mk xj
                  have Sj := Kept.mk sj
                  have Ij := Kept.mk ij
                  clear xj sj ij
                  go_wp2_with fail
                  ((with_reducible refine (w_below F1 G true _ _ _ Xb.out Xj.out FFb.out FG.out U2.out).mono ?_); rintro e W11 ⟨rfl, hb1⟩)
                  clear Xb Sb Ib kb0 kb1 kb2
                  clear Xj Sj Ij kj0 kj1 kj2
                  replace hB := Kept.mk (hB.out.trans ((hb1).mono hB.out.size))
                  replace Va := Kept.mk (Va.out.keep (hb1))
                  replace Vb := Kept.mk (Vb.out.keep (hb1))
                  replace Vc := Kept.mk (Vc.out.keep (hb1))
                  replace Vj := Kept.mk (Vj.out.keep (hb1))
                  clear hb1
                  obtain ⟨qa, ra, xa, sa, ia, ka0, ka1, ka2⟩ := Va.out.open_
                  have Xa := Kept.mk xa
                  have Sa := Kept.mk sa
                  have Ia := Kept.mk ia
                  clear xa sa ia
                  go_wp2_with fail
                  ((with_reducible refine (w_below F0 F0 true _ _ _ Xa.out Xa.out FFa.out FFa.out U4.out).mono ?_); rintro e W12 ⟨rfl, hb1⟩)
                  clear Xa Sa Ia ka0 ka1 ka2
                  replace hB := Kept.mk (hB.out.trans ((hb1).mono hB.out.size))
                  replace Va := Kept.mk (Va.out.keep (hb1))
                  replace Vb := Kept.mk (Vb.out.keep (hb1))
                  replace Vc := Kept.mk (Vc.out.keep (hb1))
                  replace Vj := Kept.mk (Vj.out.keep (hb1))
                  clear hb1
                  go_wp2
                  all_goals go_ret
                  all_goals exact ⟨rfl, hB.out⟩
                | true =>
                  have D3 := Kept.mk d3
                  clear d3
                  ((with_reducible refine (w_below F0 F2 true _ _ _ Xa.out Xc.out FFa.out FFc.out D3.out).mono ?_); rintro e W9 ⟨rfl, hb1⟩)
                  clear Xa Sa Ia ka0 ka1 ka2
                  clear Xc Sc Ic kc0 kc1 kc2
                  replace hB := Kept.mk (hB.out.trans ((hb1).mono hB.out.size))
                  replace Va := Kept.mk (Va.out.keep (hb1))
                  replace Vb := Kept.mk (Vb.out.keep (hb1))
                  replace Vc := Kept.mk (Vc.out.keep (hb1))
                  replace Vj := Kept.mk (Vj.out.keep (hb1))
                  clear hb1
                  obtain ⟨qb, rb, xb, sb, ib, kb0, kb1, kb2⟩ := Vb.out.open_
                  have Xb := Kept.mk xb
                  have Sb := Kept.mk sb
                  have Ib := Kept.mk ib
                  clear xb sb ib
                  obtain ⟨qc, rc, xc, sc, ic, kc0, kc1, kc2⟩ := Vc.out.open_
                  have Xc := Kept.mk xc
                  have Sc := Kept.mk sc
                  have Ic := Kept.mk ic
                  clear xc sc ic
                  go_wp2_with fail
                  cases d4 : belowA F1 F2 with
                  | false =>
                    have D4 := Kept.mk d4
                    clear d4
                    ((with_reducible refine (w_below F1 F2 false _ _ _ Xb.out Xc.out FFb.out FFc.out D4.out).mono ?_); rintro e W10 ⟨rfl, hb1⟩)
                    clear Xb Sb Ib kb0 kb1 kb2
                    clear Xc Sc Ic kc0 kc1 kc2
                    replace hB := Kept.mk (hB.out.trans ((hb1).mono hB.out.size))
                    replace Va := Kept.mk (Va.out.keep (hb1))
                    replace Vb := Kept.mk (Vb.out.keep (hb1))
                    replace Vc := Kept.mk (Vc.out.keep (hb1))
                    replace Vj := Kept.mk (Vj.out.keep (hb1))
                    clear hb1
                    obtain ⟨qa, ra, xa, sa, ia, ka0, ka1, ka2⟩ := Va.out.open_
                    have Xa := Kept.mk xa
                    have Sa := Kept.mk sa
                    have Ia := Kept.mk ia
                    clear xa sa ia
                    obtain ⟨qj, rj, xj, sj, ij, kj0, kj1, kj2⟩ := Vj.out.open_
                    have Xj := Kept.mk xj
                    have Sj := Kept.mk sj
                    have Ij := Kept.mk ij
                    clear xj sj ij
                    go_wp2_with fail
                    ((with_reducible refine (w_below F0 G true _ _ _ Xa.out Xj.out FFa.out FG.out U1.out).mono ?_); rintro e W11 ⟨rfl, hb1⟩)
                    clear Xa Sa Ia ka0 ka1 ka2
                    clear Xj Sj Ij kj0 kj1 kj2
                    replace hB := Kept.mk (hB.out.trans ((hb1).mono hB.out.size))
                    replace Va := Kept.mk (Va.out.keep (hb1))
                    replace Vb := Kept.mk (Vb.out.keep (hb1))
                    replace Vc := Kept.mk (Vc.out.keep (hb1))
                    replace Vj := Kept.mk (Vj.out.keep (hb1))
                    clear hb1
                    obtain ⟨qb, rb, xb, sb, ib, kb0, kb1, kb2⟩ := Vb.out.open_
                    have Xb := Kept.mk xb
                    have Sb := Kept.mk sb
                    have Ib := Kept.mk ib
                    clear xb sb ib
                    obtain ⟨qj, rj, xj, sj, ij, kj0, kj1, kj2⟩ := Vj.out.open_
                    have Xj := Kept.mk xj
                    have Sj := Kept.mk sj
                    have Ij := Kept.mk ij
                    clear xj sj ij
                    go_wp2_with fail
                    ((with_reducible refine (w_below F1 G true _ _ _ Xb.out Xj.out FFb.out FG.out U2.out).mono ?_); rintro e W12 ⟨rfl, hb1⟩)
                    clear Xb Sb Ib kb0 kb1 kb2
                    clear Xj Sj Ij kj0 kj1 kj2
                    replace hB := Kept.mk (hB.out.trans ((hb1).mono hB.out.size))
                    replace Va := Kept.mk (Va.out.keep (hb1))
                    replace Vb := Kept.mk (Vb.out.keep (hb1))
                    replace Vc := Kept.mk (Vc.out.keep (hb1))
                    replace Vj := Kept.mk (Vj.out.keep (hb1))
                    clear hb1
                    obtain ⟨qa, ra, xa, sa, ia, ka0, ka1, ka2⟩ := Va.out.open_
                    have Xa := Kept.mk xa
                    have Sa := Kept.mk sa
                    have Ia := Kept.mk ia
                    clear xa sa ia
                    go_wp2_with fail
                    ((with_reducible refine (w_below F0 F0 true _ _ _ Xa.out Xa.out FFa.out FFa.out U4.out).mono ?_); rintro e W13 ⟨rfl, hb1⟩)
                    clear Xa Sa Ia ka0 ka1 ka2
                    replace hB := Kept.mk (hB.out.trans ((hb1).mono hB.out.size))
                    replace Va := Kept.mk (Va.out.keep (hb1))
                    replace Vb := Kept.mk (Vb.out.keep (hb1))
                    replace Vc := Kept.mk (Vc.out.keep (hb1))
                    replace Vj := Kept.mk (Vj.out.keep (hb1))
                    clear hb1
                    go_wp2
                    all_goals go_ret
                    all_goals exact ⟨rfl, hB.out⟩
                  | true =>
                    have D4 := Kept.mk d4
                    clear d4
                    have U5 := Kept.mk (U3.out D3.out D4.out)
                    ((with_reducible refine (w_below F1 F2 true _ _ _ Xb.out Xc.out FFb.out FFc.out D4.out).mono ?_); rintro e W10 ⟨rfl, hb1⟩)
                    clear Xb Sb Ib kb0 kb1 kb2
                    clear Xc Sc Ic kc0 kc1 kc2
                    replace hB := Kept.mk (hB.out.trans ((hb1).mono hB.out.size))
                    replace Va := Kept.mk (Va.out.keep (hb1))
                    replace Vb := Kept.mk (Vb.out.keep (hb1))
                    replace Vc := Kept.mk (Vc.out.keep (hb1))
                    replace Vj := Kept.mk (Vj.out.keep (hb1))
                    clear hb1
                    obtain ⟨qa, ra, xa, sa, ia, ka0, ka1, ka2⟩ := Va.out.open_
                    have Xa := Kept.mk xa
                    have Sa := Kept.mk sa
                    have Ia := Kept.mk ia
                    clear xa sa ia
                    obtain ⟨qj, rj, xj, sj, ij, kj0, kj1, kj2⟩ := Vj.out.open_
                    have Xj := Kept.mk xj
                    have Sj := Kept.mk sj
                    have Ij := Kept.mk ij
                    clear xj sj ij
                    go_wp2_with fail
                    ((with_reducible refine (w_below F0 G true _ _ _ Xa.out Xj.out FFa.out FG.out U1.out).mono ?_); rintro e W11 ⟨rfl, hb1⟩)
                    clear Xa Sa Ia ka0 ka1 ka2
                    clear Xj Sj Ij kj0 kj1 kj2
                    replace hB := Kept.mk (hB.out.trans ((hb1).mono hB.out.size))
                    replace Va := Kept.mk (Va.out.keep (hb1))
                    replace Vb := Kept.mk (Vb.out.keep (hb1))
                    replace Vc := Kept.mk (Vc.out.keep (hb1))
                    replace Vj := Kept.mk (Vj.out.keep (hb1))
                    clear hb1
                    obtain ⟨qb, rb, xb, sb, ib, kb0, kb1, kb2⟩ := Vb.out.open_
                    have Xb := Kept.mk xb
                    have Sb := Kept.mk sb
                    have Ib := Kept.mk ib
                    clear xb sb ib
                    obtain ⟨qj, rj, xj, sj, ij, kj0, kj1, kj2⟩ := Vj.out.open_
                    have Xj := Kept.mk xj
                    have Sj := Kept.mk sj
                    have Ij := Kept.mk ij
                    clear xj sj ij
                    go_wp2_with fail
                    ((with_reducible refine (w_below F1 G true _ _ _ Xb.out Xj.out FFb.out FG.out U2.out).mono ?_); rintro e W12 ⟨rfl, hb1⟩)
                    clear Xb Sb Ib kb0 kb1 kb2
                    clear Xj Sj Ij kj0 kj1 kj2
                    replace hB := Kept.mk (hB.out.trans ((hb1).mono hB.out.size))
                    replace Va := Kept.mk (Va.out.keep (hb1))
                    replace Vb := Kept.mk (Vb.out.keep (hb1))
                    replace Vc := Kept.mk (Vc.out.keep (hb1))
                    replace Vj := Kept.mk (Vj.out.keep (hb1))
                    clear hb1
                    obtain ⟨qj, rj, xj, sj, ij, kj0, kj1, kj2⟩ := Vj.out.open_
                    have Xj := Kept.mk xj
                    have Sj := Kept.mk sj
                    have Ij := Kept.mk ij
                    clear xj sj ij
                    obtain ⟨qc, rc, xc, sc, ic, kc0, kc1, kc2⟩ := Vc.out.open_
                    have Xc := Kept.mk xc
                    have Sc := Kept.mk sc
                    have Ic := Kept.mk ic
                    clear xc sc ic
                    go_wp2_with fail
                    ((with_reducible refine (w_below G F2 true _ _ _ Xj.out Xc.out FG.out FFc.out U5.out).mono ?_); rintro e W13 ⟨rfl, hb1⟩)
                    clear Xj Sj Ij kj0 kj1 kj2
                    clear Xc Sc Ic kc0 kc1 kc2
                    replace hB := Kept.mk (hB.out.trans ((hb1).mono hB.out.size))
                    replace Va := Kept.mk (Va.out.keep (hb1))
                    replace Vb := Kept.mk (Vb.out.keep (hb1))
                    replace Vc := Kept.mk (Vc.out.keep (hb1))
                    replace Vj := Kept.mk (Vj.out.keep (hb1))
                    clear hb1
                    obtain ⟨qa, ra, xa, sa, ia, ka0, ka1, ka2⟩ := Va.out.open_
                    have Xa := Kept.mk xa
                    have Sa := Kept.mk sa
                    have Ia := Kept.mk ia
                    clear xa sa ia
                    go_wp2_with fail
                    ((with_reducible refine (w_below F0 F0 true _ _ _ Xa.out Xa.out FFa.out FFa.out U4.out).mono ?_); rintro e W14 ⟨rfl, hb1⟩)
                    clear Xa Sa Ia ka0 ka1 ka2
                    replace hB := Kept.mk (hB.out.trans ((hb1).mono hB.out.size))
                    replace Va := Kept.mk (Va.out.keep (hb1))
                    replace Vb := Kept.mk (Vb.out.keep (hb1))
                    replace Vc := Kept.mk (Vc.out.keep (hb1))
                    replace Vj := Kept.mk (Vj.out.keep (hb1))
                    clear hb1
                    go_wp2
                    all_goals go_ret
                    all_goals exact ⟨rfl, hB.out⟩
        | true =>
          have D1 := Kept.mk d1
          clear d1
          ((with_reducible refine (w_below F0 F1 true _ _ _ Xa.out Xb.out FFa.out FFb.out D1.out).mono ?_); rintro e W5 ⟨rfl, hb1⟩)
          clear Xa Sa Ia ka0 ka1 ka2
          clear Xb Sb Ib kb0 kb1 kb2
          replace hB := Kept.mk (hB.out.trans ((hb1).mono hB.out.size))
          replace Va := Kept.mk (Va.out.keep (hb1))
          replace Vb := Kept.mk (Vb.out.keep (hb1))
          replace Vc := Kept.mk (Vc.out.keep (hb1))
          clear hb1
          obtain ⟨qb, rb, xb, sb, ib, kb0, kb1, kb2⟩ := Vb.out.open_
          have Xb := Kept.mk xb
          have Sb := Kept.mk sb
          have Ib := Kept.mk ib
          clear xb sb ib
          obtain ⟨qc, rc, xc, sc, ic, kc0, kc1, kc2⟩ := Vc.out.open_
          have Xc := Kept.mk xc
          have Sc := Kept.mk sc
          have Ic := Kept.mk ic
          clear xc sc ic
          go_wp2_with fail
          cases d2 : belowA F1 F2 with
          | false =>
            have D2 := Kept.mk d2
            clear d2
            ((with_reducible refine (w_below F1 F2 false _ _ _ Xb.out Xc.out FFb.out FFc.out D2.out).mono ?_); rintro e W6 ⟨rfl, hb1⟩)
            clear Xb Sb Ib kb0 kb1 kb2
            clear Xc Sc Ic kc0 kc1 kc2
            replace hB := Kept.mk (hB.out.trans ((hb1).mono hB.out.size))
            replace Va := Kept.mk (Va.out.keep (hb1))
            replace Vb := Kept.mk (Vb.out.keep (hb1))
            replace Vc := Kept.mk (Vc.out.keep (hb1))
            clear hb1
            obtain ⟨qa, ra, xa, sa, ia, ka0, ka1, ka2⟩ := Va.out.open_
            have Xa := Kept.mk xa
            have Sa := Kept.mk sa
            have Ia := Kept.mk ia
            clear xa sa ia
            go_wp2_with fail
            cases oa : okA F0 with
            | false =>
              have Oa := Kept.mk oa
              clear oa
              have HB := Kept.mk (below_bad (A := F0) (B := F1) (.inl Oa.out))
              ((with_reducible refine (w_check F0 2 _ _ Xa.out FFa.out (chkA_no Oa.out)).mono ?_); rintro e W7 ⟨rfl, hb1⟩)
              clear Xa Sa Ia ka0 ka1 ka2
              replace hB := Kept.mk (hB.out.trans ((hb1).mono hB.out.size))
              replace Va := Kept.mk (Va.out.keep (hb1))
              replace Vb := Kept.mk (Vb.out.keep (hb1))
              replace Vc := Kept.mk (Vc.out.keep (hb1))
              clear hb1
              obtain ⟨qa, ra, xa, sa, ia, ka0, ka1, ka2⟩ := Va.out.open_
              have Xa := Kept.mk xa
              have Sa := Kept.mk sa
              have Ia := Kept.mk ia
              clear xa sa ia
              obtain ⟨qb, rb, xb, sb, ib, kb0, kb1, kb2⟩ := Vb.out.open_
              have Xb := Kept.mk xb
              have Sb := Kept.mk sb
              have Ib := Kept.mk ib
              clear xb sb ib
              go_wp2_with fail
              ((with_reducible refine (w_below F0 F1 false _ _ _ Xa.out Xb.out FFa.out FFb.out HB.out).mono ?_); rintro e W8 ⟨rfl, hb1⟩)
              clear Xa Sa Ia ka0 ka1 ka2
              clear Xb Sb Ib kb0 kb1 kb2
              replace hB := Kept.mk (hB.out.trans ((hb1).mono hB.out.size))
              replace Va := Kept.mk (Va.out.keep (hb1))
              replace Vb := Kept.mk (Vb.out.keep (hb1))
              replace Vc := Kept.mk (Vc.out.keep (hb1))
              clear hb1
              go_wp2
              all_goals go_ret
              all_goals exact ⟨rfl, hB.out⟩
            | true =>
              have Oa := Kept.mk oa
              clear oa
              ((with_reducible refine (w_check F0 0 _ _ Xa.out FFa.out (chkA_yes Oa.out)).mono ?_); rintro e W7 ⟨rfl, hb1⟩)
              clear Xa Sa Ia ka0 ka1 ka2
              replace hB := Kept.mk (hB.out.trans ((hb1).mono hB.out.size))
              replace Va := Kept.mk (Va.out.keep (hb1))
              replace Vb := Kept.mk (Vb.out.keep (hb1))
              replace Vc := Kept.mk (Vc.out.keep (hb1))
              clear hb1
              obtain ⟨qb, rb, xb, sb, ib, kb0, kb1, kb2⟩ := Vb.out.open_
              have Xb := Kept.mk xb
              have Sb := Kept.mk sb
              have Ib := Kept.mk ib
              clear xb sb ib
              go_wp2_with fail
              cases ob : okA F1 with
              | false =>
                have Ob := Kept.mk ob
                clear ob
                have HB := Kept.mk (below_bad (A := F0) (B := F1) (.inr Ob.out))
                ((with_reducible refine (w_check F1 2 _ _ Xb.out FFb.out (chkA_no Ob.out)).mono ?_); rintro e W8 ⟨rfl, hb1⟩)
                clear Xb Sb Ib kb0 kb1 kb2
                replace hB := Kept.mk (hB.out.trans ((hb1).mono hB.out.size))
                replace Va := Kept.mk (Va.out.keep (hb1))
                replace Vb := Kept.mk (Vb.out.keep (hb1))
                replace Vc := Kept.mk (Vc.out.keep (hb1))
                clear hb1
                obtain ⟨qa, ra, xa, sa, ia, ka0, ka1, ka2⟩ := Va.out.open_
                have Xa := Kept.mk xa
                have Sa := Kept.mk sa
                have Ia := Kept.mk ia
                clear xa sa ia
                obtain ⟨qb, rb, xb, sb, ib, kb0, kb1, kb2⟩ := Vb.out.open_
                have Xb := Kept.mk xb
                have Sb := Kept.mk sb
                have Ib := Kept.mk ib
                clear xb sb ib
                go_wp2_with fail
                ((with_reducible refine (w_below F0 F1 false _ _ _ Xa.out Xb.out FFa.out FFb.out HB.out).mono ?_); rintro e W9 ⟨rfl, hb1⟩)
                clear Xa Sa Ia ka0 ka1 ka2
                clear Xb Sb Ib kb0 kb1 kb2
                replace hB := Kept.mk (hB.out.trans ((hb1).mono hB.out.size))
                replace Va := Kept.mk (Va.out.keep (hb1))
                replace Vb := Kept.mk (Vb.out.keep (hb1))
                replace Vc := Kept.mk (Vc.out.keep (hb1))
                clear hb1
                go_wp2
                all_goals go_ret
                all_goals exact ⟨rfl, hB.out⟩
              | true =>
                have Ob := Kept.mk ob
                clear ob
                ((with_reducible refine (w_check F1 0 _ _ Xb.out FFb.out (chkA_yes Ob.out)).mono ?_); rintro e W8 ⟨rfl, hb1⟩)
                clear Xb Sb Ib kb0 kb1 kb2
                replace hB := Kept.mk (hB.out.trans ((hb1).mono hB.out.size))
                replace Va := Kept.mk (Va.out.keep (hb1))
                replace Vb := Kept.mk (Vb.out.keep (hb1))
                replace Vc := Kept.mk (Vc.out.keep (hb1))
                clear hb1
                obtain ⟨qa, ra, xa, sa, ia, ka0, ka1, ka2⟩ := Va.out.open_
                have Xa := Kept.mk xa
                have Sa := Kept.mk sa
                have Ia := Kept.mk ia
                clear xa sa ia
                obtain ⟨qb, rb, xb, sb, ib, kb0, kb1, kb2⟩ := Vb.out.open_
                have Xb := Kept.mk xb
                have Sb := Kept.mk sb
                have Ib := Kept.mk ib
                clear xb sb ib
                go_wp2_with fail
                have OA := Kept.mk (okA_iff.1 Oa.out)
                have OB := Kept.mk (okA_iff.1 Ob.out)
                obtain ⟨G, hG⟩ : ∃ G, mergeF F0 F1.slots = G := ⟨_, rfl⟩
                obtain ⟨n, hn⟩ : ∃ n : Int, (mergeN F0 F1.slots : Int) = n := ⟨_, rfl⟩
                obtain ⟨o, ho⟩ : ∃ o : Int, (mergeO F0 F1.slots : Int) = o := ⟨_, rfl⟩
                have FG := Kept.mk (show FitA G by rw [← hG]; exact okA_fit (merge_okA _ OA.out).1)
                have U1 := Kept.mk (show belowA F0 G = true by rw [← hG]; exact merge_upA OA.out _)
                have HG := Kept.mk hG
                have HN := Kept.mk hn
                have HO := Kept.mk ho
                clear hG hn ho
                by_cases h0 : 0 < o
                · skip
                  ((with_reducible refine (ga_merge F0 F1.slots G n o _ _ _ Xa.out Sb.out FFa.out FFb.out.ents (by omega) HG.out HN.out HO.out).mono ?_); rintro e U ⟨v', rfl, ⟨p', m', rfl, hp', hm'⟩, hb1⟩)
                  obtain ⟨K1, K2, K3, K4, K5⟩ := anew U G p' m' hp' hm' U.heap.size rfl
                  clear hp' hm'
                  clear Xa Sa Ia ka0 ka1 ka2
                  clear Xb Sb Ib kb0 kb1 kb2
                  replace hB := Kept.mk (hB.out.trans ((hb1).mono hB.out.size))
                  replace Va := Kept.mk (Va.out.keep (hb1))
                  replace Vb := Kept.mk (Vb.out.keep (hb1))
                  replace Vc := Kept.mk (Vc.out.keep (hb1))
                  clear hb1
                  go_wp2_with (have hz0 := K1; refine wpList_storeN 25 rfl (.tmp 9) (.tmp 63) rfl U.heap.size [.int .i64 G.cap, p', m'] size_ar rfl rfl K1.out rfl K2.out K5.out ?_; replace hB := Kept.mk (hB.out.trans ((K3.out).mono hB.out.size)); replace Va := Kept.mk (Va.out.keep (K3.out)); replace Vb := Kept.mk (Vb.out.keep (K3.out)); replace Vc := Kept.mk (Vc.out.keep (K3.out)); have Vj := Kept.mk K4.out; clear hz0 K1 K2 K3 K4 K5; generalize setN (U.alloc (.cells #[.int .i64 0, .slice none 0 0, .slice none 0 0] 25)) U.heap.size 0 [.int .i64 G.cap, p', m'] = W9 at *; generalize U.heap.size = gj at *; obtain ⟨qa, ra, xa, sa, ia, ka0, ka1, ka2⟩ := Va.out.open_; have Xa := Kept.mk xa; have Sa := Kept.mk sa; have Ia := Kept.mk ia; clear xa sa ia; obtain ⟨qj, rj, xj, sj, ij, kj0, kj1, kj2⟩ := Vj.out.open_; have Xj := Kept.mk xj; have Sj := Kept.mk sj; have Ij := Kept.mk ij; clear xj sj ij)
                  ((with_reducible refine (w_below F0 G true _ _ _ Xa.out Xj.out FFa.out FG.out U1.out).mono ?_); rintro e W10 ⟨rfl, hb1⟩)
                  clear Xa Sa Ia ka0 ka1 ka2
                  clear Xj Sj Ij kj0 kj1 kj2
                  replace hB := Kept.mk (hB.out.trans ((hb1).mono hB.out.size))
                  replace Va := Kept.mk (Va.out.keep (hb1))
                  replace Vb := Kept.mk (Vb.out.keep (hb1))
                  replace Vc := Kept.mk (Vc.out.keep (hb1))
                  replace Vj := Kept.mk (Vj.out.keep (hb1))
                  clear hb1
                  go_wp2
                  all_goals go_ret
                  all_goals exact ⟨rfl, hB.out⟩
                · have hz : mergeO F0 F1.slots = 0 := by have := HO.out; omega
                  have U2 := Kept.mk (show belowA F1 G = true by have := merge_upB OA.out OB.out hz; rwa [HG.out] at this)
                  have U4 := Kept.mk (belowA_self OA.out)
                  have U3 := Kept.mk (show belowA F0 F2 = true → belowA F1 F2 = true → belowA G F2 = true by intro h1 h2; have := merge_both OA.out OB.out hz h1 h2; rwa [HG.out] at this)
                  clear hz
                  ((with_reducible refine (ga_merge F0 F1.slots G n o _ _ _ Xa.out Sb.out FFa.out FFb.out.ents (by omega) HG.out HN.out HO.out).mono ?_); rintro e U ⟨v', rfl, ⟨p', m', rfl, hp', hm'⟩, hb1⟩)
                  obtain ⟨K1, K2, K3, K4, K5⟩ := anew U G p' m' hp' hm' U.heap.size rfl
                  clear hp' hm'
                  clear Xa Sa Ia ka0 ka1 ka2
                  clear Xb Sb Ib kb0 kb1 kb2
                  replace hB := Kept.mk (hB.out.trans ((hb1).mono hB.out.size))
                  replace Va := Kept.mk (Va.out.keep (hb1))
                  replace Vb := Kept.mk (Vb.out.keep (hb1))
                  replace Vc := Kept.mk (Vc.out.keep (hb1))
                  clear hb1
                  go_wp2_with (have hz0 := K1; refine wpList_storeN 25 rfl (.tmp 9) (.tmp 63) rfl U.heap.size [.int .i64 G.cap, p', m'] size_ar rfl rfl K1.out rfl K2.out K5.out ?_; replace hB := Kept.mk (hB.out.trans ((K3.out).mono hB.out.size)); replace Va := Kept.mk (Va.out.keep (K3.out)); replace Vb := Kept.mk (Vb.out.keep (K3.out)); replace Vc := Kept.mk (Vc.out.keep (K3.out)); have Vj := Kept.mk K4.out; clear hz0 K1 K2 K3 K4 K5; generalize setN (U.alloc (.cells #[.int .i64 0, .slice none 0 0, .slice none 0 0] 25)) U.heap.size 0 [.int .i64 G.cap, p', m'] = W9 at *; generalize U.heap.size = gj at *; obtain ⟨qa, ra, xa, sa, ia, ka0, ka1, ka2⟩ := Va.out.open_; have Xa := Kept.mk xa; have Sa := Kept.mk sa; have Ia := Kept.mk ia; clear xa sa ia; obtain ⟨qc, rc, xc, sc, ic, kc0, kc1, kc2⟩ := Vc.out.open_; have Xc := Kept.mk xc; have Sc := Kept.mk sc; have Ic := Kept.mk ic; clear xc sc ic)
                  cases d3 : belowA F0 F2 with
                  | false =>
                    have D3 := Kept.mk d3
                    clear d3
                    ((with_reducible refine (w_below F0 F2 false _ _ _ Xa.out Xc.out FFa.out FFc.out D3.out).mono ?_); rintro e W10 ⟨rfl, hb1⟩)
                    clear Xa Sa Ia ka0 ka1 ka2
                    clear Xc Sc Ic kc0 kc1 kc2
                    replace hB := Kept.mk (hB.out.trans ((hb1).mono hB.out.size))
                    replace Va := Kept.mk (Va.out.keep (hb1))
                    replace Vb := Kept.mk (Vb.out.keep (hb1))
                    replace Vc := Kept.mk (Vc.out.keep (hb1))
                    replace Vj := Kept.mk (Vj.out.keep (hb1))
                    clear hb1
                    obtain ⟨qa, ra, xa, sa, ia, ka0, ka1, ka2⟩ := Va.out.open_
                    have Xa := Kept.mk xa
                    have Sa := Kept.mk sa
                    have Ia := Kept.mk ia
                    clear xa sa ia
                    obtain ⟨qj, rj, xj, sj, ij, kj0, kj1, kj2⟩ := Vj.out.open_
                    have Xj := Kept.mk xj
                    have Sj := Kept.mk sj
                    have Ij := Kept.mk ij
                    clear xj sj ij
                    go_wp2_with fail
                    ((with_reducible refine (w_below F0 G true _ _ _ Xa.out Xj.out FFa.out FG.out U1.out).mono ?_); rintro e W11 ⟨rfl, hb1⟩)
                    clear Xa Sa Ia ka0 ka1 ka2
                    clear Xj Sj Ij kj0 kj1 kj2
                    replace hB := Kept.mk (hB.out.trans ((hb1).mono hB.out.size))
                    replace Va := Kept.mk (Va.out.keep (hb1))
                    replace Vb := Kept.mk (Vb.out.keep (hb1))
                    replace Vc := Kept.mk (Vc.out.keep (hb1))
                    replace Vj := Kept.mk (Vj.out.keep (hb1))
                    clear hb1
                    obtain ⟨qb, rb, xb, sb, ib, kb0, kb1, kb2⟩ := Vb.out.open_
                    have Xb := Kept.mk xb
                    have Sb := Kept.mk sb
                    have Ib := Kept.mk ib
                    clear xb sb ib
                    obtain ⟨qj, rj, xj, sj, ij, kj0, kj1, kj2⟩ := Vj.out.open_
                    have Xj := Kept.mk xj
                    have Sj := Kept.mk sj
                    have Ij := Kept.mk ij
                    clear xj sj ij
                    go_wp2_with fail
                    ((with_reducible refine (w_below F1 G true _ _ _ Xb.out Xj.out FFb.out FG.out U2.out).mono ?_); rintro e W12 ⟨rfl, hb1⟩)
                    clear Xb Sb Ib kb0 kb1 kb2
                    clear Xj Sj Ij kj0 kj1 kj2
                    replace hB := Kept.mk (hB.out.trans ((hb1).mono hB.out.size))
                    replace Va := Kept.mk (Va.out.keep (hb1))
                    replace Vb := Kept.mk (Vb.out.keep (hb1))
                    replace Vc := Kept.mk (Vc.out.keep (hb1))
                    replace Vj := Kept.mk (Vj.out.keep (hb1))
                    clear hb1
                    obtain ⟨qa, ra, xa, sa, ia, ka0, ka1, ka2⟩ := Va.out.open_
                    have Xa := Kept.mk xa
                    have Sa := Kept.mk sa
                    have Ia := Kept.mk ia
                    clear xa sa ia
                    go_wp2_with fail
                    ((with_reducible refine (w_below F0 F0 true _ _ _ Xa.out Xa.out FFa.out FFa.out U4.out).mono ?_); rintro e W13 ⟨rfl, hb1⟩)
                    clear Xa Sa Ia ka0 ka1 ka2
                    replace hB := Kept.mk (hB.out.trans ((hb1).mono hB.out.size))
                    replace Va := Kept.mk (Va.out.keep (hb1))
                    replace Vb := Kept.mk (Vb.out.keep (hb1))
                    replace Vc := Kept.mk (Vc.out.keep (hb1))
                    replace Vj := Kept.mk (Vj.out.keep (hb1))
                    clear hb1
                    go_wp2
                    all_goals go_ret
                    all_goals exact ⟨rfl, hB.out⟩
                  | true =>
                    have D3 := Kept.mk d3
                    clear d3
                    ((with_reducible refine (w_below F0 F2 true _ _ _ Xa.out Xc.out FFa.out FFc.out D3.out).mono ?_); rintro e W10 ⟨rfl, hb1⟩)
                    clear Xa Sa Ia ka0 ka1 ka2
                    clear Xc Sc Ic kc0 kc1 kc2
                    replace hB := Kept.mk (hB.out.trans ((hb1).mono hB.out.size))
                    replace Va := Kept.mk (Va.out.keep (hb1))
                    replace Vb := Kept.mk (Vb.out.keep (hb1))
                    replace Vc := Kept.mk (Vc.out.keep (hb1))
                    replace Vj := Kept.mk (Vj.out.keep (hb1))
                    clear hb1
                    obtain ⟨qb, rb, xb, sb, ib, kb0, kb1, kb2⟩ := Vb.out.open_
                    have Xb := Kept.mk xb
                    have Sb := Kept.mk sb
                    have Ib := Kept.mk ib
                    clear xb sb ib
                    obtain ⟨qc, rc, xc, sc, ic, kc0, kc1, kc2⟩ := Vc.out.open_
                    have Xc := Kept.mk xc
                    have Sc := Kept.mk sc
                    have Ic := Kept.mk ic
                    clear xc sc ic
                    go_wp2_with fail
                    cases d4 : belowA F1 F2 with
                    | false =>
                      have D4 := Kept.mk d4
                      clear d4
                      ((with_reducible refine (w_below F1 F2 false _ _ _ Xb.out Xc.out FFb.out FFc.out D4.out).mono ?_); rintro e W11 ⟨rfl, hb1⟩)
                      clear Xb Sb Ib kb0 kb1 kb2
                      clear Xc Sc Ic kc0 kc1 kc2
                      replace hB := Kept.mk (hB.out.trans ((hb1).mono hB.out.size))
                      replace Va := Kept.mk (Va.out.keep (hb1))
                      replace Vb := Kept.mk (Vb.out.keep (hb1))
                      replace Vc := Kept.mk (Vc.out.keep (hb1))
                      replace Vj := Kept.mk (Vj.out.keep (hb1))
                      clear hb1
                      obtain ⟨qa, ra, xa, sa, ia, ka0, ka1, ka2⟩ := Va.out.open_
                      have Xa := Kept.mk xa
                      have Sa := Kept.mk sa
                      have Ia := Kept.mk ia
                      clear xa sa ia
                      obtain ⟨qj, rj, xj, sj, ij, kj0, kj1, kj2⟩ := Vj.out.open_
                      have Xj := Kept.mk xj
                      have Sj := Kept.mk sj
                      have Ij := Kept.mk ij
                      clear xj sj ij
                      go_wp2_with fail
                      ((with_reducible refine (w_below F0 G true _ _ _ Xa.out Xj.out FFa.out FG.out U1.out).mono ?_); rintro e W12 ⟨rfl, hb1⟩)
                      clear Xa Sa Ia ka0 ka1 ka2
                      clear Xj Sj Ij kj0 kj1 kj2
                      replace hB := Kept.mk (hB.out.trans ((hb1).mono hB.out.size))
                      replace Va := Kept.mk (Va.out.keep (hb1))
                      replace Vb := Kept.mk (Vb.out.keep (hb1))
                      replace Vc := Kept.mk (Vc.out.keep (hb1))
                      replace Vj := Kept.mk (Vj.out.keep (hb1))
                      clear hb1
                      obtain ⟨qb, rb, xb, sb, ib, kb0, kb1, kb2⟩ := Vb.out.open_
                      have Xb := Kept.mk xb
                      have Sb := Kept.mk sb
                      have Ib := Kept.mk ib
                      clear xb sb ib
                      obtain ⟨qj, rj, xj, sj, ij, kj0, kj1, kj2⟩ := Vj.out.open_
                      have Xj := Kept.mk xj
                      have Sj := Kept.mk sj
                      have Ij := Kept.mk ij
                      clear xj sj ij
                      go_wp2_with fail
                      ((with_reducible refine (w_below F1 G true _ _ _ Xb.out Xj.out FFb.out FG.out U2.out).mono ?_); rintro e W13 ⟨rfl, hb1⟩)
                      clear Xb Sb Ib kb0 kb1 kb2
                      clear Xj Sj Ij kj0 kj1 kj2
                      replace hB := Kept.mk (hB.out.trans ((hb1).mono hB.out.size))
                      replace Va := Kept.mk (Va.out.keep (hb1))
                      replace Vb := Kept.mk (Vb.out.keep (hb1))
                      replace Vc := Kept.mk (Vc.out.keep (hb1))
                      replace Vj := Kept.mk (Vj.out.keep (hb1))
                      clear hb1
                      obtain ⟨qa, ra, xa, sa, ia, ka0, ka1, ka2⟩ := Va.out.open_
                      have Xa := Kept.mk xa
                      have Sa := Kept.mk sa
                      have Ia := Kept.mk ia
                      clear xa sa ia
                      go_wp2_with fail
                      ((with_reducible refine (w_below F0 F0 true _ _ _ Xa.out Xa.out FFa.out FFa.out U4.out).mono ?_); rintro e W14 ⟨rfl, hb1⟩)
                      clear Xa Sa Ia ka0 ka1 ka2
                      replace hB := Kept.mk (hB.out.trans ((hb1).mono hB.out.size))
                      replace Va := Kept.mk (Va.out.keep (hb1))
                      replace Vb := Kept.mk (Vb.out.keep (hb1))
                      replace Vc := Kept.mk (Vc.out.keep (hb1))
                      replace Vj := Kept.mk (Vj.out.keep (hb1))
                      clear hb1
                      go_wp2
                      all_goals go_ret
                      all_goals exact ⟨rfl, hB.out⟩
                    | true =>
                      have D4 := Kept.mk d4
                      clear d4
                      have U5 := Kept.mk (U3.out D3.out D4.out)
                      ((with_reducible refine (w_below F1 F2 true _ _ _ Xb.out Xc.out FFb.out FFc.out D4.out).mono ?_); rintro e W11 ⟨rfl, hb1⟩)
                      clear Xb Sb Ib kb0 kb1 kb2
                      clear Xc Sc Ic kc0 kc1 kc2
                      replace hB := Kept.mk (hB.out.trans ((hb1).mono hB.out.size))
                      replace Va := Kept.mk (Va.out.keep (hb1))
                      replace Vb := Kept.mk (Vb.out.keep (hb1))
                      replace Vc := Kept.mk (Vc.out.keep (hb1))
                      replace Vj := Kept.mk (Vj.out.keep (hb1))
                      clear hb1
                      obtain ⟨qa, ra, xa, sa, ia, ka0, ka1, ka2⟩ := Va.out.open_
                      have Xa := Kept.mk xa
                      have Sa := Kept.mk sa
                      have Ia := Kept.mk ia
                      clear xa sa ia
                      obtain ⟨qj, rj, xj, sj, ij, kj0, kj1, kj2⟩ := Vj.out.open_
                      have Xj := Kept.mk xj
                      have Sj := Kept.mk sj
                      have Ij := Kept.mk ij
                      clear xj sj ij
                      go_wp2_with fail
                      ((with_reducible refine (w_below F0 G true _ _ _ Xa.out Xj.out FFa.out FG.out U1.out).mono ?_); rintro e W12 ⟨rfl, hb1⟩)
                      clear Xa Sa Ia ka0 ka1 ka2
                      clear Xj Sj Ij kj0 kj1 kj2
                      replace hB := Kept.mk (hB.out.trans ((hb1).mono hB.out.size))
                      replace Va := Kept.mk (Va.out.keep (hb1))
                      replace Vb := Kept.mk (Vb.out.keep (hb1))
                      replace Vc := Kept.mk (Vc.out.keep (hb1))
                      replace Vj := Kept.mk (Vj.out.keep (hb1))
                      clear hb1
                      obtain ⟨qb, rb, xb, sb, ib, kb0, kb1, kb2⟩ := Vb.out.open_
                      have Xb := Kept.mk xb
                      have Sb := Kept.mk sb
                      have Ib := Kept.mk ib
                      clear xb sb ib
                      obtain ⟨qj, rj, xj, sj, ij, kj0, kj1, kj2⟩ := Vj.out.open_
                      have Xj := Kept.mk xj
                      have Sj := Kept.mk sj
                      have Ij := Kept.mk ij
                      clear xj sj ij
                      go_wp2_with fail
                      ((with_reducible refine (w_below F1 G true _ _ _ Xb.out Xj.out FFb.out FG.out U2.out).mono ?_); rintro e W13 ⟨rfl, hb1⟩)
                      clear Xb Sb Ib kb0 kb1 kb2
                      clear Xj Sj Ij kj0 kj1 kj2
                      replace hB := Kept.mk (hB.out.trans ((hb1).mono hB.out.size))
                      replace Va := Kept.mk (Va.out.keep (hb1))
                      replace Vb := Kept.mk (Vb.out.keep (hb1))
                      replace Vc := Kept.mk (Vc.out.keep (hb1))
                      replace Vj := Kept.mk (Vj.out.keep (hb1))
                      clear hb1
                      obtain ⟨qj, rj, xj, sj, ij, kj0, kj1, kj2⟩ := Vj.out.open_
                      have Xj := Kept.mk xj
                      have Sj := Kept.mk sj
                      have Ij := Kept.mk ij
                      clear xj sj ij
                      obtain ⟨qc, rc, xc, sc, ic, kc0, kc1, kc2⟩ := Vc.out.open_
                      have Xc := Kept.mk xc
                      have Sc := Kept.mk sc
                      have Ic := Kept.mk ic
                      clear xc sc ic
                      go_wp2_with fail
                      ((with_reducible refine (w_below G F2 true _ _ _ Xj.out Xc.out FG.out FFc.out U5.out).mono ?_); rintro e W14 ⟨rfl, hb1⟩)
                      clear Xj Sj Ij kj0 kj1 kj2
                      clear Xc Sc Ic kc0 kc1 kc2
                      replace hB := Kept.mk (hB.out.trans ((hb1).mono hB.out.size))
                      replace Va := Kept.mk (Va.out.keep (hb1))
                      replace Vb := Kept.mk (Vb.out.keep (hb1))
                      replace Vc := Kept.mk (Vc.out.keep (hb1))
                      replace Vj := Kept.mk (Vj.out.keep (hb1))
                      clear hb1
                      obtain ⟨qa, ra, xa, sa, ia, ka0, ka1, ka2⟩ := Va.out.open_
                      have Xa := Kept.mk xa
                      have Sa := Kept.mk sa
                      have Ia := Kept.mk ia
                      clear xa sa ia
                      go_wp2_with fail
                      ((with_reducible refine (w_below F0 F0 true _ _ _ Xa.out Xa.out FFa.out FFa.out U4.out).mono ?_); rintro e W15 ⟨rfl, hb1⟩)
                      clear Xa Sa Ia ka0 ka1 ka2
                      replace hB := Kept.mk (hB.out.trans ((hb1).mono hB.out.size))
                      replace Va := Kept.mk (Va.out.keep (hb1))
                      replace Vb := Kept.mk (Vb.out.keep (hb1))
                      replace Vc := Kept.mk (Vc.out.keep (hb1))
                      replace Vj := Kept.mk (Vj.out.keep (hb1))
                      clear hb1
                      go_wp2
                      all_goals go_ret
                      all_goals exact ⟨rfl, hB.out⟩
          | true =>
            have D2 := Kept.mk d2
            clear d2
            have T := Kept.mk (belowA_trans D1.out D2.out)
            ((with_reducible refine (w_below F1 F2 true _ _ _ Xb.out Xc.out FFb.out FFc.out D2.out).mono ?_); rintro e W6 ⟨rfl, hb1⟩)
            clear Xb Sb Ib kb0 kb1 kb2
            clear Xc Sc Ic kc0 kc1 kc2
            replace hB := Kept.mk (hB.out.trans ((hb1).mono hB.out.size))
            replace Va := Kept.mk (Va.out.keep (hb1))
            replace Vb := Kept.mk (Vb.out.keep (hb1))
            replace Vc := Kept.mk (Vc.out.keep (hb1))
            clear hb1
            obtain ⟨qa, ra, xa, sa, ia, ka0, ka1, ka2⟩ := Va.out.open_
            have Xa := Kept.mk xa
            have Sa := Kept.mk sa
            have Ia := Kept.mk ia
            clear xa sa ia
            obtain ⟨qc, rc, xc, sc, ic, kc0, kc1, kc2⟩ := Vc.out.open_
            have Xc := Kept.mk xc
            have Sc := Kept.mk sc
            have Ic := Kept.mk ic
            clear xc sc ic
            go_wp2_with fail
            ((with_reducible refine (w_below F0 F2 true _ _ _ Xa.out Xc.out FFa.out FFc.out T.out).mono ?_); rintro e W7 ⟨rfl, hb1⟩)
            clear Xa Sa Ia ka0 ka1 ka2
            clear Xc Sc Ic kc0 kc1 kc2
            replace hB := Kept.mk (hB.out.trans ((hb1).mono hB.out.size))
            replace Va := Kept.mk (Va.out.keep (hb1))
            replace Vb := Kept.mk (Vb.out.keep (hb1))
            replace Vc := Kept.mk (Vc.out.keep (hb1))
            clear hb1
            obtain ⟨qa, ra, xa, sa, ia, ka0, ka1, ka2⟩ := Va.out.open_
            have Xa := Kept.mk xa
            have Sa := Kept.mk sa
            have Ia := Kept.mk ia
            clear xa sa ia
            go_wp2_with fail
            cases oa : okA F0 with
            | false =>
              have Oa := Kept.mk oa
              clear oa
              have HB := Kept.mk (below_bad (A := F0) (B := F1) (.inl Oa.out))
              ((with_reducible refine (w_check F0 2 _ _ Xa.out FFa.out (chkA_no Oa.out)).mono ?_); rintro e W8 ⟨rfl, hb1⟩)
              clear Xa Sa Ia ka0 ka1 ka2
              replace hB := Kept.mk (hB.out.trans ((hb1).mono hB.out.size))
              replace Va := Kept.mk (Va.out.keep (hb1))
              replace Vb := Kept.mk (Vb.out.keep (hb1))
              replace Vc := Kept.mk (Vc.out.keep (hb1))
              clear hb1
              obtain ⟨qa, ra, xa, sa, ia, ka0, ka1, ka2⟩ := Va.out.open_
              have Xa := Kept.mk xa
              have Sa := Kept.mk sa
              have Ia := Kept.mk ia
              clear xa sa ia
              obtain ⟨qb, rb, xb, sb, ib, kb0, kb1, kb2⟩ := Vb.out.open_
              have Xb := Kept.mk xb
              have Sb := Kept.mk sb
              have Ib := Kept.mk ib
              clear xb sb ib
              go_wp2_with fail
              ((with_reducible refine (w_below F0 F1 false _ _ _ Xa.out Xb.out FFa.out FFb.out HB.out).mono ?_); rintro e W9 ⟨rfl, hb1⟩)
              clear Xa Sa Ia ka0 ka1 ka2
              clear Xb Sb Ib kb0 kb1 kb2
              replace hB := Kept.mk (hB.out.trans ((hb1).mono hB.out.size))
              replace Va := Kept.mk (Va.out.keep (hb1))
              replace Vb := Kept.mk (Vb.out.keep (hb1))
              replace Vc := Kept.mk (Vc.out.keep (hb1))
              clear hb1
              go_wp2
              all_goals go_ret
              all_goals exact ⟨rfl, hB.out⟩
            | true =>
              have Oa := Kept.mk oa
              clear oa
              ((with_reducible refine (w_check F0 0 _ _ Xa.out FFa.out (chkA_yes Oa.out)).mono ?_); rintro e W8 ⟨rfl, hb1⟩)
              clear Xa Sa Ia ka0 ka1 ka2
              replace hB := Kept.mk (hB.out.trans ((hb1).mono hB.out.size))
              replace Va := Kept.mk (Va.out.keep (hb1))
              replace Vb := Kept.mk (Vb.out.keep (hb1))
              replace Vc := Kept.mk (Vc.out.keep (hb1))
              clear hb1
              obtain ⟨qb, rb, xb, sb, ib, kb0, kb1, kb2⟩ := Vb.out.open_
              have Xb := Kept.mk xb
              have Sb := Kept.mk sb
              have Ib := Kept.mk ib
              clear xb sb ib
              go_wp2_with fail
              cases ob : okA F1 with
              | false =>
                have Ob := Kept.mk ob
                clear ob
                have HB := Kept.mk (below_bad (A := F0) (B := F1) (.inr Ob.out))
                ((with_reducible refine (w_check F1 2 _ _ Xb.out FFb.out (chkA_no Ob.out)).mono ?_); rintro e W9 ⟨rfl, hb1⟩)
                clear Xb Sb Ib kb0 kb1 kb2
                replace hB := Kept.mk (hB.out.trans ((hb1).mono hB.out.size))
                replace Va := Kept.mk (Va.out.keep (hb1))
                replace Vb := Kept.mk (Vb.out.keep (hb1))
                replace Vc := Kept.mk (Vc.out.keep (hb1))
                clear hb1
                obtain ⟨qa, ra, xa, sa, ia, ka0, ka1, ka2⟩ := Va.out.open_
                have Xa := Kept.mk xa
                have Sa := Kept.mk sa
                have Ia := Kept.mk ia
                clear xa sa ia
                obtain ⟨qb, rb, xb, sb, ib, kb0, kb1, kb2⟩ := Vb.out.open_
                have Xb := Kept.mk xb
                have Sb := Kept.mk sb
                have Ib := Kept.mk ib
                clear xb sb ib
                go_wp2_with fail
                ((with_reducible refine (w_below F0 F1 false _ _ _ Xa.out Xb.out FFa.out FFb.out HB.out).mono ?_); rintro e W10 ⟨rfl, hb1⟩)
                clear Xa Sa Ia ka0 ka1 ka2
                clear Xb Sb Ib kb0 kb1 kb2
                replace hB := Kept.mk (hB.out.trans ((hb1).mono hB.out.size))
                replace Va := Kept.mk (Va.out.keep (hb1))
                replace Vb := Kept.mk (Vb.out.keep (hb1))
                replace Vc := Kept.mk (Vc.out.keep (hb1))
                clear hb1
                go_wp2
                all_goals go_ret
                all_goals exact ⟨rfl, hB.out⟩
              | true =>
                have Ob := Kept.mk ob
                clear ob
                ((with_reducible refine (w_check F1 0 _ _ Xb.out FFb.out (chkA_yes Ob.out)).mono ?_); rintro e W9 ⟨rfl, hb1⟩)
                clear Xb Sb Ib kb0 kb1 kb2
                replace hB := Kept.mk (hB.out.trans ((hb1).mono hB.out.size))
                replace Va := Kept.mk (Va.out.keep (hb1))
                replace Vb := Kept.mk (Vb.out.keep (hb1))
                replace Vc := Kept.mk (Vc.out.keep (hb1))
                clear hb1
                obtain ⟨qa, ra, xa, sa, ia, ka0, ka1, ka2⟩ := Va.out.open_
                have Xa := Kept.mk xa
                have Sa := Kept.mk sa
                have Ia := Kept.mk ia
                clear xa sa ia
                obtain ⟨qb, rb, xb, sb, ib, kb0, kb1, kb2⟩ := Vb.out.open_
                have Xb := Kept.mk xb
                have Sb := Kept.mk sb
                have Ib := Kept.mk ib
                clear xb sb ib
                go_wp2_with fail
                have OA := Kept.mk (okA_iff.1 Oa.out)
                have OB := Kept.mk (okA_iff.1 Ob.out)
                obtain ⟨G, hG⟩ : ∃ G, mergeF F0 F1.slots = G := ⟨_, rfl⟩
                obtain ⟨n, hn⟩ : ∃ n : Int, (mergeN F0 F1.slots : Int) = n := ⟨_, rfl⟩
                obtain ⟨o, ho⟩ : ∃ o : Int, (mergeO F0 F1.slots : Int) = o := ⟨_, rfl⟩
                have FG := Kept.mk (show FitA G by rw [← hG]; exact okA_fit (merge_okA _ OA.out).1)
                have U1 := Kept.mk (show belowA F0 G = true by rw [← hG]; exact merge_upA OA.out _)
                have HG := Kept.mk hG
                have HN := Kept.mk hn
                have HO := Kept.mk ho
                clear hG hn ho
                by_cases h0 : 0 < o
                · skip
                  ((with_reducible refine (ga_merge F0 F1.slots G n o _ _ _ Xa.out Sb.out FFa.out FFb.out.ents (by omega) HG.out HN.out HO.out).mono ?_); rintro e U ⟨v', rfl, ⟨p', m', rfl, hp', hm'⟩, hb1⟩)
                  obtain ⟨K1, K2, K3, K4, K5⟩ := anew U G p' m' hp' hm' U.heap.size rfl
                  clear hp' hm'
                  clear Xa Sa Ia ka0 ka1 ka2
                  clear Xb Sb Ib kb0 kb1 kb2
                  replace hB := Kept.mk (hB.out.trans ((hb1).mono hB.out.size))
                  replace Va := Kept.mk (Va.out.keep (hb1))
                  replace Vb := Kept.mk (Vb.out.keep (hb1))
                  replace Vc := Kept.mk (Vc.out.keep (hb1))
                  clear hb1
                  go_wp2_with (have hz0 := K1; refine wpList_storeN 25 rfl (.tmp 9) (.tmp 63) rfl U.heap.size [.int .i64 G.cap, p', m'] size_ar rfl rfl K1.out rfl K2.out K5.out ?_; replace hB := Kept.mk (hB.out.trans ((K3.out).mono hB.out.size)); replace Va := Kept.mk (Va.out.keep (K3.out)); replace Vb := Kept.mk (Vb.out.keep (K3.out)); replace Vc := Kept.mk (Vc.out.keep (K3.out)); have Vj := Kept.mk K4.out; clear hz0 K1 K2 K3 K4 K5; generalize setN (U.alloc (.cells #[.int .i64 0, .slice none 0 0, .slice none 0 0] 25)) U.heap.size 0 [.int .i64 G.cap, p', m'] = W10 at *; generalize U.heap.size = gj at *; obtain ⟨qa, ra, xa, sa, ia, ka0, ka1, ka2⟩ := Va.out.open_; have Xa := Kept.mk xa; have Sa := Kept.mk sa; have Ia := Kept.mk ia; clear xa sa ia; obtain ⟨qj, rj, xj, sj, ij, kj0, kj1, kj2⟩ := Vj.out.open_; have Xj := Kept.mk xj; have Sj := Kept.mk sj; have Ij := Kept.mk ij; clear xj sj ij)
                  ((with_reducible refine (w_below F0 G true _ _ _ Xa.out Xj.out FFa.out FG.out U1.out).mono ?_); rintro e W11 ⟨rfl, hb1⟩)
                  clear Xa Sa Ia ka0 ka1 ka2
                  clear Xj Sj Ij kj0 kj1 kj2
                  replace hB := Kept.mk (hB.out.trans ((hb1).mono hB.out.size))
                  replace Va := Kept.mk (Va.out.keep (hb1))
                  replace Vb := Kept.mk (Vb.out.keep (hb1))
                  replace Vc := Kept.mk (Vc.out.keep (hb1))
                  replace Vj := Kept.mk (Vj.out.keep (hb1))
                  clear hb1
                  go_wp2
                  all_goals go_ret
                  all_goals exact ⟨rfl, hB.out⟩
                · have hz : mergeO F0 F1.slots = 0 := by have := HO.out; omega
                  have U2 := Kept.mk (show belowA F1 G = true by have := merge_upB OA.out OB.out hz; rwa [HG.out] at this)
                  have U4 := Kept.mk (belowA_self OA.out)
                  have U3 := Kept.mk (show belowA F0 F2 = true → belowA F1 F2 = true → belowA G F2 = true by intro h1 h2; have := merge_both OA.out OB.out hz h1 h2; rwa [HG.out] at this)
                  clear hz
                  ((with_reducible refine (ga_merge F0 F1.slots G n o _ _ _ Xa.out Sb.out FFa.out FFb.out.ents (by omega) HG.out HN.out HO.out).mono ?_); rintro e U ⟨v', rfl, ⟨p', m', rfl, hp', hm'⟩, hb1⟩)
                  obtain ⟨K1, K2, K3, K4, K5⟩ := anew U G p' m' hp' hm' U.heap.size rfl
                  clear hp' hm'
                  clear Xa Sa Ia ka0 ka1 ka2
                  clear Xb Sb Ib kb0 kb1 kb2
                  replace hB := Kept.mk (hB.out.trans ((hb1).mono hB.out.size))
                  replace Va := Kept.mk (Va.out.keep (hb1))
                  replace Vb := Kept.mk (Vb.out.keep (hb1))
                  replace Vc := Kept.mk (Vc.out.keep (hb1))
                  clear hb1
                  go_wp2_with (have hz0 := K1; refine wpList_storeN 25 rfl (.tmp 9) (.tmp 63) rfl U.heap.size [.int .i64 G.cap, p', m'] size_ar rfl rfl K1.out rfl K2.out K5.out ?_; replace hB := Kept.mk (hB.out.trans ((K3.out).mono hB.out.size)); replace Va := Kept.mk (Va.out.keep (K3.out)); replace Vb := Kept.mk (Vb.out.keep (K3.out)); replace Vc := Kept.mk (Vc.out.keep (K3.out)); have Vj := Kept.mk K4.out; clear hz0 K1 K2 K3 K4 K5; generalize setN (U.alloc (.cells #[.int .i64 0, .slice none 0 0, .slice none 0 0] 25)) U.heap.size 0 [.int .i64 G.cap, p', m'] = W10 at *; generalize U.heap.size = gj at *; obtain ⟨qa, ra, xa, sa, ia, ka0, ka1, ka2⟩ := Va.out.open_; have Xa := Kept.mk xa; have Sa := Kept.mk sa; have Ia := Kept.mk ia; clear xa sa ia; obtain ⟨qc, rc, xc, sc, ic, kc0, kc1, kc2⟩ := Vc.out.open_; have Xc := Kept.mk xc; have Sc := Kept.mk sc; have Ic := Kept.mk ic; clear xc sc ic)
                  cases d3 : belowA F0 F2 with
                  | false =>
                    have D3 := Kept.mk d3
                    clear d3
                    ((with_reducible refine (w_below F0 F2 false _ _ _ Xa.out Xc.out FFa.out FFc.out D3.out).mono ?_); rintro e W11 ⟨rfl, hb1⟩)
                    clear Xa Sa Ia ka0 ka1 ka2
                    clear Xc Sc Ic kc0 kc1 kc2
                    replace hB := Kept.mk (hB.out.trans ((hb1).mono hB.out.size))
                    replace Va := Kept.mk (Va.out.keep (hb1))
                    replace Vb := Kept.mk (Vb.out.keep (hb1))
                    replace Vc := Kept.mk (Vc.out.keep (hb1))
                    replace Vj := Kept.mk (Vj.out.keep (hb1))
                    clear hb1
                    obtain ⟨qa, ra, xa, sa, ia, ka0, ka1, ka2⟩ := Va.out.open_
                    have Xa := Kept.mk xa
                    have Sa := Kept.mk sa
                    have Ia := Kept.mk ia
                    clear xa sa ia
                    obtain ⟨qj, rj, xj, sj, ij, kj0, kj1, kj2⟩ := Vj.out.open_
                    have Xj := Kept.mk xj
                    have Sj := Kept.mk sj
                    have Ij := Kept.mk ij
                    clear xj sj ij
                    go_wp2_with fail
                    ((with_reducible refine (w_below F0 G true _ _ _ Xa.out Xj.out FFa.out FG.out U1.out).mono ?_); rintro e W12 ⟨rfl, hb1⟩)
                    clear Xa Sa Ia ka0 ka1 ka2
                    clear Xj Sj Ij kj0 kj1 kj2
                    replace hB := Kept.mk (hB.out.trans ((hb1).mono hB.out.size))
                    replace Va := Kept.mk (Va.out.keep (hb1))
                    replace Vb := Kept.mk (Vb.out.keep (hb1))
                    replace Vc := Kept.mk (Vc.out.keep (hb1))
                    replace Vj := Kept.mk (Vj.out.keep (hb1))
                    clear hb1
                    obtain ⟨qb, rb, xb, sb, ib, kb0, kb1, kb2⟩ := Vb.out.open_
                    have Xb := Kept.mk xb
                    have Sb := Kept.mk sb
                    have Ib := Kept.mk ib
                    clear xb sb ib
                    obtain ⟨qj, rj, xj, sj, ij, kj0, kj1, kj2⟩ := Vj.out.open_
                    have Xj := Kept.mk xj
                    have Sj := Kept.mk sj
                    have Ij := Kept.mk ij
                    clear xj sj ij
                    go_wp2_with fail
                    ((with_reducible refine (w_below F1 G true _ _ _ Xb.out Xj.out FFb.out FG.out U2.out).mono ?_); rintro e W13 ⟨rfl, hb1⟩)
                    clear Xb Sb Ib kb0 kb1 kb2
                    clear Xj Sj Ij kj0 kj1 kj2
                    replace hB := Kept.mk (hB.out.trans ((hb1).mono hB.out.size))
                    replace Va := Kept.mk (Va.out.keep (hb1))
                    replace Vb := Kept.mk (Vb.out.keep (hb1))
                    replace Vc := Kept.mk (Vc.out.keep (hb1))
                    replace Vj := Kept.mk (Vj.out.keep (hb1))
                    clear hb1
                    obtain ⟨qa, ra, xa, sa, ia, ka0, ka1, ka2⟩ := Va.out.open_
                    have Xa := Kept.mk xa
                    have Sa := Kept.mk sa
                    have Ia := Kept.mk ia
                    clear xa sa ia
                    go_wp2_with fail
                    ((with_reducible refine (w_below F0 F0 true _ _ _ Xa.out Xa.out FFa.out FFa.out U4.out).mono ?_); rintro e W14 ⟨rfl, hb1⟩)
                    clear Xa Sa Ia ka0 ka1 ka2
                    replace hB := Kept.mk (hB.out.trans ((hb1).mono hB.out.size))
                    replace Va := Kept.mk (Va.out.keep (hb1))
                    replace Vb := Kept.mk (Vb.out.keep (hb1))
                    replace Vc := Kept.mk (Vc.out.keep (hb1))
                    replace Vj := Kept.mk (Vj.out.keep (hb1))
                    clear hb1
                    go_wp2
                    all_goals go_ret
                    all_goals exact ⟨rfl, hB.out⟩
                  | true =>
                    have D3 := Kept.mk d3
                    clear d3
                    ((with_reducible refine (w_below F0 F2 true _ _ _ Xa.out Xc.out FFa.out FFc.out D3.out).mono ?_); rintro e W11 ⟨rfl, hb1⟩)
                    clear Xa Sa Ia ka0 ka1 ka2
                    clear Xc Sc Ic kc0 kc1 kc2
                    replace hB := Kept.mk (hB.out.trans ((hb1).mono hB.out.size))
                    replace Va := Kept.mk (Va.out.keep (hb1))
                    replace Vb := Kept.mk (Vb.out.keep (hb1))
                    replace Vc := Kept.mk (Vc.out.keep (hb1))
                    replace Vj := Kept.mk (Vj.out.keep (hb1))
                    clear hb1
                    obtain ⟨qb, rb, xb, sb, ib, kb0, kb1, kb2⟩ := Vb.out.open_
                    have Xb := Kept.mk xb
                    have Sb := Kept.mk sb
                    have Ib := Kept.mk ib
                    clear xb sb ib
                    obtain ⟨qc, rc, xc, sc, ic, kc0, kc1, kc2⟩ := Vc.out.open_
                    have Xc := Kept.mk xc
                    have Sc := Kept.mk sc
                    have Ic := Kept.mk ic
                    clear xc sc ic
                    go_wp2_with fail
                    cases d4 : belowA F1 F2 with
                    | false =>
                      have D4 := Kept.mk d4
                      clear d4
                      ((with_reducible refine (w_below F1 F2 false _ _ _ Xb.out Xc.out FFb.out FFc.out D4.out).mono ?_); rintro e W12 ⟨rfl, hb1⟩)
                      clear Xb Sb Ib kb0 kb1 kb2
                      clear Xc Sc Ic kc0 kc1 kc2
                      replace hB := Kept.mk (hB.out.trans ((hb1).mono hB.out.size))
                      replace Va := Kept.mk (Va.out.keep (hb1))
                      replace Vb := Kept.mk (Vb.out.keep (hb1))
                      replace Vc := Kept.mk (Vc.out.keep (hb1))
                      replace Vj := Kept.mk (Vj.out.keep (hb1))
                      clear hb1
                      obtain ⟨qa, ra, xa, sa, ia, ka0, ka1, ka2⟩ := Va.out.open_
                      have Xa := Kept.mk xa
                      have Sa := Kept.mk sa
                      have Ia := Kept.mk ia
                      clear xa sa ia
                      obtain ⟨qj, rj, xj, sj, ij, kj0, kj1, kj2⟩ := Vj.out.open_
                      have Xj := Kept.mk xj
                      have Sj := Kept.mk sj
                      have Ij := Kept.mk ij
                      clear xj sj ij
                      go_wp2_with fail
                      ((with_reducible refine (w_below F0 G true _ _ _ Xa.out Xj.out FFa.out FG.out U1.out).mono ?_); rintro e W13 ⟨rfl, hb1⟩)
                      clear Xa Sa Ia ka0 ka1 ka2
                      clear Xj Sj Ij kj0 kj1 kj2
                      replace hB := Kept.mk (hB.out.trans ((hb1).mono hB.out.size))
                      replace Va := Kept.mk (Va.out.keep (hb1))
                      replace Vb := Kept.mk (Vb.out.keep (hb1))
                      replace Vc := Kept.mk (Vc.out.keep (hb1))
                      replace Vj := Kept.mk (Vj.out.keep (hb1))
                      clear hb1
                      obtain ⟨qb, rb, xb, sb, ib, kb0, kb1, kb2⟩ := Vb.out.open_
                      have Xb := Kept.mk xb
                      have Sb := Kept.mk sb
                      have Ib := Kept.mk ib
                      clear xb sb ib
                      obtain ⟨qj, rj, xj, sj, ij, kj0, kj1, kj2⟩ := Vj.out.open_
                      have Xj := Kept.mk xj
                      have Sj := Kept.mk sj
                      have Ij := Kept.mk ij
                      clear xj sj ij
                      go_wp2_with fail
                      ((with_reducible refine (w_below F1 G true _ _ _ Xb.out Xj.out FFb.out FG.out U2.out).mono ?_); rintro e W14 ⟨rfl, hb1⟩)
                      clear Xb Sb Ib kb0 kb1 kb2
                      clear Xj Sj Ij kj0 kj1 kj2
                      replace hB := Kept.mk (hB.out.trans ((hb1).mono hB.out.size))
                      replace Va := Kept.mk (Va.out.keep (hb1))
                      replace Vb := Kept.mk (Vb.out.keep (hb1))
                      replace Vc := Kept.mk (Vc.out.keep (hb1))
                      replace Vj := Kept.mk (Vj.out.keep (hb1))
                      clear hb1
                      obtain ⟨qa, ra, xa, sa, ia, ka0, ka1, ka2⟩ := Va.out.open_
                      have Xa := Kept.mk xa
                      have Sa := Kept.mk sa
                      have Ia := Kept.mk ia
                      clear xa sa ia
                      go_wp2_with fail
                      ((with_reducible refine (w_below F0 F0 true _ _ _ Xa.out Xa.out FFa.out FFa.out U4.out).mono ?_); rintro e W15 ⟨rfl, hb1⟩)
                      clear Xa Sa Ia ka0 ka1 ka2
                      replace hB := Kept.mk (hB.out.trans ((hb1).mono hB.out.size))
                      replace Va := Kept.mk (Va.out.keep (hb1))
                      replace Vb := Kept.mk (Vb.out.keep (hb1))
                      replace Vc := Kept.mk (Vc.out.keep (hb1))
                      replace Vj := Kept.mk (Vj.out.keep (hb1))
                      clear hb1
                      go_wp2
                      all_goals go_ret
                      all_goals exact ⟨rfl, hB.out⟩
                    | true =>
                      have D4 := Kept.mk d4
                      clear d4
                      have U5 := Kept.mk (U3.out D3.out D4.out)
                      ((with_reducible refine (w_below F1 F2 true _ _ _ Xb.out Xc.out FFb.out FFc.out D4.out).mono ?_); rintro e W12 ⟨rfl, hb1⟩)
                      clear Xb Sb Ib kb0 kb1 kb2
                      clear Xc Sc Ic kc0 kc1 kc2
                      replace hB := Kept.mk (hB.out.trans ((hb1).mono hB.out.size))
                      replace Va := Kept.mk (Va.out.keep (hb1))
                      replace Vb := Kept.mk (Vb.out.keep (hb1))
                      replace Vc := Kept.mk (Vc.out.keep (hb1))
                      replace Vj := Kept.mk (Vj.out.keep (hb1))
                      clear hb1
                      obtain ⟨qa, ra, xa, sa, ia, ka0, ka1, ka2⟩ := Va.out.open_
                      have Xa := Kept.mk xa
                      have Sa := Kept.mk sa
                      have Ia := Kept.mk ia
                      clear xa sa ia
                      obtain ⟨qj, rj, xj, sj, ij, kj0, kj1, kj2⟩ := Vj.out.open_
                      have Xj := Kept.mk xj
                      have Sj := Kept.mk sj
                      have Ij := Kept.mk ij
                      clear xj sj ij
                      go_wp2_with fail
                      ((with_reducible refine (w_below F0 G true _ _ _ Xa.out Xj.out FFa.out FG.out U1.out).mono ?_); rintro e W13 ⟨rfl, hb1⟩)
                      clear Xa Sa Ia ka0 ka1 ka2
                      clear Xj Sj Ij kj0 kj1 kj2
                      replace hB := Kept.mk (hB.out.trans ((hb1).mono hB.out.size))
                      replace Va := Kept.mk (Va.out.keep (hb1))
                      replace Vb := Kept.mk (Vb.out.keep (hb1))
                      replace Vc := Kept.mk (Vc.out.keep (hb1))
                      replace Vj := Kept.mk (Vj.out.keep (hb1))
                      clear hb1
                      obtain ⟨qb, rb, xb, sb, ib, kb0, kb1, kb2⟩ := Vb.out.open_
                      have Xb := Kept.mk xb
                      have Sb := Kept.mk sb
                      have Ib := Kept.mk ib
                      clear xb sb ib
                      obtain ⟨qj, rj, xj, sj, ij, kj0, kj1, kj2⟩ := Vj.out.open_
                      have Xj := Kept.mk xj
                      have Sj := Kept.mk sj
                      have Ij := Kept.mk ij
                      clear xj sj ij
                      go_wp2_with fail
                      ((with_reducible refine (w_below F1 G true _ _ _ Xb.out Xj.out FFb.out FG.out U2.out).mono ?_); rintro e W14 ⟨rfl, hb1⟩)
                      clear Xb Sb Ib kb0 kb1 kb2
                      clear Xj Sj Ij kj0 kj1 kj2
                      replace hB := Kept.mk (hB.out.trans ((hb1).mono hB.out.size))
                      replace Va := Kept.mk (Va.out.keep (hb1))
                      replace Vb := Kept.mk (Vb.out.keep (hb1))
                      replace Vc := Kept.mk (Vc.out.keep (hb1))
                      replace Vj := Kept.mk (Vj.out.keep (hb1))
                      clear hb1
                      obtain ⟨qj, rj, xj, sj, ij, kj0, kj1, kj2⟩ := Vj.out.open_
                      have Xj := Kept.mk xj
                      have Sj := Kept.mk sj
                      have Ij := Kept.mk ij
                      clear xj sj ij
                      obtain ⟨qc, rc, xc, sc, ic, kc0, kc1, kc2⟩ := Vc.out.open_
                      have Xc := Kept.mk xc
                      have Sc := Kept.mk sc
                      have Ic := Kept.mk ic
                      clear xc sc ic
                      go_wp2_with fail
                      ((with_reducible refine (w_below G F2 true _ _ _ Xj.out Xc.out FG.out FFc.out U5.out).mono ?_); rintro e W15 ⟨rfl, hb1⟩)
                      clear Xj Sj Ij kj0 kj1 kj2
                      clear Xc Sc Ic kc0 kc1 kc2
                      replace hB := Kept.mk (hB.out.trans ((hb1).mono hB.out.size))
                      replace Va := Kept.mk (Va.out.keep (hb1))
                      replace Vb := Kept.mk (Vb.out.keep (hb1))
                      replace Vc := Kept.mk (Vc.out.keep (hb1))
                      replace Vj := Kept.mk (Vj.out.keep (hb1))
                      clear hb1
                      obtain ⟨qa, ra, xa, sa, ia, ka0, ka1, ka2⟩ := Va.out.open_
                      have Xa := Kept.mk xa
                      have Sa := Kept.mk sa
                      have Ia := Kept.mk ia
                      clear xa sa ia
                      go_wp2_with fail
                      ((with_reducible refine (w_below F0 F0 true _ _ _ Xa.out Xa.out FFa.out FFa.out U4.out).mono ?_); rintro e W16 ⟨rfl, hb1⟩)
                      clear Xa Sa Ia ka0 ka1 ka2
                      replace hB := Kept.mk (hB.out.trans ((hb1).mono hB.out.size))
                      replace Va := Kept.mk (Va.out.keep (hb1))
                      replace Vb := Kept.mk (Vb.out.keep (hb1))
                      replace Vc := Kept.mk (Vc.out.keep (hb1))
                      replace Vj := Kept.mk (Vj.out.keep (hb1))
                      clear hb1
                      go_wp2
                      all_goals go_ret
                      all_goals exact ⟨rfl, hB.out⟩
set_option maxRecDepth 100000 in
theorem arenaBelow_lifted (os : Os) (started : os.Started) (H : Type) (enc : TypeId × Value → H) :
    ReturnsInHanded {} Try.checked os 6 .any (Rows.arenaBelowSpec.pre6 enc Try.prog Try.f6 Rows.arenaBelowRow.domain false) (Rows.arenaBelowSpec.post enc Try.prog Try.f6 false true false false) := by
  refine returnsInHanded_of_change (C := Try.checked) (by kernel_rfl : ownKnob Try.prog.godebug = none) started (by kernel_rfl) Try.func6
    (ChangeSpec.witness6 (enc := enc) (C := Try.checked) false ⟨#[], #[.agg #[.int .i64 0, .slice none 0 0, .slice none 0 0], .agg #[.int .i64 0, .slice none 0 0, .slice none 0 0], .agg #[.int .i64 0, .slice none 0 0, .slice none 0 0]], []⟩ 8 (by kernel_rfl) (by kernel_rfl) (by kernel_rfl) (by kernel_rfl)) ?_
  intro W base args ds gs before hval0 hW hcnd _
  have hval : ∀ (j : Nat) t v, Try.f6.params[j]? = some t → args[j]? = some v → Value.okWide Try.prog W .any base t v := hval0
  have hW' := hW
  obtain ⟨p, q, hA0, hV, rfl, hfz, hnd⟩ := hW
  have hA : DataW.TrodAll enc Try.prog W 0 (fun _ => true) true Try.f6.params.toList args.toList ds p := hA0
  rw [Try.params6] at hA hval
  obtain ⟨v0, vs0, d0, ds0, p0, q0, hargs, rfl, rfl, h0, r0⟩ := trodAll_cons hA
  obtain ⟨v1, vs1, d1, ds1, p1, q1, rfl, rfl, rfl, h1, r1⟩ := trodAll_cons r0
  obtain ⟨v2, vs2, d2, ds2, p2, q2, rfl, rfl, rfl, h2, r2⟩ := trodAll_cons r1
  obtain ⟨rfl, rfl, rfl⟩ := trodAll_nil r2
  obtain rfl : args = #[v0, v1, v2] := by cases args; simp_all
  obtain ⟨rfl, rfl⟩ := trodVars_none hV
  obtain ⟨F0, fl0, w0⟩ := open_ar (hval 0 25 v0 rfl rfl) h0
  have lt0 : ∀ x ∈ p0, x.block < W.heap.size := fun x hx => by obtain ⟨fuel, hf⟩ := h0; exact DataW.trod_lt fuel _ _ _ hf x hx
  obtain ⟨F1, fl1, w1⟩ := open_ar (hval 1 25 v1 rfl rfl) h1
  have lt1 : ∀ x ∈ p1, x.block < W.heap.size := fun x hx => by obtain ⟨fuel, hf⟩ := h1; exact DataW.trod_lt fuel _ _ _ hf x hx
  obtain ⟨F2, fl2, w2⟩ := open_ar (hval 2 25 v2 rfl rfl) h2
  have lt2 : ∀ x ∈ p2, x.block < W.heap.size := fun x hx => by obtain ⟨fuel, hf⟩ := h2; exact DataW.trod_lt fuel _ _ _ hf x hx
  clear hA0 hval0
  simp only [List.append_nil] at hW'
  refine (arenaBelow_walk F0 v0 F1 v1 F2 v2 w0 w1 w2 W fl0 fl1 fl2).mono fun e W' ⟨he, bel⟩ => ?_
  subst he
  exact ⟨_, rfl, _, _, _, [], _, [], hW', trodAll_mk1 (shut_bool Try.underlying4 _), (trodAll_cons_mk (Below.trod (by kernel_rfl) (by kernel_rfl) (of_decide_eq_true (by kernel_rfl)) h0 bel lt0) (trodAll_cons_mk (Below.trod (by kernel_rfl) (by kernel_rfl) (of_decide_eq_true (by kernel_rfl)) h1 bel lt1) (trodAll_cons_mk (Below.trod (by kernel_rfl) (by kernel_rfl) (of_decide_eq_true (by kernel_rfl)) h2 bel lt2) trodAll_mk0))), rfl, bel.frame _, fun h => by cases h⟩
/-- THE STATEMENT. -/
theorem arenaBelow_proved : Rows.ArenaBelowSaid :=
  OpenClaim.holds_of_wide 6 Try.f6 rfl rfl rfl rfl rfl rfl rfl ⟨rfl, rfl, rfl, rfl, rfl⟩ rfl rfl rfl rfl rfl (by kernel_rfl) Try.func6 (by kernel_rfl)
    (of_decide_eq_true (by kernel_rfl)) (by unfold Func.isWrapper; first | (rw [if_pos (by decide +kernel)]; kernel_rfl) | (rw [if_neg (by decide +kernel)]; exact ⟨rfl, rfl⟩))
    (fun os started H enc _ => arenaBelow_lifted os started H enc)
#print axioms arenaBelow_proved
end Go.Proofs.Ytmbnhlhanckkiaa
