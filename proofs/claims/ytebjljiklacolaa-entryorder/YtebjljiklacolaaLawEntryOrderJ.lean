/- Of two entries one's name is ahead, or they are of one; names ahead of what is ahead of a third are ahead of that (entry.Less, Join). -/
import Derived.Test.YtebjljiklacolaaPartD
import Derived.SizedLaws
import Derived.ProofKit
import Derived.OpenShut
import Derived.ShutString
import Derived.ChangeOld
import Derived.Below
namespace Go.Proofs.Ytebjljiklacolaa
open Go.RowKit
open Go.ChangeShapes Go.WideShapes Go.ChangeAt Go.RowKit
open Go.ChangeMaps (open_string shut_string)
set_option linter.unusedVariables false
set_option linter.unusedSimpArgs false
attribute [local irreducible] setN

set_option maxRecDepth 100000 in
set_option maxHeartbeats 4000000 in
theorem entryOrder_walk (F0 : En) (v0 : Value) (F1 : En) (v1 : Value) (F2 : En) (v2 : Value) (w0 : CameE F0) (w1 : CameE F1) (w2 : CameE F2) (w : World) (fl0 : isEn F0 v0 w) (fl1 : isEn F1 v1 w) (fl2 : isEn F2 v2 w) :
    Calls Try.prog 4 #[v0, v1, v2] w fun e w' => e = .returned (.bool true) ∧ Below w.heap.size w w' := by
  obtain ⟨pa, ma, rfl, hpa, hma⟩ := fl0
  obtain ⟨pb, mb, rfl, hpb, hmb⟩ := fl1
  obtain ⟨pc, mc, rfl, hpc, hmc⟩ := fl2
  obtain ⟨hB, Va⟩ := ebox w F0 pa ma hpa hma (w.heap.size) (by simp)
  obtain ⟨hBn, Vb⟩ := ebox (w.alloc (.cells #[.string ⟨F0.key.toArray⟩, .int .i64 F0.val.kind, .int .i64 F0.val.time, .int .i64 F0.val.node, .bool F0.val.dead, .string ⟨F0.val.text.toArray⟩, pa, ma, .int .u64 (F0.val.flags.toNat : Int)] 27)) F1 pb mb (stable_cells _ _ _ _ hpb hB.out) (stable_cells _ _ _ _ hmb hB.out) (w.heap.size + 1) (by simp)
  replace Va := Kept.mk (Va.out.keep hBn.out)
  replace hB := Kept.mk (hB.out.trans (hBn.out.mono hB.out.size))
  clear hBn
  obtain ⟨hBn, Vc⟩ := ebox ((w.alloc (.cells #[.string ⟨F0.key.toArray⟩, .int .i64 F0.val.kind, .int .i64 F0.val.time, .int .i64 F0.val.node, .bool F0.val.dead, .string ⟨F0.val.text.toArray⟩, pa, ma, .int .u64 (F0.val.flags.toNat : Int)] 27)).alloc (.cells #[.string ⟨F1.key.toArray⟩, .int .i64 F1.val.kind, .int .i64 F1.val.time, .int .i64 F1.val.node, .bool F1.val.dead, .string ⟨F1.val.text.toArray⟩, pb, mb, .int .u64 (F1.val.flags.toNat : Int)] 27)) F2 pc mc (stable_cells _ _ _ _ hpc hB.out) (stable_cells _ _ _ _ hmc hB.out) (w.heap.size + 2) (by simp)
  replace Va := Kept.mk (Va.out.keep hBn.out)
  replace Vb := Kept.mk (Vb.out.keep hBn.out)
  replace hB := Kept.mk (hB.out.trans (hBn.out.mono hB.out.size))
  clear hBn
  clear hpa hma hpb hmb hpc hmc
  go_enter Try.func4, Try.ntmps4
  go_wp2_with fail
  generalize (((w.alloc (.cells #[.string ⟨F0.key.toArray⟩, .int .i64 F0.val.kind, .int .i64 F0.val.time, .int .i64 F0.val.node, .bool F0.val.dead, .string ⟨F0.val.text.toArray⟩, pa, ma, .int .u64 (F0.val.flags.toNat : Int)] 27)).alloc (.cells #[.string ⟨F1.key.toArray⟩, .int .i64 F1.val.kind, .int .i64 F1.val.time, .int .i64 F1.val.node, .bool F1.val.dead, .string ⟨F1.val.text.toArray⟩, pb, mb, .int .u64 (F1.val.flags.toNat : Int)] 27)).alloc (.cells #[.string ⟨F2.key.toArray⟩, .int .i64 F2.val.kind, .int .i64 F2.val.time, .int .i64 F2.val.node, .bool F2.val.dead, .string ⟨F2.val.text.toArray⟩, pc, mc, .int .u64 (F2.val.flags.toNat : Int)] 27)) = W0 at *
  ((with_reducible refine (eworks_any _).mono ?_); rintro e W1 ⟨rfl, hb1⟩)
  replace hB := Kept.mk (hB.out.trans ((hb1).mono hB.out.size))
  replace Va := Kept.mk (Va.out.keep (hb1))
  replace Vb := Kept.mk (Vb.out.keep (hb1))
  replace Vc := Kept.mk (Vc.out.keep (hb1))
  clear hb1
  obtain ⟨qa, ra, xa, ya, ka0, ka1, ka2, ka3, ka4, ka5, ka6, ka7, ka8⟩ := Va.out.open_
  have Xa := Kept.mk xa
  have Ya := Kept.mk ya
  clear xa ya
  go_wp2_with fail
  ((with_reducible refine (efew_any F0 _ _ Xa.out w0.key).mono ?_); rintro e W2 ⟨rfl, hb1⟩)
  clear Xa Ya ka0 ka1 ka2 ka3 ka4 ka5 ka6 ka7 ka8
  replace hB := Kept.mk (hB.out.trans ((hb1).mono hB.out.size))
  replace Va := Kept.mk (Va.out.keep (hb1))
  replace Vb := Kept.mk (Vb.out.keep (hb1))
  replace Vc := Kept.mk (Vc.out.keep (hb1))
  clear hb1
  cases fa : fewE F0 with
  | false =>
    go_wp2
    all_goals go_ret
    all_goals exact ⟨rfl, hB.out⟩
  | true =>
    have FFa := Kept.mk (fewE_fit fa)
    clear fa
    obtain ⟨qb, rb, xb, yb, kb0, kb1, kb2, kb3, kb4, kb5, kb6, kb7, kb8⟩ := Vb.out.open_
    have Xb := Kept.mk xb
    have Yb := Kept.mk yb
    clear xb yb
    go_wp2_with fail
    ((with_reducible refine (efew_any F1 _ _ Xb.out w1.key).mono ?_); rintro e W3 ⟨rfl, hb1⟩)
    clear Xb Yb kb0 kb1 kb2 kb3 kb4 kb5 kb6 kb7 kb8
    replace hB := Kept.mk (hB.out.trans ((hb1).mono hB.out.size))
    replace Va := Kept.mk (Va.out.keep (hb1))
    replace Vb := Kept.mk (Vb.out.keep (hb1))
    replace Vc := Kept.mk (Vc.out.keep (hb1))
    clear hb1
    cases fb : fewE F1 with
    | false =>
      go_wp2
      all_goals go_ret
      all_goals exact ⟨rfl, hB.out⟩
    | true =>
      have FFb := Kept.mk (fewE_fit fb)
      clear fb
      obtain ⟨qc, rc, xc, yc, kc0, kc1, kc2, kc3, kc4, kc5, kc6, kc7, kc8⟩ := Vc.out.open_
      have Xc := Kept.mk xc
      have Yc := Kept.mk yc
      clear xc yc
      go_wp2_with fail
      ((with_reducible refine (efew_any F2 _ _ Xc.out w2.key).mono ?_); rintro e W4 ⟨rfl, hb1⟩)
      clear Xc Yc kc0 kc1 kc2 kc3 kc4 kc5 kc6 kc7 kc8
      replace hB := Kept.mk (hB.out.trans ((hb1).mono hB.out.size))
      replace Va := Kept.mk (Va.out.keep (hb1))
      replace Vb := Kept.mk (Vb.out.keep (hb1))
      replace Vc := Kept.mk (Vc.out.keep (hb1))
      clear hb1
      cases fc : fewE F2 with
      | false =>
        go_wp2
        all_goals go_ret
        all_goals exact ⟨rfl, hB.out⟩
      | true =>
        have FFc := Kept.mk (fewE_fit fc)
        clear fc
        obtain ⟨qa, ra, xa, ya, ka0, ka1, ka2, ka3, ka4, ka5, ka6, ka7, ka8⟩ := Va.out.open_
        have Xa := Kept.mk xa
        have Ya := Kept.mk ya
        clear xa ya
        obtain ⟨qb, rb, xb, yb, kb0, kb1, kb2, kb3, kb4, kb5, kb6, kb7, kb8⟩ := Vb.out.open_
        have Xb := Kept.mk xb
        have Yb := Kept.mk yb
        clear xb yb
        go_wp2_with fail
        cases dx : lessE F0 F1 with
        | false =>
          cases dy : lessE F1 F0 with
          | false =>
            have P1 := Kept.mk dx
            have P2 := Kept.mk dy
            clear dx dy
            have hn := less_none F0 F1 P1.out P2.out
            have HN := Kept.mk hn
            have dk : (F0.val.kind == F1.val.kind) = true := by unfold nameB at hn; rw [Bool.and_eq_true] at hn; simpa using hn.1
            have dq : (F0.key == F1.key) = true := by unfold nameB at hn; rw [Bool.and_eq_true] at hn; simpa using hn.2
            clear hn
            ((with_reducible refine (g_less F0 F1 false _ _ _ Xa.out Xb.out P1.out).mono ?_); rintro e W5 ⟨rfl, hb1⟩)
            clear Xa Ya ka0 ka1 ka2 ka3 ka4 ka5 ka6 ka7 ka8
            clear Xb Yb kb0 kb1 kb2 kb3 kb4 kb5 kb6 kb7 kb8
            replace hB := Kept.mk (hB.out.trans ((hb1).mono hB.out.size))
            replace Va := Kept.mk (Va.out.keep (hb1))
            replace Vb := Kept.mk (Vb.out.keep (hb1))
            replace Vc := Kept.mk (Vc.out.keep (hb1))
            clear hb1
            obtain ⟨qa, ra, xa, ya, ka0, ka1, ka2, ka3, ka4, ka5, ka6, ka7, ka8⟩ := Va.out.open_
            have Xa := Kept.mk xa
            have Ya := Kept.mk ya
            clear xa ya
            obtain ⟨qb, rb, xb, yb, kb0, kb1, kb2, kb3, kb4, kb5, kb6, kb7, kb8⟩ := Vb.out.open_
            have Xb := Kept.mk xb
            have Yb := Kept.mk yb
            clear xb yb
            go_wp2_with fail
            ((with_reducible refine (g_less F1 F0 false _ _ _ Xb.out Xa.out P2.out).mono ?_); rintro e W6 ⟨rfl, hb1⟩)
            clear Xa Ya ka0 ka1 ka2 ka3 ka4 ka5 ka6 ka7 ka8
            clear Xb Yb kb0 kb1 kb2 kb3 kb4 kb5 kb6 kb7 kb8
            replace hB := Kept.mk (hB.out.trans ((hb1).mono hB.out.size))
            replace Va := Kept.mk (Va.out.keep (hb1))
            replace Vb := Kept.mk (Vb.out.keep (hb1))
            replace Vc := Kept.mk (Vc.out.keep (hb1))
            clear hb1
            obtain ⟨qa, ra, xa, ya, ka0, ka1, ka2, ka3, ka4, ka5, ka6, ka7, ka8⟩ := Va.out.open_
            have Xa := Kept.mk xa
            have Ya := Kept.mk ya
            clear xa ya
            obtain ⟨qb, rb, xb, yb, kb0, kb1, kb2, kb3, kb4, kb5, kb6, kb7, kb8⟩ := Vb.out.open_
            have Xb := Kept.mk xb
            have Yb := Kept.mk yb
            clear xb yb
            obtain ⟨r, hr⟩ : ∃ r, joinEE F0 F1 = r := ⟨_, rfl⟩
            obtain ⟨G, hG⟩ : ∃ G, joinEF F0 F1 = G := ⟨_, rfl⟩
            have HR := Kept.mk hr
            have HG := Kept.mk hG
            have r3 : ¬ r = 3 := by rw [← hr]; exact joinEE_name HN.out
            have r3b : (r != 3) = true := bne_iff_ne.2 r3
            clear hr hG r3
            go_wp2_with fail
            clear dk dq
            ((with_reducible refine (join_at F0 F1 r G _ _ _ Xa.out Xb.out FFa.out FFb.out HR.out HG.out).mono ?_); rintro e U ⟨v', rfl, ⟨p', m', rfl, hp', hm', _, _⟩, hb1⟩)
            obtain ⟨K1, K2, K3, K4, K5⟩ := enew U G p' m' hp' hm' U.heap.size rfl
            clear hp' hm'
            clear Xa Ya ka0 ka1 ka2 ka3 ka4 ka5 ka6 ka7 ka8
            clear Xb Yb kb0 kb1 kb2 kb3 kb4 kb5 kb6 kb7 kb8
            replace hB := Kept.mk (hB.out.trans ((hb1).mono hB.out.size))
            replace Va := Kept.mk (Va.out.keep (hb1))
            replace Vb := Kept.mk (Vb.out.keep (hb1))
            replace Vc := Kept.mk (Vc.out.keep (hb1))
            clear hb1
            go_wp2_with (have hz0 := K1; refine wpList_storeN 27 rfl (.tmp 12) (.tmp 54) rfl U.heap.size [.string ⟨G.key.toArray⟩, .int .i64 G.val.kind, .int .i64 G.val.time, .int .i64 G.val.node, .bool G.val.dead, .string ⟨G.val.text.toArray⟩, p', m', .int .u64 (G.val.flags.toNat : Int)] size_en rfl rfl K1.out rfl K2.out K5.out ?_; replace hB := Kept.mk (hB.out.trans ((K3.out).mono hB.out.size)); replace Va := Kept.mk (Va.out.keep (K3.out)); replace Vb := Kept.mk (Vb.out.keep (K3.out)); replace Vc := Kept.mk (Vc.out.keep (K3.out)); have Vd := Kept.mk (show VarN _ _ G from ⟨_, _, K4.out⟩); clear hz0 K1 K2 K3 K4 K5; generalize setN (U.alloc (.cells #[.string ⟨#[]⟩, .int .i64 0, .int .i64 0, .int .i64 0, .bool false, .string ⟨#[]⟩, .slice none 0 0, .slice none 0 0, .int .u64 0] 27)) U.heap.size 0 [.string ⟨G.key.toArray⟩, .int .i64 G.val.kind, .int .i64 G.val.time, .int .i64 G.val.node, .bool G.val.dead, .string ⟨G.val.text.toArray⟩, p', m', .int .u64 (G.val.flags.toNat : Int)] = W7 at *; generalize U.heap.size = gd at *)
            go_wp2
            all_goals go_ret
            all_goals exact ⟨rfl, hB.out⟩
          | true =>
            have P1 := Kept.mk dx
            have P2 := Kept.mk dy
            clear dx dy
            have HN := Kept.mk (show nameB F0 F1 = false by cases hn : nameB F0 F1 with | false => rfl | true => exact absurd (P2.out.symm.trans (less_name F1 F0 (by rw [name_comm]; exact hn))) (by simp))
            ((with_reducible refine (g_less F0 F1 false _ _ _ Xa.out Xb.out P1.out).mono ?_); rintro e W5 ⟨rfl, hb1⟩)
            clear Xa Ya ka0 ka1 ka2 ka3 ka4 ka5 ka6 ka7 ka8
            clear Xb Yb kb0 kb1 kb2 kb3 kb4 kb5 kb6 kb7 kb8
            replace hB := Kept.mk (hB.out.trans ((hb1).mono hB.out.size))
            replace Va := Kept.mk (Va.out.keep (hb1))
            replace Vb := Kept.mk (Vb.out.keep (hb1))
            replace Vc := Kept.mk (Vc.out.keep (hb1))
            clear hb1
            obtain ⟨qa, ra, xa, ya, ka0, ka1, ka2, ka3, ka4, ka5, ka6, ka7, ka8⟩ := Va.out.open_
            have Xa := Kept.mk xa
            have Ya := Kept.mk ya
            clear xa ya
            obtain ⟨qb, rb, xb, yb, kb0, kb1, kb2, kb3, kb4, kb5, kb6, kb7, kb8⟩ := Vb.out.open_
            have Xb := Kept.mk xb
            have Yb := Kept.mk yb
            clear xb yb
            go_wp2_with fail
            ((with_reducible refine (g_less F1 F0 true _ _ _ Xb.out Xa.out P2.out).mono ?_); rintro e W6 ⟨rfl, hb1⟩)
            clear Xa Ya ka0 ka1 ka2 ka3 ka4 ka5 ka6 ka7 ka8
            clear Xb Yb kb0 kb1 kb2 kb3 kb4 kb5 kb6 kb7 kb8
            replace hB := Kept.mk (hB.out.trans ((hb1).mono hB.out.size))
            replace Va := Kept.mk (Va.out.keep (hb1))
            replace Vb := Kept.mk (Vb.out.keep (hb1))
            replace Vc := Kept.mk (Vc.out.keep (hb1))
            clear hb1
            obtain ⟨r, hr⟩ : ∃ r, joinEE F0 F1 = r := ⟨_, rfl⟩
            obtain ⟨G, hG⟩ : ∃ G, joinEF F0 F1 = G := ⟨_, rfl⟩
            have HR := Kept.mk hr
            have HG := Kept.mk hG
            have r0 : ¬ r = 0 := by rw [← hr]; intro h; have := (joinEE_zero h).2.2; rw [HN.out] at this; cases this
            clear hr hG
            cases dk : (F0.val.kind == F1.val.kind) with
            | false =>
              obtain ⟨qa, ra, xa, ya, ka0, ka1, ka2, ka3, ka4, ka5, ka6, ka7, ka8⟩ := Va.out.open_
              have Xa := Kept.mk xa
              have Ya := Kept.mk ya
              clear xa ya
              obtain ⟨qb, rb, xb, yb, kb0, kb1, kb2, kb3, kb4, kb5, kb6, kb7, kb8⟩ := Vb.out.open_
              have Xb := Kept.mk xb
              have Yb := Kept.mk yb
              clear xb yb
              go_wp2_with fail
              clear dk
              ((with_reducible refine (join_at F0 F1 r G _ _ _ Xa.out Xb.out FFa.out FFb.out HR.out HG.out).mono ?_); rintro e U ⟨v', rfl, ⟨p', m', rfl, hp', hm', _, _⟩, hb1⟩)
              obtain ⟨K1, K2, K3, K4, K5⟩ := enew U G p' m' hp' hm' U.heap.size rfl
              clear hp' hm'
              clear Xa Ya ka0 ka1 ka2 ka3 ka4 ka5 ka6 ka7 ka8
              clear Xb Yb kb0 kb1 kb2 kb3 kb4 kb5 kb6 kb7 kb8
              replace hB := Kept.mk (hB.out.trans ((hb1).mono hB.out.size))
              replace Va := Kept.mk (Va.out.keep (hb1))
              replace Vb := Kept.mk (Vb.out.keep (hb1))
              replace Vc := Kept.mk (Vc.out.keep (hb1))
              clear hb1
              go_wp2_with (have hz0 := K1; refine wpList_storeN 27 rfl (.tmp 12) (.tmp 54) rfl U.heap.size [.string ⟨G.key.toArray⟩, .int .i64 G.val.kind, .int .i64 G.val.time, .int .i64 G.val.node, .bool G.val.dead, .string ⟨G.val.text.toArray⟩, p', m', .int .u64 (G.val.flags.toNat : Int)] size_en rfl rfl K1.out rfl K2.out K5.out ?_; replace hB := Kept.mk (hB.out.trans ((K3.out).mono hB.out.size)); replace Va := Kept.mk (Va.out.keep (K3.out)); replace Vb := Kept.mk (Vb.out.keep (K3.out)); replace Vc := Kept.mk (Vc.out.keep (K3.out)); have Vd := Kept.mk (show VarN _ _ G from ⟨_, _, K4.out⟩); clear hz0 K1 K2 K3 K4 K5; generalize setN (U.alloc (.cells #[.string ⟨#[]⟩, .int .i64 0, .int .i64 0, .int .i64 0, .bool false, .string ⟨#[]⟩, .slice none 0 0, .slice none 0 0, .int .u64 0] 27)) U.heap.size 0 [.string ⟨G.key.toArray⟩, .int .i64 G.val.kind, .int .i64 G.val.time, .int .i64 G.val.node, .bool G.val.dead, .string ⟨G.val.text.toArray⟩, p', m', .int .u64 (G.val.flags.toNat : Int)] = W7 at *; generalize U.heap.size = gd at *)
              go_wp2
              all_goals go_ret
              all_goals exact ⟨rfl, hB.out⟩
            | true =>
              have dq : (F0.key == F1.key) = false := by have h := HN.out; unfold nameB at h; rw [show decide (F0.val.kind = F1.val.kind) = true by simpa using dk, Bool.true_and] at h; simpa using h
              obtain ⟨qa, ra, xa, ya, ka0, ka1, ka2, ka3, ka4, ka5, ka6, ka7, ka8⟩ := Va.out.open_
              have Xa := Kept.mk xa
              have Ya := Kept.mk ya
              clear xa ya
              obtain ⟨qb, rb, xb, yb, kb0, kb1, kb2, kb3, kb4, kb5, kb6, kb7, kb8⟩ := Vb.out.open_
              have Xb := Kept.mk xb
              have Yb := Kept.mk yb
              clear xb yb
              go_wp2_with fail
              clear dk dq
              ((with_reducible refine (join_at F0 F1 r G _ _ _ Xa.out Xb.out FFa.out FFb.out HR.out HG.out).mono ?_); rintro e U ⟨v', rfl, ⟨p', m', rfl, hp', hm', _, _⟩, hb1⟩)
              obtain ⟨K1, K2, K3, K4, K5⟩ := enew U G p' m' hp' hm' U.heap.size rfl
              clear hp' hm'
              clear Xa Ya ka0 ka1 ka2 ka3 ka4 ka5 ka6 ka7 ka8
              clear Xb Yb kb0 kb1 kb2 kb3 kb4 kb5 kb6 kb7 kb8
              replace hB := Kept.mk (hB.out.trans ((hb1).mono hB.out.size))
              replace Va := Kept.mk (Va.out.keep (hb1))
              replace Vb := Kept.mk (Vb.out.keep (hb1))
              replace Vc := Kept.mk (Vc.out.keep (hb1))
              clear hb1
              go_wp2_with (have hz0 := K1; refine wpList_storeN 27 rfl (.tmp 12) (.tmp 54) rfl U.heap.size [.string ⟨G.key.toArray⟩, .int .i64 G.val.kind, .int .i64 G.val.time, .int .i64 G.val.node, .bool G.val.dead, .string ⟨G.val.text.toArray⟩, p', m', .int .u64 (G.val.flags.toNat : Int)] size_en rfl rfl K1.out rfl K2.out K5.out ?_; replace hB := Kept.mk (hB.out.trans ((K3.out).mono hB.out.size)); replace Va := Kept.mk (Va.out.keep (K3.out)); replace Vb := Kept.mk (Vb.out.keep (K3.out)); replace Vc := Kept.mk (Vc.out.keep (K3.out)); have Vd := Kept.mk (show VarN _ _ G from ⟨_, _, K4.out⟩); clear hz0 K1 K2 K3 K4 K5; generalize setN (U.alloc (.cells #[.string ⟨#[]⟩, .int .i64 0, .int .i64 0, .int .i64 0, .bool false, .string ⟨#[]⟩, .slice none 0 0, .slice none 0 0, .int .u64 0] 27)) U.heap.size 0 [.string ⟨G.key.toArray⟩, .int .i64 G.val.kind, .int .i64 G.val.time, .int .i64 G.val.node, .bool G.val.dead, .string ⟨G.val.text.toArray⟩, p', m', .int .u64 (G.val.flags.toNat : Int)] = W7 at *; generalize U.heap.size = gd at *)
              go_wp2
              all_goals go_ret
              all_goals exact ⟨rfl, hB.out⟩
        | true =>
          cases dy : lessE F1 F0 with
          | true => exact (less_both F0 F1 dx dy).elim
          | false =>
            have P1 := Kept.mk dx
            have P2 := Kept.mk dy
            clear dx dy
            have HN := Kept.mk (show nameB F0 F1 = false by cases hn : nameB F0 F1 with | false => rfl | true => exact absurd (P1.out.symm.trans (less_name F0 F1 hn)) (by simp))
            ((with_reducible refine (g_less F0 F1 true _ _ _ Xa.out Xb.out P1.out).mono ?_); rintro e W5 ⟨rfl, hb1⟩)
            clear Xa Ya ka0 ka1 ka2 ka3 ka4 ka5 ka6 ka7 ka8
            clear Xb Yb kb0 kb1 kb2 kb3 kb4 kb5 kb6 kb7 kb8
            replace hB := Kept.mk (hB.out.trans ((hb1).mono hB.out.size))
            replace Va := Kept.mk (Va.out.keep (hb1))
            replace Vb := Kept.mk (Vb.out.keep (hb1))
            replace Vc := Kept.mk (Vc.out.keep (hb1))
            clear hb1
            obtain ⟨qa, ra, xa, ya, ka0, ka1, ka2, ka3, ka4, ka5, ka6, ka7, ka8⟩ := Va.out.open_
            have Xa := Kept.mk xa
            have Ya := Kept.mk ya
            clear xa ya
            obtain ⟨qb, rb, xb, yb, kb0, kb1, kb2, kb3, kb4, kb5, kb6, kb7, kb8⟩ := Vb.out.open_
            have Xb := Kept.mk xb
            have Yb := Kept.mk yb
            clear xb yb
            go_wp2_with fail
            ((with_reducible refine (g_less F1 F0 false _ _ _ Xb.out Xa.out P2.out).mono ?_); rintro e W6 ⟨rfl, hb1⟩)
            clear Xa Ya ka0 ka1 ka2 ka3 ka4 ka5 ka6 ka7 ka8
            clear Xb Yb kb0 kb1 kb2 kb3 kb4 kb5 kb6 kb7 kb8
            replace hB := Kept.mk (hB.out.trans ((hb1).mono hB.out.size))
            replace Va := Kept.mk (Va.out.keep (hb1))
            replace Vb := Kept.mk (Vb.out.keep (hb1))
            replace Vc := Kept.mk (Vc.out.keep (hb1))
            clear hb1
            obtain ⟨r, hr⟩ : ∃ r, joinEE F0 F1 = r := ⟨_, rfl⟩
            obtain ⟨G, hG⟩ : ∃ G, joinEF F0 F1 = G := ⟨_, rfl⟩
            have HR := Kept.mk hr
            have HG := Kept.mk hG
            have r0 : ¬ r = 0 := by rw [← hr]; intro h; have := (joinEE_zero h).2.2; rw [HN.out] at this; cases this
            clear hr hG
            cases dk : (F0.val.kind == F1.val.kind) with
            | false =>
              obtain ⟨qa, ra, xa, ya, ka0, ka1, ka2, ka3, ka4, ka5, ka6, ka7, ka8⟩ := Va.out.open_
              have Xa := Kept.mk xa
              have Ya := Kept.mk ya
              clear xa ya
              obtain ⟨qb, rb, xb, yb, kb0, kb1, kb2, kb3, kb4, kb5, kb6, kb7, kb8⟩ := Vb.out.open_
              have Xb := Kept.mk xb
              have Yb := Kept.mk yb
              clear xb yb
              go_wp2_with fail
              clear dk
              ((with_reducible refine (join_at F0 F1 r G _ _ _ Xa.out Xb.out FFa.out FFb.out HR.out HG.out).mono ?_); rintro e U ⟨v', rfl, ⟨p', m', rfl, hp', hm', _, _⟩, hb1⟩)
              obtain ⟨K1, K2, K3, K4, K5⟩ := enew U G p' m' hp' hm' U.heap.size rfl
              clear hp' hm'
              clear Xa Ya ka0 ka1 ka2 ka3 ka4 ka5 ka6 ka7 ka8
              clear Xb Yb kb0 kb1 kb2 kb3 kb4 kb5 kb6 kb7 kb8
              replace hB := Kept.mk (hB.out.trans ((hb1).mono hB.out.size))
              replace Va := Kept.mk (Va.out.keep (hb1))
              replace Vb := Kept.mk (Vb.out.keep (hb1))
              replace Vc := Kept.mk (Vc.out.keep (hb1))
              clear hb1
              go_wp2_with (have hz0 := K1; refine wpList_storeN 27 rfl (.tmp 12) (.tmp 54) rfl U.heap.size [.string ⟨G.key.toArray⟩, .int .i64 G.val.kind, .int .i64 G.val.time, .int .i64 G.val.node, .bool G.val.dead, .string ⟨G.val.text.toArray⟩, p', m', .int .u64 (G.val.flags.toNat : Int)] size_en rfl rfl K1.out rfl K2.out K5.out ?_; replace hB := Kept.mk (hB.out.trans ((K3.out).mono hB.out.size)); replace Va := Kept.mk (Va.out.keep (K3.out)); replace Vb := Kept.mk (Vb.out.keep (K3.out)); replace Vc := Kept.mk (Vc.out.keep (K3.out)); have Vd := Kept.mk (show VarN _ _ G from ⟨_, _, K4.out⟩); clear hz0 K1 K2 K3 K4 K5; generalize setN (U.alloc (.cells #[.string ⟨#[]⟩, .int .i64 0, .int .i64 0, .int .i64 0, .bool false, .string ⟨#[]⟩, .slice none 0 0, .slice none 0 0, .int .u64 0] 27)) U.heap.size 0 [.string ⟨G.key.toArray⟩, .int .i64 G.val.kind, .int .i64 G.val.time, .int .i64 G.val.node, .bool G.val.dead, .string ⟨G.val.text.toArray⟩, p', m', .int .u64 (G.val.flags.toNat : Int)] = W7 at *; generalize U.heap.size = gd at *; obtain ⟨qb, rb, xb, yb, kb0, kb1, kb2, kb3, kb4, kb5, kb6, kb7, kb8⟩ := Vb.out.open_; have Xb := Kept.mk xb; have Yb := Kept.mk yb; clear xb yb; obtain ⟨qc, rc, xc, yc, kc0, kc1, kc2, kc3, kc4, kc5, kc6, kc7, kc8⟩ := Vc.out.open_; have Xc := Kept.mk xc; have Yc := Kept.mk yc; clear xc yc)
              cases dz : lessE F1 F2 with
              | false =>
                ((with_reducible refine (g_less F1 F2 false _ _ _ Xb.out Xc.out dz).mono ?_); rintro e W8 ⟨rfl, hb1⟩)
                clear Xb Yb kb0 kb1 kb2 kb3 kb4 kb5 kb6 kb7 kb8
                clear Xc Yc kc0 kc1 kc2 kc3 kc4 kc5 kc6 kc7 kc8
                replace hB := Kept.mk (hB.out.trans ((hb1).mono hB.out.size))
                replace Va := Kept.mk (Va.out.keep (hb1))
                replace Vb := Kept.mk (Vb.out.keep (hb1))
                replace Vc := Kept.mk (Vc.out.keep (hb1))
                replace Vd := Kept.mk (Vd.out.keep (hb1))
                clear hb1
                clear dz
                go_wp2
                all_goals go_ret
                all_goals exact ⟨rfl, hB.out⟩
              | true =>
                have HT := Kept.mk (lessE_trans F0 F1 F2 P1.out dz)
                have HZ := Kept.mk dz
                clear dz
                ((with_reducible refine (g_less F1 F2 true _ _ _ Xb.out Xc.out HZ.out).mono ?_); rintro e W8 ⟨rfl, hb1⟩)
                clear Xb Yb kb0 kb1 kb2 kb3 kb4 kb5 kb6 kb7 kb8
                clear Xc Yc kc0 kc1 kc2 kc3 kc4 kc5 kc6 kc7 kc8
                replace hB := Kept.mk (hB.out.trans ((hb1).mono hB.out.size))
                replace Va := Kept.mk (Va.out.keep (hb1))
                replace Vb := Kept.mk (Vb.out.keep (hb1))
                replace Vc := Kept.mk (Vc.out.keep (hb1))
                replace Vd := Kept.mk (Vd.out.keep (hb1))
                clear hb1
                obtain ⟨qa, ra, xa, ya, ka0, ka1, ka2, ka3, ka4, ka5, ka6, ka7, ka8⟩ := Va.out.open_
                have Xa := Kept.mk xa
                have Ya := Kept.mk ya
                clear xa ya
                obtain ⟨qc, rc, xc, yc, kc0, kc1, kc2, kc3, kc4, kc5, kc6, kc7, kc8⟩ := Vc.out.open_
                have Xc := Kept.mk xc
                have Yc := Kept.mk yc
                clear xc yc
                go_wp2_with fail
                ((with_reducible refine (g_less F0 F2 true _ _ _ Xa.out Xc.out HT.out).mono ?_); rintro e W9 ⟨rfl, hb1⟩)
                clear Xa Ya ka0 ka1 ka2 ka3 ka4 ka5 ka6 ka7 ka8
                clear Xc Yc kc0 kc1 kc2 kc3 kc4 kc5 kc6 kc7 kc8
                replace hB := Kept.mk (hB.out.trans ((hb1).mono hB.out.size))
                replace Va := Kept.mk (Va.out.keep (hb1))
                replace Vb := Kept.mk (Vb.out.keep (hb1))
                replace Vc := Kept.mk (Vc.out.keep (hb1))
                replace Vd := Kept.mk (Vd.out.keep (hb1))
                clear hb1
                go_wp2
                all_goals go_ret
                all_goals exact ⟨rfl, hB.out⟩
            | true =>
              have dq : (F0.key == F1.key) = false := by have h := HN.out; unfold nameB at h; rw [show decide (F0.val.kind = F1.val.kind) = true by simpa using dk, Bool.true_and] at h; simpa using h
              obtain ⟨qa, ra, xa, ya, ka0, ka1, ka2, ka3, ka4, ka5, ka6, ka7, ka8⟩ := Va.out.open_
              have Xa := Kept.mk xa
              have Ya := Kept.mk ya
              clear xa ya
              obtain ⟨qb, rb, xb, yb, kb0, kb1, kb2, kb3, kb4, kb5, kb6, kb7, kb8⟩ := Vb.out.open_
              have Xb := Kept.mk xb
              have Yb := Kept.mk yb
              clear xb yb
              go_wp2_with fail
              clear dk dq
              ((with_reducible refine (join_at F0 F1 r G _ _ _ Xa.out Xb.out FFa.out FFb.out HR.out HG.out).mono ?_); rintro e U ⟨v', rfl, ⟨p', m', rfl, hp', hm', _, _⟩, hb1⟩)
              obtain ⟨K1, K2, K3, K4, K5⟩ := enew U G p' m' hp' hm' U.heap.size rfl
              clear hp' hm'
              clear Xa Ya ka0 ka1 ka2 ka3 ka4 ka5 ka6 ka7 ka8
              clear Xb Yb kb0 kb1 kb2 kb3 kb4 kb5 kb6 kb7 kb8
              replace hB := Kept.mk (hB.out.trans ((hb1).mono hB.out.size))
              replace Va := Kept.mk (Va.out.keep (hb1))
              replace Vb := Kept.mk (Vb.out.keep (hb1))
              replace Vc := Kept.mk (Vc.out.keep (hb1))
              clear hb1
              go_wp2_with (have hz0 := K1; refine wpList_storeN 27 rfl (.tmp 12) (.tmp 54) rfl U.heap.size [.string ⟨G.key.toArray⟩, .int .i64 G.val.kind, .int .i64 G.val.time, .int .i64 G.val.node, .bool G.val.dead, .string ⟨G.val.text.toArray⟩, p', m', .int .u64 (G.val.flags.toNat : Int)] size_en rfl rfl K1.out rfl K2.out K5.out ?_; replace hB := Kept.mk (hB.out.trans ((K3.out).mono hB.out.size)); replace Va := Kept.mk (Va.out.keep (K3.out)); replace Vb := Kept.mk (Vb.out.keep (K3.out)); replace Vc := Kept.mk (Vc.out.keep (K3.out)); have Vd := Kept.mk (show VarN _ _ G from ⟨_, _, K4.out⟩); clear hz0 K1 K2 K3 K4 K5; generalize setN (U.alloc (.cells #[.string ⟨#[]⟩, .int .i64 0, .int .i64 0, .int .i64 0, .bool false, .string ⟨#[]⟩, .slice none 0 0, .slice none 0 0, .int .u64 0] 27)) U.heap.size 0 [.string ⟨G.key.toArray⟩, .int .i64 G.val.kind, .int .i64 G.val.time, .int .i64 G.val.node, .bool G.val.dead, .string ⟨G.val.text.toArray⟩, p', m', .int .u64 (G.val.flags.toNat : Int)] = W7 at *; generalize U.heap.size = gd at *; obtain ⟨qb, rb, xb, yb, kb0, kb1, kb2, kb3, kb4, kb5, kb6, kb7, kb8⟩ := Vb.out.open_; have Xb := Kept.mk xb; have Yb := Kept.mk yb; clear xb yb; obtain ⟨qc, rc, xc, yc, kc0, kc1, kc2, kc3, kc4, kc5, kc6, kc7, kc8⟩ := Vc.out.open_; have Xc := Kept.mk xc; have Yc := Kept.mk yc; clear xc yc)
              cases dz : lessE F1 F2 with
              | false =>
                ((with_reducible refine (g_less F1 F2 false _ _ _ Xb.out Xc.out dz).mono ?_); rintro e W8 ⟨rfl, hb1⟩)
                clear Xb Yb kb0 kb1 kb2 kb3 kb4 kb5 kb6 kb7 kb8
                clear Xc Yc kc0 kc1 kc2 kc3 kc4 kc5 kc6 kc7 kc8
                replace hB := Kept.mk (hB.out.trans ((hb1).mono hB.out.size))
                replace Va := Kept.mk (Va.out.keep (hb1))
                replace Vb := Kept.mk (Vb.out.keep (hb1))
                replace Vc := Kept.mk (Vc.out.keep (hb1))
                replace Vd := Kept.mk (Vd.out.keep (hb1))
                clear hb1
                clear dz
                go_wp2
                all_goals go_ret
                all_goals exact ⟨rfl, hB.out⟩
              | true =>
                have HT := Kept.mk (lessE_trans F0 F1 F2 P1.out dz)
                have HZ := Kept.mk dz
                clear dz
                ((with_reducible refine (g_less F1 F2 true _ _ _ Xb.out Xc.out HZ.out).mono ?_); rintro e W8 ⟨rfl, hb1⟩)
                clear Xb Yb kb0 kb1 kb2 kb3 kb4 kb5 kb6 kb7 kb8
                clear Xc Yc kc0 kc1 kc2 kc3 kc4 kc5 kc6 kc7 kc8
                replace hB := Kept.mk (hB.out.trans ((hb1).mono hB.out.size))
                replace Va := Kept.mk (Va.out.keep (hb1))
                replace Vb := Kept.mk (Vb.out.keep (hb1))
                replace Vc := Kept.mk (Vc.out.keep (hb1))
                replace Vd := Kept.mk (Vd.out.keep (hb1))
                clear hb1
                obtain ⟨qa, ra, xa, ya, ka0, ka1, ka2, ka3, ka4, ka5, ka6, ka7, ka8⟩ := Va.out.open_
                have Xa := Kept.mk xa
                have Ya := Kept.mk ya
                clear xa ya
                obtain ⟨qc, rc, xc, yc, kc0, kc1, kc2, kc3, kc4, kc5, kc6, kc7, kc8⟩ := Vc.out.open_
                have Xc := Kept.mk xc
                have Yc := Kept.mk yc
                clear xc yc
                go_wp2_with fail
                ((with_reducible refine (g_less F0 F2 true _ _ _ Xa.out Xc.out HT.out).mono ?_); rintro e W9 ⟨rfl, hb1⟩)
                clear Xa Ya ka0 ka1 ka2 ka3 ka4 ka5 ka6 ka7 ka8
                clear Xc Yc kc0 kc1 kc2 kc3 kc4 kc5 kc6 kc7 kc8
                replace hB := Kept.mk (hB.out.trans ((hb1).mono hB.out.size))
                replace Va := Kept.mk (Va.out.keep (hb1))
                replace Vb := Kept.mk (Vb.out.keep (hb1))
                replace Vc := Kept.mk (Vc.out.keep (hb1))
                replace Vd := Kept.mk (Vd.out.keep (hb1))
                clear hb1
                go_wp2
                all_goals go_ret
                all_goals exact ⟨rfl, hB.out⟩
set_option maxRecDepth 100000 in
theorem entryOrder_lifted (os : Os) (started : os.Started) (H : Type) (enc : TypeId × Value → H) :
    ReturnsInHanded {} Try.checked os 4 .any (Rows.entryOrderSpec.pre6 enc Try.prog Try.f4 Rows.entryOrderRow.domain false) (Rows.entryOrderSpec.post enc Try.prog Try.f4 false true false false) := by
  refine returnsInHanded_of_change (C := Try.checked) (by kernel_rfl : ownKnob Try.prog.godebug = none) started (by kernel_rfl) Try.func4
    (ChangeSpec.witness6 (enc := enc) (C := Try.checked) false ⟨#[], #[.agg #[.string ByteArray.empty, .int .i64 0, .int .i64 0, .int .i64 0, .bool false, .string ByteArray.empty, .slice none 0 0, .slice none 0 0, .int .u64 0], .agg #[.string ByteArray.empty, .int .i64 0, .int .i64 0, .int .i64 0, .bool false, .string ByteArray.empty, .slice none 0 0, .slice none 0 0, .int .u64 0], .agg #[.string ByteArray.empty, .int .i64 0, .int .i64 0, .int .i64 0, .bool false, .string ByteArray.empty, .slice none 0 0, .slice none 0 0, .int .u64 0]], []⟩ 8 (by kernel_rfl) (by kernel_rfl) (by kernel_rfl) (by kernel_rfl)) ?_
  intro W base args ds gs before hval0 hW hcnd _
  have hval : ∀ (j : Nat) t v, Try.f4.params[j]? = some t → args[j]? = some v → Value.okWide Try.prog W .any base t v := hval0
  have hW' := hW
  obtain ⟨p, q, hA0, hV, rfl, hfz, hnd⟩ := hW
  have hA : DataW.TrodAll enc Try.prog W 0 (fun _ => true) true Try.f4.params.toList args.toList ds p := hA0
  rw [Try.params4] at hA hval
  obtain ⟨v0, vs0, d0, ds0, p0, q0, hargs, rfl, rfl, h0, r0⟩ := trodAll_cons hA
  obtain ⟨v1, vs1, d1, ds1, p1, q1, rfl, rfl, rfl, h1, r1⟩ := trodAll_cons r0
  obtain ⟨v2, vs2, d2, ds2, p2, q2, rfl, rfl, rfl, h2, r2⟩ := trodAll_cons r1
  obtain ⟨rfl, rfl, rfl⟩ := trodAll_nil r2
  obtain rfl : args = #[v0, v1, v2] := by cases args; simp_all
  obtain ⟨rfl, rfl⟩ := trodVars_none hV
  obtain ⟨F0, fl0, w0⟩ := open_en (hval 0 27 v0 rfl rfl) h0
  have lt0 : ∀ x ∈ p0, x.block < W.heap.size := fun x hx => by obtain ⟨fuel, hf⟩ := h0; exact DataW.trod_lt fuel _ _ _ hf x hx
  obtain ⟨F1, fl1, w1⟩ := open_en (hval 1 27 v1 rfl rfl) h1
  have lt1 : ∀ x ∈ p1, x.block < W.heap.size := fun x hx => by obtain ⟨fuel, hf⟩ := h1; exact DataW.trod_lt fuel _ _ _ hf x hx
  obtain ⟨F2, fl2, w2⟩ := open_en (hval 2 27 v2 rfl rfl) h2
  have lt2 : ∀ x ∈ p2, x.block < W.heap.size := fun x hx => by obtain ⟨fuel, hf⟩ := h2; exact DataW.trod_lt fuel _ _ _ hf x hx
  clear hA0 hval0
  simp only [List.append_nil] at hW'
  refine (entryOrder_walk F0 v0 F1 v1 F2 v2 w0 w1 w2 W fl0 fl1 fl2).mono fun e W' ⟨he, bel⟩ => ?_
  subst he
  exact ⟨_, rfl, _, _, _, [], _, [], hW', trodAll_mk1 (shut_bool Try.underlying4 _), (trodAll_cons_mk (Below.trod (by kernel_rfl) (by kernel_rfl) (of_decide_eq_true (by kernel_rfl)) h0 bel lt0) (trodAll_cons_mk (Below.trod (by kernel_rfl) (by kernel_rfl) (of_decide_eq_true (by kernel_rfl)) h1 bel lt1) (trodAll_cons_mk (Below.trod (by kernel_rfl) (by kernel_rfl) (of_decide_eq_true (by kernel_rfl)) h2 bel lt2) trodAll_mk0))), rfl, bel.frame _, fun h => by cases h⟩
/-- THE STATEMENT. -/
theorem entryOrder_proved : Rows.EntryOrderSaid :=
  OpenClaim.holds_of_wide 4 Try.f4 rfl rfl rfl rfl rfl rfl rfl ⟨rfl, rfl, rfl, rfl, rfl⟩ rfl rfl rfl rfl rfl (by kernel_rfl) Try.func4 (by kernel_rfl)
    (of_decide_eq_true (by kernel_rfl)) (by unfold Func.isWrapper; first | (rw [if_pos (by decide +kernel)]; kernel_rfl) | (rw [if_neg (by decide +kernel)]; exact ⟨rfl, rfl⟩))
    (fun os started H enc _ => entryOrder_lifted os started H enc)
#print axioms entryOrder_proved
end Go.Proofs.Ytebjljiklacolaa
