/- Two entries of one name come together as their values do, under that name (entry.Join, Same, Check). -/
import Derived.Test.YtebjljiklacolaaPartD
import Derived.SizedLaws
import Derived.ProofKit
import Derived.OpenShut
import Derived.ShutString
import Derived.ChangeOld
import Derived.Below
namespace Go.Proofs.Ytebjljiklacolaa
open Go.RowKit
open Go.ChangeShapes Go.WideShapes Go.ChangeAt Go.RowKit
open Go.ChangeMaps (open_string shut_string)
set_option linter.unusedVariables false
set_option linter.unusedSimpArgs false
attribute [local irreducible] setN

set_option maxRecDepth 100000 in
set_option maxHeartbeats 4000000 in
theorem entryJoins_walk (F0 : En) (v0 : Value) (F1 : En) (v1 : Value) (w0 : CameE F0) (w1 : CameE F1) (w : World) (fl0 : isEn F0 v0 w) (fl1 : isEn F1 v1 w) :
    Calls Try.prog 5 #[v0, v1] w fun e w' => e = .returned (.bool true) ∧ Below w.heap.size w w' := by
  obtain ⟨pa, ma, rfl, hpa, hma⟩ := fl0
  obtain ⟨pb, mb, rfl, hpb, hmb⟩ := fl1
  obtain ⟨hB, Va⟩ := ebox w F0 pa ma hpa hma (w.heap.size) (by simp)
  obtain ⟨hBn, Vb⟩ := ebox (w.alloc (.cells #[.string ⟨F0.key.toArray⟩, .int .i64 F0.val.kind, .int .i64 F0.val.time, .int .i64 F0.val.node, .bool F0.val.dead, .string ⟨F0.val.text.toArray⟩, pa, ma, .int .u64 (F0.val.flags.toNat : Int)] 27)) F1 pb mb (stable_cells _ _ _ _ hpb hB.out) (stable_cells _ _ _ _ hmb hB.out) (w.heap.size + 1) (by simp)
  replace Va := Kept.mk (Va.out.keep hBn.out)
  replace hB := Kept.mk (hB.out.trans (hBn.out.mono hB.out.size))
  clear hBn
  clear hpa hma hpb hmb
  go_enter Try.func5, Try.ntmps5
  go_wp2_with fail
  generalize ((w.alloc (.cells #[.string ⟨F0.key.toArray⟩, .int .i64 F0.val.kind, .int .i64 F0.val.time, .int .i64 F0.val.node, .bool F0.val.dead, .string ⟨F0.val.text.toArray⟩, pa, ma, .int .u64 (F0.val.flags.toNat : Int)] 27)).alloc (.cells #[.string ⟨F1.key.toArray⟩, .int .i64 F1.val.kind, .int .i64 F1.val.time, .int .i64 F1.val.node, .bool F1.val.dead, .string ⟨F1.val.text.toArray⟩, pb, mb, .int .u64 (F1.val.flags.toNat : Int)] 27)) = W0 at *
  ((with_reducible refine (eworks_any _).mono ?_); rintro e W1 ⟨rfl, hb1⟩)
  replace hB := Kept.mk (hB.out.trans ((hb1).mono hB.out.size))
  replace Va := Kept.mk (Va.out.keep (hb1))
  replace Vb := Kept.mk (Vb.out.keep (hb1))
  clear hb1
  obtain ⟨qa, ra, xa, ya, ka0, ka1, ka2, ka3, ka4, ka5, ka6, ka7, ka8⟩ := Va.out.open_
  have Xa := Kept.mk xa
  have Ya := Kept.mk ya
  clear xa ya
  go_wp2_with fail
  ((with_reducible refine (efew_any F0 _ _ Xa.out w0.key).mono ?_); rintro e W2 ⟨rfl, hb1⟩)
  clear Xa Ya ka0 ka1 ka2 ka3 ka4 ka5 ka6 ka7 ka8
  replace hB := Kept.mk (hB.out.trans ((hb1).mono hB.out.size))
  replace Va := Kept.mk (Va.out.keep (hb1))
  replace Vb := Kept.mk (Vb.out.keep (hb1))
  clear hb1
  cases fa : fewE F0 with
  | false =>
    go_wp2
    all_goals go_ret
    all_goals exact ⟨rfl, hB.out⟩
  | true =>
    have FFa := Kept.mk (fewE_fit fa)
    clear fa
    obtain ⟨qb, rb, xb, yb, kb0, kb1, kb2, kb3, kb4, kb5, kb6, kb7, kb8⟩ := Vb.out.open_
    have Xb := Kept.mk xb
    have Yb := Kept.mk yb
    clear xb yb
    go_wp2_with fail
    ((with_reducible refine (efew_any F1 _ _ Xb.out w1.key).mono ?_); rintro e W3 ⟨rfl, hb1⟩)
    clear Xb Yb kb0 kb1 kb2 kb3 kb4 kb5 kb6 kb7 kb8
    replace hB := Kept.mk (hB.out.trans ((hb1).mono hB.out.size))
    replace Va := Kept.mk (Va.out.keep (hb1))
    replace Vb := Kept.mk (Vb.out.keep (hb1))
    clear hb1
    cases fb : fewE F1 with
    | false =>
      go_wp2
      all_goals go_ret
      all_goals exact ⟨rfl, hB.out⟩
    | true =>
      have FFb := Kept.mk (fewE_fit fb)
      clear fb
      obtain ⟨qa, ra, xa, ya, ka0, ka1, ka2, ka3, ka4, ka5, ka6, ka7, ka8⟩ := Va.out.open_
      have Xa := Kept.mk xa
      have Ya := Kept.mk ya
      clear xa ya
      obtain ⟨qb, rb, xb, yb, kb0, kb1, kb2, kb3, kb4, kb5, kb6, kb7, kb8⟩ := Vb.out.open_
      have Xb := Kept.mk xb
      have Yb := Kept.mk yb
      clear xb yb
      go_wp2_with fail
      by_cases hj : ¬ joinEE F0 F1 = 0
      · obtain ⟨r, hr⟩ : ∃ r, joinEE F0 F1 = r := ⟨_, rfl⟩
        have hz : joinEF F0 F1 = zeroE := by unfold joinEF; rw [if_neg hj]
        rw [hr] at hj
        have HZ := Kept.mk hz
        have HR := Kept.mk hr
        clear hz hr
        ((with_reducible refine (join_at F0 F1 r zeroE _ _ _ Xa.out Xb.out FFa.out FFb.out HR.out HZ.out).mono ?_); rintro e U ⟨v', rfl, ⟨p', m', rfl, hp', hm', _, _⟩, hb1⟩)
        obtain ⟨K1, K2, K3, K4, K5⟩ := enew U zeroE p' m' hp' hm' U.heap.size rfl
        clear hp' hm'
        clear Xa Ya ka0 ka1 ka2 ka3 ka4 ka5 ka6 ka7 ka8
        clear Xb Yb kb0 kb1 kb2 kb3 kb4 kb5 kb6 kb7 kb8
        replace hB := Kept.mk (hB.out.trans ((hb1).mono hB.out.size))
        replace Va := Kept.mk (Va.out.keep (hb1))
        replace Vb := Kept.mk (Vb.out.keep (hb1))
        clear hb1
        go_wp2_with (have hz0 := K1; refine wpList_storeN 27 rfl (.tmp 7) (.tmp 29) rfl U.heap.size [.string ⟨zeroE.key.toArray⟩, .int .i64 zeroE.val.kind, .int .i64 zeroE.val.time, .int .i64 zeroE.val.node, .bool zeroE.val.dead, .string ⟨zeroE.val.text.toArray⟩, p', m', .int .u64 (zeroE.val.flags.toNat : Int)] size_en rfl rfl K1.out rfl K2.out K5.out ?_; replace hB := Kept.mk (hB.out.trans ((K3.out).mono hB.out.size)); replace Va := Kept.mk (Va.out.keep (K3.out)); replace Vb := Kept.mk (Vb.out.keep (K3.out)); have Vc := Kept.mk (show VarN _ _ zeroE from ⟨_, _, K4.out⟩); clear hz0 K1 K2 K3 K4 K5; generalize setN (U.alloc (.cells #[.string ⟨#[]⟩, .int .i64 0, .int .i64 0, .int .i64 0, .bool false, .string ⟨#[]⟩, .slice none 0 0, .slice none 0 0, .int .u64 0] 27)) U.heap.size 0 [.string ⟨zeroE.key.toArray⟩, .int .i64 zeroE.val.kind, .int .i64 zeroE.val.time, .int .i64 zeroE.val.node, .bool zeroE.val.dead, .string ⟨zeroE.val.text.toArray⟩, p', m', .int .u64 (zeroE.val.flags.toNat : Int)] = W4 at *; generalize U.heap.size = gc at *; obtain ⟨qa, ra, xa, ya, ka0, ka1, ka2, ka3, ka4, ka5, ka6, ka7, ka8⟩ := Va.out.open_; have Xa := Kept.mk xa; have Ya := Kept.mk ya; clear xa ya; obtain ⟨qb, rb, xb, yb, kb0, kb1, kb2, kb3, kb4, kb5, kb6, kb7, kb8⟩ := Vb.out.open_; have Xb := Kept.mk xb; have Yb := Kept.mk yb; clear xb yb)
        ((with_reducible refine (vjoin_any F0.val F1.val _ _ _ Ya.out Yb.out FFa.out.val FFb.out.val).mono ?_); rintro e U ⟨v', rfl, ⟨p', m', rfl, hp', hm', _, _⟩, hb1⟩)
        obtain ⟨K1, K2, K3, K4, K5⟩ := vnew U (joinF F0.val F1.val) p' m' hp' hm' U.heap.size rfl
        clear hp' hm'
        clear Xa Ya ka0 ka1 ka2 ka3 ka4 ka5 ka6 ka7 ka8
        clear Xb Yb kb0 kb1 kb2 kb3 kb4 kb5 kb6 kb7 kb8
        replace hB := Kept.mk (hB.out.trans ((hb1).mono hB.out.size))
        replace Va := Kept.mk (Va.out.keep (hb1))
        replace Vb := Kept.mk (Vb.out.keep (hb1))
        replace Vc := Kept.mk (Vc.out.keep (hb1))
        clear hb1
        go_wp2_with (have hz0 := K1; refine wpList_storeN 25 rfl (.tmp 9) (.tmp 37) rfl U.heap.size [.int .i64 (joinF F0.val F1.val).kind, .int .i64 (joinF F0.val F1.val).time, .int .i64 (joinF F0.val F1.val).node, .bool (joinF F0.val F1.val).dead, .string ⟨(joinF F0.val F1.val).text.toArray⟩, p', m', .int .u64 ((joinF F0.val F1.val).flags.toNat : Int)] size_va rfl rfl K1.out rfl K2.out K5.out ?_; replace hB := Kept.mk (hB.out.trans ((K3.out).mono hB.out.size)); replace Va := Kept.mk (Va.out.keep (K3.out)); replace Vb := Kept.mk (Vb.out.keep (K3.out)); replace Vc := Kept.mk (Vc.out.keep (K3.out)); have Vv := Kept.mk K4.out.var; clear hz0 K1 K2 K3 K4 K5; generalize setN (U.alloc (.cells #[.int .i64 0, .int .i64 0, .int .i64 0, .bool false, .string ⟨#[]⟩, .slice none 0 0, .slice none 0 0, .int .u64 0] 25)) U.heap.size 0 [.int .i64 (joinF F0.val F1.val).kind, .int .i64 (joinF F0.val F1.val).time, .int .i64 (joinF F0.val F1.val).node, .bool (joinF F0.val F1.val).dead, .string ⟨(joinF F0.val F1.val).text.toArray⟩, p', m', .int .u64 ((joinF F0.val F1.val).flags.toNat : Int)] = W5 at *; generalize U.heap.size = gv at *; obtain ⟨qc, rc, xc, yc, kc0, kc1, kc2, kc3, kc4, kc5, kc6, kc7, kc8⟩ := Vc.out.open_; have Xc := Kept.mk xc; have Yc := Kept.mk yc; clear xc yc)
        ((with_reducible refine (g_same zeroE zeroE true _ _ _ Xc.out (zeroE_lit _) fitE_zero.val fitE_zero.val (by decide)).mono ?_); rintro e W6 ⟨rfl, hb1⟩)
        clear Xc Yc kc0 kc1 kc2 kc3 kc4 kc5 kc6 kc7 kc8
        replace hB := Kept.mk (hB.out.trans ((hb1).mono hB.out.size))
        replace Va := Kept.mk (Va.out.keep (hb1))
        replace Vb := Kept.mk (Vb.out.keep (hb1))
        replace Vc := Kept.mk (Vc.out.keep (hb1))
        replace Vv := Kept.mk (Vv.out.keep (hb1))
        clear hb1
        go_wp2
        all_goals go_ret
        all_goals exact ⟨rfl, hB.out⟩
      · replace hj := Decidable.not_not.1 hj
        obtain ⟨G, hG⟩ : ∃ G, joinEF F0 F1 = G := ⟨_, rfl⟩
        obtain ⟨J, hJ⟩ : ∃ J, joinF F0.val F1.val = J := ⟨_, rfl⟩
        have hj2 := (joinEE_comm F1 F0).trans hj
        have hG2 := (joinEF_comm hj).trans hG
        obtain ⟨e1, e2, e3⟩ := joinE_val hj
        have hs := joinEF_some hj
        rw [hG, hJ] at hs
        have gk : (G.key == F0.key) = true := by rw [hs]; simp
        have gk2 : (G.key == F1.key) = true := by rw [hs]; simp [e3]
        have HV := Kept.mk (show decide (G.val = J) = true by rw [hs]; simp)
        have ho : okE G = true := by rw [← hG]; exact joinEF_ok hj
        have HO := Kept.mk ho
        have FG := Kept.mk (ok_fit ho)
        have FJ := Kept.mk (show Fit J by have := FG.out.val; rw [hs] at this; exact this)
        have H1 := Kept.mk hj
        have H2 := Kept.mk hj2
        have H3 := Kept.mk hG
        have H4 := Kept.mk hG2
        have H5 := Kept.mk e1
        have H6 := Kept.mk hJ
        clear hj hj2 hG hG2 e1 e2 e3 hs ho hJ
        ((with_reducible refine (join_at F0 F1 0 G _ _ _ Xa.out Xb.out FFa.out FFb.out H1.out H3.out).mono ?_); rintro e U ⟨v', rfl, ⟨p', m', rfl, hp', hm', _, _⟩, hb1⟩)
        obtain ⟨K1, K2, K3, K4, K5⟩ := enew U G p' m' hp' hm' U.heap.size rfl
        clear hp' hm'
        clear Xa Ya ka0 ka1 ka2 ka3 ka4 ka5 ka6 ka7 ka8
        clear Xb Yb kb0 kb1 kb2 kb3 kb4 kb5 kb6 kb7 kb8
        replace hB := Kept.mk (hB.out.trans ((hb1).mono hB.out.size))
        replace Va := Kept.mk (Va.out.keep (hb1))
        replace Vb := Kept.mk (Vb.out.keep (hb1))
        clear hb1
        go_wp2_with (have hz0 := K1; refine wpList_storeN 27 rfl (.tmp 7) (.tmp 29) rfl U.heap.size [.string ⟨G.key.toArray⟩, .int .i64 G.val.kind, .int .i64 G.val.time, .int .i64 G.val.node, .bool G.val.dead, .string ⟨G.val.text.toArray⟩, p', m', .int .u64 (G.val.flags.toNat : Int)] size_en rfl rfl K1.out rfl K2.out K5.out ?_; replace hB := Kept.mk (hB.out.trans ((K3.out).mono hB.out.size)); replace Va := Kept.mk (Va.out.keep (K3.out)); replace Vb := Kept.mk (Vb.out.keep (K3.out)); have Vc := Kept.mk (show VarN _ _ G from ⟨_, _, K4.out⟩); clear hz0 K1 K2 K3 K4 K5; generalize setN (U.alloc (.cells #[.string ⟨#[]⟩, .int .i64 0, .int .i64 0, .int .i64 0, .bool false, .string ⟨#[]⟩, .slice none 0 0, .slice none 0 0, .int .u64 0] 27)) U.heap.size 0 [.string ⟨G.key.toArray⟩, .int .i64 G.val.kind, .int .i64 G.val.time, .int .i64 G.val.node, .bool G.val.dead, .string ⟨G.val.text.toArray⟩, p', m', .int .u64 (G.val.flags.toNat : Int)] = W4 at *; generalize U.heap.size = gc at *; obtain ⟨qa, ra, xa, ya, ka0, ka1, ka2, ka3, ka4, ka5, ka6, ka7, ka8⟩ := Va.out.open_; have Xa := Kept.mk xa; have Ya := Kept.mk ya; clear xa ya; obtain ⟨qb, rb, xb, yb, kb0, kb1, kb2, kb3, kb4, kb5, kb6, kb7, kb8⟩ := Vb.out.open_; have Xb := Kept.mk xb; have Yb := Kept.mk yb; clear xb yb)
        ((with_reducible refine (vjoin_at F0.val F1.val 0 J _ _ _ Ya.out Yb.out FFa.out.val FFb.out.val H5.out H6.out).mono ?_); rintro e U ⟨v', rfl, ⟨p', m', rfl, hp', hm', _, _⟩, hb1⟩)
        obtain ⟨K1, K2, K3, K4, K5⟩ := vnew U J p' m' hp' hm' U.heap.size rfl
        clear hp' hm'
        clear Xa Ya ka0 ka1 ka2 ka3 ka4 ka5 ka6 ka7 ka8
        clear Xb Yb kb0 kb1 kb2 kb3 kb4 kb5 kb6 kb7 kb8
        replace hB := Kept.mk (hB.out.trans ((hb1).mono hB.out.size))
        replace Va := Kept.mk (Va.out.keep (hb1))
        replace Vb := Kept.mk (Vb.out.keep (hb1))
        replace Vc := Kept.mk (Vc.out.keep (hb1))
        clear hb1
        go_wp2_with (have hz0 := K1; refine wpList_storeN 25 rfl (.tmp 9) (.tmp 37) rfl U.heap.size [.int .i64 J.kind, .int .i64 J.time, .int .i64 J.node, .bool J.dead, .string ⟨J.text.toArray⟩, p', m', .int .u64 (J.flags.toNat : Int)] size_va rfl rfl K1.out rfl K2.out K5.out ?_; replace hB := Kept.mk (hB.out.trans ((K3.out).mono hB.out.size)); replace Va := Kept.mk (Va.out.keep (K3.out)); replace Vb := Kept.mk (Vb.out.keep (K3.out)); replace Vc := Kept.mk (Vc.out.keep (K3.out)); have Vv := Kept.mk K4.out.var; clear hz0 K1 K2 K3 K4 K5; generalize setN (U.alloc (.cells #[.int .i64 0, .int .i64 0, .int .i64 0, .bool false, .string ⟨#[]⟩, .slice none 0 0, .slice none 0 0, .int .u64 0] 25)) U.heap.size 0 [.int .i64 J.kind, .int .i64 J.time, .int .i64 J.node, .bool J.dead, .string ⟨J.text.toArray⟩, p', m', .int .u64 (J.flags.toNat : Int)] = W5 at *; generalize U.heap.size = gv at *; obtain ⟨qa, ra, xa, ya, ka0, ka1, ka2, ka3, ka4, ka5, ka6, ka7, ka8⟩ := Va.out.open_; have Xa := Kept.mk xa; have Ya := Kept.mk ya; clear xa ya; obtain ⟨qb, rb, xb, yb, kb0, kb1, kb2, kb3, kb4, kb5, kb6, kb7, kb8⟩ := Vb.out.open_; have Xb := Kept.mk xb; have Yb := Kept.mk yb; clear xb yb)
        ((with_reducible refine (join_at F1 F0 0 G _ _ _ Xb.out Xa.out FFb.out FFa.out H2.out H4.out).mono ?_); rintro e U ⟨v', rfl, ⟨p', m', rfl, hp', hm', _, _⟩, hb1⟩)
        obtain ⟨K1, K2, K3, K4, K5⟩ := enew U G p' m' hp' hm' U.heap.size rfl
        clear hp' hm'
        clear Xa Ya ka0 ka1 ka2 ka3 ka4 ka5 ka6 ka7 ka8
        clear Xb Yb kb0 kb1 kb2 kb3 kb4 kb5 kb6 kb7 kb8
        replace hB := Kept.mk (hB.out.trans ((hb1).mono hB.out.size))
        replace Va := Kept.mk (Va.out.keep (hb1))
        replace Vb := Kept.mk (Vb.out.keep (hb1))
        replace Vc := Kept.mk (Vc.out.keep (hb1))
        replace Vv := Kept.mk (Vv.out.keep (hb1))
        clear hb1
        go_wp2_with (have hz0 := K1; refine wpList_storeN 27 rfl (.tmp 11) (.tmp 51) rfl U.heap.size [.string ⟨G.key.toArray⟩, .int .i64 G.val.kind, .int .i64 G.val.time, .int .i64 G.val.node, .bool G.val.dead, .string ⟨G.val.text.toArray⟩, p', m', .int .u64 (G.val.flags.toNat : Int)] size_en rfl rfl K1.out rfl K2.out K5.out ?_; replace hB := Kept.mk (hB.out.trans ((K3.out).mono hB.out.size)); replace Va := Kept.mk (Va.out.keep (K3.out)); replace Vb := Kept.mk (Vb.out.keep (K3.out)); replace Vc := Kept.mk (Vc.out.keep (K3.out)); replace Vv := Kept.mk (Vv.out.keep (K3.out)); have Vd := Kept.mk (show VarN _ _ G from ⟨_, _, K4.out⟩); clear hz0 K1 K2 K3 K4 K5; generalize setN (U.alloc (.cells #[.string ⟨#[]⟩, .int .i64 0, .int .i64 0, .int .i64 0, .bool false, .string ⟨#[]⟩, .slice none 0 0, .slice none 0 0, .int .u64 0] 27)) U.heap.size 0 [.string ⟨G.key.toArray⟩, .int .i64 G.val.kind, .int .i64 G.val.time, .int .i64 G.val.node, .bool G.val.dead, .string ⟨G.val.text.toArray⟩, p', m', .int .u64 (G.val.flags.toNat : Int)] = W6 at *; generalize U.heap.size = gd at *; obtain ⟨qc, rc, xc, yc, kc0, kc1, kc2, kc3, kc4, kc5, kc6, kc7, kc8⟩ := Vc.out.open_; have Xc := Kept.mk xc; have Yc := Kept.mk yc; clear xc yc; obtain ⟨qv, rv, xv, -, -, kv0, kv1, kv2, kv3, kv4, kv5, kv6, kv7⟩ := Vv.out.open_; have Xv := Kept.mk xv; clear xv)
        ((with_reducible refine (gv_same G.val J true _ _ _ Yc.out Xv.out FG.out.val FJ.out HV.out).mono ?_); rintro e W7 ⟨rfl, hb1⟩)
        clear Xc Yc kc0 kc1 kc2 kc3 kc4 kc5 kc6 kc7 kc8
        clear Xv kv0 kv1 kv2 kv3 kv4 kv5 kv6 kv7
        replace hB := Kept.mk (hB.out.trans ((hb1).mono hB.out.size))
        replace Va := Kept.mk (Va.out.keep (hb1))
        replace Vb := Kept.mk (Vb.out.keep (hb1))
        replace Vc := Kept.mk (Vc.out.keep (hb1))
        replace Vv := Kept.mk (Vv.out.keep (hb1))
        replace Vd := Kept.mk (Vd.out.keep (hb1))
        clear hb1
        obtain ⟨qa, ra, xa, ya, ka0, ka1, ka2, ka3, ka4, ka5, ka6, ka7, ka8⟩ := Va.out.open_
        have Xa := Kept.mk xa
        have Ya := Kept.mk ya
        clear xa ya
        obtain ⟨qb, rb, xb, yb, kb0, kb1, kb2, kb3, kb4, kb5, kb6, kb7, kb8⟩ := Vb.out.open_
        have Xb := Kept.mk xb
        have Yb := Kept.mk yb
        clear xb yb
        obtain ⟨qc, rc, xc, yc, kc0, kc1, kc2, kc3, kc4, kc5, kc6, kc7, kc8⟩ := Vc.out.open_
        have Xc := Kept.mk xc
        have Yc := Kept.mk yc
        clear xc yc
        obtain ⟨qd, rd, xd, yd, kd0, kd1, kd2, kd3, kd4, kd5, kd6, kd7, kd8⟩ := Vd.out.open_
        have Xd := Kept.mk xd
        have Yd := Kept.mk yd
        clear xd yd
        go_wp2_with fail
        ((with_reducible refine (g_same G G true _ _ _ Xc.out Xd.out FG.out.val FG.out.val (by simp)).mono ?_); rintro e W8 ⟨rfl, hb1⟩)
        clear Xa Ya ka0 ka1 ka2 ka3 ka4 ka5 ka6 ka7 ka8
        clear Xb Yb kb0 kb1 kb2 kb3 kb4 kb5 kb6 kb7 kb8
        clear Xc Yc kc0 kc1 kc2 kc3 kc4 kc5 kc6 kc7 kc8
        clear Xd Yd kd0 kd1 kd2 kd3 kd4 kd5 kd6 kd7 kd8
        replace hB := Kept.mk (hB.out.trans ((hb1).mono hB.out.size))
        replace Va := Kept.mk (Va.out.keep (hb1))
        replace Vb := Kept.mk (Vb.out.keep (hb1))
        replace Vc := Kept.mk (Vc.out.keep (hb1))
        replace Vv := Kept.mk (Vv.out.keep (hb1))
        replace Vd := Kept.mk (Vd.out.keep (hb1))
        clear hb1
        obtain ⟨qc, rc, xc, yc, kc0, kc1, kc2, kc3, kc4, kc5, kc6, kc7, kc8⟩ := Vc.out.open_
        have Xc := Kept.mk xc
        have Yc := Kept.mk yc
        clear xc yc
        go_wp2_with fail
        ((with_reducible refine (g_check G 0 _ _ Xc.out FG.out (chk_ok HO.out)).mono ?_); rintro e W9 ⟨rfl, hb1⟩)
        clear Xc Yc kc0 kc1 kc2 kc3 kc4 kc5 kc6 kc7 kc8
        replace hB := Kept.mk (hB.out.trans ((hb1).mono hB.out.size))
        replace Va := Kept.mk (Va.out.keep (hb1))
        replace Vb := Kept.mk (Vb.out.keep (hb1))
        replace Vc := Kept.mk (Vc.out.keep (hb1))
        replace Vv := Kept.mk (Vv.out.keep (hb1))
        replace Vd := Kept.mk (Vd.out.keep (hb1))
        clear hb1
        go_wp2
        all_goals go_ret
        all_goals exact ⟨rfl, hB.out⟩
set_option maxRecDepth 100000 in
theorem entryJoins_lifted (os : Os) (started : os.Started) (H : Type) (enc : TypeId × Value → H) :
    ReturnsInHanded {} Try.checked os 5 .any (Rows.entryJoinsSpec.pre6 enc Try.prog Try.f5 Rows.entryJoinsRow.domain false) (Rows.entryJoinsSpec.post enc Try.prog Try.f5 false true false false) := by
  refine returnsInHanded_of_change (C := Try.checked) (by kernel_rfl : ownKnob Try.prog.godebug = none) started (by kernel_rfl) Try.func5
    (ChangeSpec.witness6 (enc := enc) (C := Try.checked) false ⟨#[], #[.agg #[.string ByteArray.empty, .int .i64 0, .int .i64 0, .int .i64 0, .bool false, .string ByteArray.empty, .slice none 0 0, .slice none 0 0, .int .u64 0], .agg #[.string ByteArray.empty, .int .i64 0, .int .i64 0, .int .i64 0, .bool false, .string ByteArray.empty, .slice none 0 0, .slice none 0 0, .int .u64 0]], []⟩ 8 (by kernel_rfl) (by kernel_rfl) (by kernel_rfl) (by kernel_rfl)) ?_
  intro W base args ds gs before hval0 hW hcnd _
  have hval : ∀ (j : Nat) t v, Try.f5.params[j]? = some t → args[j]? = some v → Value.okWide Try.prog W .any base t v := hval0
  have hW' := hW
  obtain ⟨p, q, hA0, hV, rfl, hfz, hnd⟩ := hW
  have hA : DataW.TrodAll enc Try.prog W 0 (fun _ => true) true Try.f5.params.toList args.toList ds p := hA0
  rw [Try.params5] at hA hval
  obtain ⟨v0, vs0, d0, ds0, p0, q0, hargs, rfl, rfl, h0, r0⟩ := trodAll_cons hA
  obtain ⟨v1, vs1, d1, ds1, p1, q1, rfl, rfl, rfl, h1, r1⟩ := trodAll_cons r0
  obtain ⟨rfl, rfl, rfl⟩ := trodAll_nil r1
  obtain rfl : args = #[v0, v1] := by cases args; simp_all
  obtain ⟨rfl, rfl⟩ := trodVars_none hV
  obtain ⟨F0, fl0, w0⟩ := open_en (hval 0 27 v0 rfl rfl) h0
  have lt0 : ∀ x ∈ p0, x.block < W.heap.size := fun x hx => by obtain ⟨fuel, hf⟩ := h0; exact DataW.trod_lt fuel _ _ _ hf x hx
  obtain ⟨F1, fl1, w1⟩ := open_en (hval 1 27 v1 rfl rfl) h1
  have lt1 : ∀ x ∈ p1, x.block < W.heap.size := fun x hx => by obtain ⟨fuel, hf⟩ := h1; exact DataW.trod_lt fuel _ _ _ hf x hx
  clear hA0 hval0
  simp only [List.append_nil] at hW'
  refine (entryJoins_walk F0 v0 F1 v1 w0 w1 W fl0 fl1).mono fun e W' ⟨he, bel⟩ => ?_
  subst he
  exact ⟨_, rfl, _, _, _, [], _, [], hW', trodAll_mk1 (shut_bool Try.underlying4 _), (trodAll_cons_mk (Below.trod (by kernel_rfl) (by kernel_rfl) (of_decide_eq_true (by kernel_rfl)) h0 bel lt0) (trodAll_cons_mk (Below.trod (by kernel_rfl) (by kernel_rfl) (of_decide_eq_true (by kernel_rfl)) h1 bel lt1) trodAll_mk0)), rfl, bel.frame _, fun h => by cases h⟩
/-- THE STATEMENT. -/
theorem entryJoins_proved : Rows.EntryJoinsSaid :=
  OpenClaim.holds_of_wide 5 Try.f5 rfl rfl rfl rfl rfl rfl rfl ⟨rfl, rfl, rfl, rfl, rfl⟩ rfl rfl rfl rfl rfl (by kernel_rfl) Try.func5 (by kernel_rfl)
    (of_decide_eq_true (by kernel_rfl)) (by unfold Func.isWrapper; first | (rw [if_pos (by decide +kernel)]; kernel_rfl) | (rw [if_neg (by decide +kernel)]; exact ⟨rfl, rfl⟩))
    (fun os started H enc _ => entryJoins_lifted os started H enc)
#print axioms entryJoins_proved
end Go.Proofs.Ytebjljiklacolaa
