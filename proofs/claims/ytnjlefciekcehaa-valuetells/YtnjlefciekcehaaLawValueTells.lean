/- Whether any is a value, two that come together, whether one is below the other one, whether they are alike, the least of any kind, and what a counter comes to, are just what the document says (value.Check, Join, Below, Same, Least, Sum). -/
import Derived.Test.YtnjlefciekcehaaVaWorks
import Derived.Test.YtnjlefciekcehaaVaRef5
import Derived.SizedLaws
import Derived.ProofKit
import Derived.OpenShut
import Derived.ShutString
import Derived.ChangeOld
import Derived.Below
namespace Go.Proofs.Ytnjlefciekcehaa
open Go.RowKit
open Go.ChangeShapes Go.WideShapes Go.ChangeAt Go.RowKit
open Go.ChangeMaps (open_string shut_string)
set_option linter.unusedVariables false
set_option linter.unusedSimpArgs false
attribute [local irreducible] setN

theorem g_same (A : Va) (v u : Value) (w : World) (hv : isVa A v w) (hu : isVa A u w) (h : Fit A) : Calls Try.prog 17 #[v, u] w fun e w' => e = .returned (.bool true) ∧ Below w.heap.size w w' := by
  have := rsame_any A A v u w hv hu h h
  rwa [decide_eq_true rfl] at this
set_option maxRecDepth 100000 in
set_option maxHeartbeats 4000000 in
theorem valueTells_walk (F0 : Va) (v0 : Value) (F1 : Va) (v1 : Value) (a2 : Int) (w0 : CameV F0) (w1 : CameV F1) (w2 : (Lit.int .i64 a2).wf = true) (w : World) (fl0 : isVa F0 v0 w) (fl1 : isVa F1 v1 w) :
    Calls Try.prog 3 #[v0, v1, .int .i64 a2] w fun e w' => e = .returned (.bool true) ∧ Below w.heap.size w w' := by
  obtain ⟨pa, ma, rfl, hpa, hma⟩ := fl0
  obtain ⟨pb, mb, rfl, hpb, hmb⟩ := fl1
  obtain ⟨hB, Va⟩ := vbox w F0 pa ma hpa hma (w.heap.size) (by simp)
  obtain ⟨hBn, Vb⟩ := vbox (w.alloc (.cells #[.int .i64 F0.kind, .int .i64 F0.time, .int .i64 F0.node, .bool F0.dead, .string ⟨F0.text.toArray⟩, pa, ma, .int .u64 (F0.flags.toNat : Int)] 25)) F1 pb mb (stable_cells _ _ _ _ hpb hB.out) (stable_cells _ _ _ _ hmb hB.out) (w.heap.size + 1) (by simp)
  replace Va := Kept.mk (Va.out.keep hBn.out)
  replace hB := Kept.mk (hB.out.trans (hBn.out.mono hB.out.size))
  clear hBn
  clear hpa hma hpb hmb
  go_enter Try.func3, Try.ntmps3
  go_wp2_with fail
  generalize ((w.alloc (.cells #[.int .i64 F0.kind, .int .i64 F0.time, .int .i64 F0.node, .bool F0.dead, .string ⟨F0.text.toArray⟩, pa, ma, .int .u64 (F0.flags.toNat : Int)] 25)).alloc (.cells #[.int .i64 F1.kind, .int .i64 F1.time, .int .i64 F1.node, .bool F1.dead, .string ⟨F1.text.toArray⟩, pb, mb, .int .u64 (F1.flags.toNat : Int)] 25)) = W0 at *
  ((with_reducible refine (vworks_any _).mono ?_); rintro e W1 ⟨rfl, hb1⟩)
  replace hB := Kept.mk (hB.out.trans ((hb1).mono hB.out.size))
  replace Va := Kept.mk (Va.out.keep (hb1))
  replace Vb := Kept.mk (Vb.out.keep (hb1))
  clear hb1
  obtain ⟨qa, ra, xa, -, -, ka0, ka1, ka2, ka3, ka4, ka5, ka6, ka7⟩ := Va.out.open_
  have Xa := Kept.mk xa
  clear xa
  go_wp2_with fail
  ((with_reducible refine (vfew_any F0 _ _ Xa.out).mono ?_); rintro e W2 ⟨rfl, hb1⟩)
  clear Xa ka0 ka1 ka2 ka3 ka4 ka5 ka6 ka7
  replace hB := Kept.mk (hB.out.trans ((hb1).mono hB.out.size))
  replace Va := Kept.mk (Va.out.keep (hb1))
  replace Vb := Kept.mk (Vb.out.keep (hb1))
  clear hb1
  cases fa : fewV F0 with
  | false =>
    go_wp2
    go_ret
    exact ⟨rfl, hB.out⟩
  | true =>
    have FFa := Kept.mk (few_fit fa)
    clear fa
    obtain ⟨qb, rb, xb, -, -, kb0, kb1, kb2, kb3, kb4, kb5, kb6, kb7⟩ := Vb.out.open_
    have Xb := Kept.mk xb
    clear xb
    go_wp2_with fail
    ((with_reducible refine (vfew_any F1 _ _ Xb.out).mono ?_); rintro e W3 ⟨rfl, hb1⟩)
    clear Xb kb0 kb1 kb2 kb3 kb4 kb5 kb6 kb7
    replace hB := Kept.mk (hB.out.trans ((hb1).mono hB.out.size))
    replace Va := Kept.mk (Va.out.keep (hb1))
    replace Vb := Kept.mk (Vb.out.keep (hb1))
    clear hb1
    cases fb : fewV F1 with
    | false =>
      go_wp2
      go_ret
      exact ⟨rfl, hB.out⟩
    | true =>
      have FFb := Kept.mk (few_fit fb)
      clear fb
      obtain ⟨qa, ra, xa, -, -, ka0, ka1, ka2, ka3, ka4, ka5, ka6, ka7⟩ := Va.out.open_
      have Xa := Kept.mk xa
      clear xa
      go_wp2_with fail
      ((with_reducible refine (rcheck_any F0 _ _ Xa.out FFa.out).mono ?_); rintro e W4 ⟨rfl, hb1⟩)
      clear Xa ka0 ka1 ka2 ka3 ka4 ka5 ka6 ka7
      replace hB := Kept.mk (hB.out.trans ((hb1).mono hB.out.size))
      replace Va := Kept.mk (Va.out.keep (hb1))
      replace Vb := Kept.mk (Vb.out.keep (hb1))
      clear hb1
      obtain ⟨qa, ra, xa, -, -, ka0, ka1, ka2, ka3, ka4, ka5, ka6, ka7⟩ := Va.out.open_
      have Xa := Kept.mk xa
      clear xa
      obtain ⟨qb, rb, xb, -, -, kb0, kb1, kb2, kb3, kb4, kb5, kb6, kb7⟩ := Vb.out.open_
      have Xb := Kept.mk xb
      clear xb
      go_wp2_with fail
      ((with_reducible refine (vjoin_any F0 F1 _ _ _ Xa.out Xb.out FFa.out FFb.out).mono ?_); rintro e U ⟨v', rfl, ⟨p', m', rfl, hp', hm', _, _⟩, hb1⟩)
      obtain ⟨K1, K2, K3, K4, K5⟩ := vnew U (joinF F0 F1) p' m' hp' hm' U.heap.size rfl
      clear hp' hm'
      clear Xa ka0 ka1 ka2 ka3 ka4 ka5 ka6 ka7
      clear Xb kb0 kb1 kb2 kb3 kb4 kb5 kb6 kb7
      replace hB := Kept.mk (hB.out.trans ((hb1).mono hB.out.size))
      replace Va := Kept.mk (Va.out.keep (hb1))
      replace Vb := Kept.mk (Vb.out.keep (hb1))
      clear hb1
      go_wp2_with (have hz0 := K1; refine wpList_storeN 25 rfl (.tmp 10) (.tmp 40) rfl U.heap.size [.int .i64 (joinF F0 F1).kind, .int .i64 (joinF F0 F1).time, .int .i64 (joinF F0 F1).node, .bool (joinF F0 F1).dead, .string ⟨(joinF F0 F1).text.toArray⟩, p', m', .int .u64 ((joinF F0 F1).flags.toNat : Int)] size_va rfl rfl K1.out rfl K2.out K5.out ?_; replace hB := Kept.mk (hB.out.trans ((K3.out).mono hB.out.size)); replace Va := Kept.mk (Va.out.keep (K3.out)); replace Vb := Kept.mk (Vb.out.keep (K3.out)); have Vc := Kept.mk K4.out.var; clear hz0 K1 K2 K3 K4 K5; generalize setN (U.alloc (.cells #[.int .i64 0, .int .i64 0, .int .i64 0, .bool false, .string ⟨#[]⟩, .slice none 0 0, .slice none 0 0, .int .u64 0] 25)) U.heap.size 0 [.int .i64 (joinF F0 F1).kind, .int .i64 (joinF F0 F1).time, .int .i64 (joinF F0 F1).node, .bool (joinF F0 F1).dead, .string ⟨(joinF F0 F1).text.toArray⟩, p', m', .int .u64 ((joinF F0 F1).flags.toNat : Int)] = W5 at *; generalize U.heap.size = gc at *; obtain ⟨qa, ra, xa, -, -, ka0, ka1, ka2, ka3, ka4, ka5, ka6, ka7⟩ := Va.out.open_; have Xa := Kept.mk xa; clear xa; obtain ⟨qb, rb, xb, -, -, kb0, kb1, kb2, kb3, kb4, kb5, kb6, kb7⟩ := Vb.out.open_; have Xb := Kept.mk xb; clear xb)
      ((with_reducible refine (rjoin_any F0 F1 _ _ _ Xa.out Xb.out FFa.out FFb.out).mono ?_); rintro e U ⟨v', rfl, ⟨p', m', rfl, hp', hm'⟩, hb1⟩)
      obtain ⟨K1, K2, K3, K4, K5⟩ := vnew U (joinF F0 F1) p' m' hp' hm' U.heap.size rfl
      clear hp' hm'
      clear Xa ka0 ka1 ka2 ka3 ka4 ka5 ka6 ka7
      clear Xb kb0 kb1 kb2 kb3 kb4 kb5 kb6 kb7
      replace hB := Kept.mk (hB.out.trans ((hb1).mono hB.out.size))
      replace Va := Kept.mk (Va.out.keep (hb1))
      replace Vb := Kept.mk (Vb.out.keep (hb1))
      replace Vc := Kept.mk (Vc.out.keep (hb1))
      clear hb1
      go_wp2_with (have hz0 := K1; refine wpList_storeN 25 rfl (.tmp 12) (.tmp 46) rfl U.heap.size [.int .i64 (joinF F0 F1).kind, .int .i64 (joinF F0 F1).time, .int .i64 (joinF F0 F1).node, .bool (joinF F0 F1).dead, .string ⟨(joinF F0 F1).text.toArray⟩, p', m', .int .u64 ((joinF F0 F1).flags.toNat : Int)] size_va rfl rfl K1.out rfl K2.out K5.out ?_; replace hB := Kept.mk (hB.out.trans ((K3.out).mono hB.out.size)); replace Va := Kept.mk (Va.out.keep (K3.out)); replace Vb := Kept.mk (Vb.out.keep (K3.out)); replace Vc := Kept.mk (Vc.out.keep (K3.out)); have Vd := Kept.mk K4.out.var; clear hz0 K1 K2 K3 K4 K5; generalize setN (U.alloc (.cells #[.int .i64 0, .int .i64 0, .int .i64 0, .bool false, .string ⟨#[]⟩, .slice none 0 0, .slice none 0 0, .int .u64 0] 25)) U.heap.size 0 [.int .i64 (joinF F0 F1).kind, .int .i64 (joinF F0 F1).time, .int .i64 (joinF F0 F1).node, .bool (joinF F0 F1).dead, .string ⟨(joinF F0 F1).text.toArray⟩, p', m', .int .u64 ((joinF F0 F1).flags.toNat : Int)] = W6 at *; generalize U.heap.size = gd at *)
      ((with_reducible refine (vleast_any a2 _).mono ?_); rintro e U ⟨v', rfl, ⟨p', m', rfl, hp', hm', _, _⟩, hb1⟩)
      obtain ⟨K1, K2, K3, K4, K5⟩ := vnew U (leastF a2) p' m' hp' hm' U.heap.size rfl
      clear hp' hm'
      replace hB := Kept.mk (hB.out.trans ((hb1).mono hB.out.size))
      replace Va := Kept.mk (Va.out.keep (hb1))
      replace Vb := Kept.mk (Vb.out.keep (hb1))
      replace Vc := Kept.mk (Vc.out.keep (hb1))
      replace Vd := Kept.mk (Vd.out.keep (hb1))
      clear hb1
      go_wp2_with (have hz0 := K1; refine wpList_storeN 25 rfl (.tmp 14) (.tmp 51) rfl U.heap.size [.int .i64 (leastF a2).kind, .int .i64 (leastF a2).time, .int .i64 (leastF a2).node, .bool (leastF a2).dead, .string ⟨(leastF a2).text.toArray⟩, p', m', .int .u64 ((leastF a2).flags.toNat : Int)] size_va rfl rfl K1.out rfl K2.out K5.out ?_; replace hB := Kept.mk (hB.out.trans ((K3.out).mono hB.out.size)); replace Va := Kept.mk (Va.out.keep (K3.out)); replace Vb := Kept.mk (Vb.out.keep (K3.out)); replace Vc := Kept.mk (Vc.out.keep (K3.out)); replace Vd := Kept.mk (Vd.out.keep (K3.out)); have Vx := Kept.mk K4.out.var; clear hz0 K1 K2 K3 K4 K5; generalize setN (U.alloc (.cells #[.int .i64 0, .int .i64 0, .int .i64 0, .bool false, .string ⟨#[]⟩, .slice none 0 0, .slice none 0 0, .int .u64 0] 25)) U.heap.size 0 [.int .i64 (leastF a2).kind, .int .i64 (leastF a2).time, .int .i64 (leastF a2).node, .bool (leastF a2).dead, .string ⟨(leastF a2).text.toArray⟩, p', m', .int .u64 ((leastF a2).flags.toNat : Int)] = W7 at *; generalize U.heap.size = gx at *)
      ((with_reducible refine (rleast_any a2 _).mono ?_); rintro e U ⟨v', rfl, ⟨p', m', rfl, hp', hm'⟩, hb1⟩)
      obtain ⟨K1, K2, K3, K4, K5⟩ := vnew U (leastF a2) p' m' hp' hm' U.heap.size rfl
      clear hp' hm'
      replace hB := Kept.mk (hB.out.trans ((hb1).mono hB.out.size))
      replace Va := Kept.mk (Va.out.keep (hb1))
      replace Vb := Kept.mk (Vb.out.keep (hb1))
      replace Vc := Kept.mk (Vc.out.keep (hb1))
      replace Vd := Kept.mk (Vd.out.keep (hb1))
      replace Vx := Kept.mk (Vx.out.keep (hb1))
      clear hb1
      go_wp2_with (have hz0 := K1; refine wpList_storeN 25 rfl (.tmp 16) (.tmp 56) rfl U.heap.size [.int .i64 (leastF a2).kind, .int .i64 (leastF a2).time, .int .i64 (leastF a2).node, .bool (leastF a2).dead, .string ⟨(leastF a2).text.toArray⟩, p', m', .int .u64 ((leastF a2).flags.toNat : Int)] size_va rfl rfl K1.out rfl K2.out K5.out ?_; replace hB := Kept.mk (hB.out.trans ((K3.out).mono hB.out.size)); replace Va := Kept.mk (Va.out.keep (K3.out)); replace Vb := Kept.mk (Vb.out.keep (K3.out)); replace Vc := Kept.mk (Vc.out.keep (K3.out)); replace Vd := Kept.mk (Vd.out.keep (K3.out)); replace Vx := Kept.mk (Vx.out.keep (K3.out)); have Vy := Kept.mk K4.out.var; clear hz0 K1 K2 K3 K4 K5; generalize setN (U.alloc (.cells #[.int .i64 0, .int .i64 0, .int .i64 0, .bool false, .string ⟨#[]⟩, .slice none 0 0, .slice none 0 0, .int .u64 0] 25)) U.heap.size 0 [.int .i64 (leastF a2).kind, .int .i64 (leastF a2).time, .int .i64 (leastF a2).node, .bool (leastF a2).dead, .string ⟨(leastF a2).text.toArray⟩, p', m', .int .u64 ((leastF a2).flags.toNat : Int)] = W8 at *; generalize U.heap.size = gy at *; obtain ⟨qc, rc, xc, -, -, kc0, kc1, kc2, kc3, kc4, kc5, kc6, kc7⟩ := Vc.out.open_; have Xc := Kept.mk xc; clear xc; obtain ⟨qd, rd, xd, -, -, kd0, kd1, kd2, kd3, kd4, kd5, kd6, kd7⟩ := Vd.out.open_; have Xd := Kept.mk xd; clear xd)
      ((with_reducible refine (g_same (joinF F0 F1) _ _ _ Xc.out Xd.out (fit_join FFa.out FFb.out)).mono ?_); rintro e W9 ⟨rfl, hb1⟩)
      clear Xc kc0 kc1 kc2 kc3 kc4 kc5 kc6 kc7
      clear Xd kd0 kd1 kd2 kd3 kd4 kd5 kd6 kd7
      replace hB := Kept.mk (hB.out.trans ((hb1).mono hB.out.size))
      replace Va := Kept.mk (Va.out.keep (hb1))
      replace Vb := Kept.mk (Vb.out.keep (hb1))
      replace Vc := Kept.mk (Vc.out.keep (hb1))
      replace Vd := Kept.mk (Vd.out.keep (hb1))
      replace Vx := Kept.mk (Vx.out.keep (hb1))
      replace Vy := Kept.mk (Vy.out.keep (hb1))
      clear hb1
      obtain ⟨qx, rx, xx, -, -, kx0, kx1, kx2, kx3, kx4, kx5, kx6, kx7⟩ := Vx.out.open_
      have Xx := Kept.mk xx
      clear xx
      obtain ⟨qy, ry, xy, -, -, ky0, ky1, ky2, ky3, ky4, ky5, ky6, ky7⟩ := Vy.out.open_
      have Xy := Kept.mk xy
      clear xy
      go_wp2_with fail
      ((with_reducible refine (g_same (leastF a2) _ _ _ Xx.out Xy.out (fit_least _)).mono ?_); rintro e W10 ⟨rfl, hb1⟩)
      clear Xx kx0 kx1 kx2 kx3 kx4 kx5 kx6 kx7
      clear Xy ky0 ky1 ky2 ky3 ky4 ky5 ky6 ky7
      replace hB := Kept.mk (hB.out.trans ((hb1).mono hB.out.size))
      replace Va := Kept.mk (Va.out.keep (hb1))
      replace Vb := Kept.mk (Vb.out.keep (hb1))
      replace Vc := Kept.mk (Vc.out.keep (hb1))
      replace Vd := Kept.mk (Vd.out.keep (hb1))
      replace Vx := Kept.mk (Vx.out.keep (hb1))
      replace Vy := Kept.mk (Vy.out.keep (hb1))
      clear hb1
      obtain ⟨qa, ra, xa, -, -, ka0, ka1, ka2, ka3, ka4, ka5, ka6, ka7⟩ := Va.out.open_
      have Xa := Kept.mk xa
      clear xa
      obtain ⟨qb, rb, xb, -, -, kb0, kb1, kb2, kb3, kb4, kb5, kb6, kb7⟩ := Vb.out.open_
      have Xb := Kept.mk xb
      clear xb
      go_wp2_with fail
      ((with_reducible refine (rbelow_any F0 F1 _ _ _ Xa.out Xb.out FFa.out FFb.out).mono ?_); rintro e W11 ⟨rfl, hb1⟩)
      clear Xa ka0 ka1 ka2 ka3 ka4 ka5 ka6 ka7
      clear Xb kb0 kb1 kb2 kb3 kb4 kb5 kb6 kb7
      replace hB := Kept.mk (hB.out.trans ((hb1).mono hB.out.size))
      replace Va := Kept.mk (Va.out.keep (hb1))
      replace Vb := Kept.mk (Vb.out.keep (hb1))
      replace Vc := Kept.mk (Vc.out.keep (hb1))
      replace Vd := Kept.mk (Vd.out.keep (hb1))
      replace Vx := Kept.mk (Vx.out.keep (hb1))
      replace Vy := Kept.mk (Vy.out.keep (hb1))
      clear hb1
      obtain ⟨qa, ra, xa, -, -, ka0, ka1, ka2, ka3, ka4, ka5, ka6, ka7⟩ := Va.out.open_
      have Xa := Kept.mk xa
      clear xa
      obtain ⟨qb, rb, xb, -, -, kb0, kb1, kb2, kb3, kb4, kb5, kb6, kb7⟩ := Vb.out.open_
      have Xb := Kept.mk xb
      clear xb
      go_wp2_with fail
      ((with_reducible refine (rsame_any F0 F1 _ _ _ Xa.out Xb.out FFa.out FFb.out).mono ?_); rintro e W12 ⟨rfl, hb1⟩)
      clear Xa ka0 ka1 ka2 ka3 ka4 ka5 ka6 ka7
      clear Xb kb0 kb1 kb2 kb3 kb4 kb5 kb6 kb7
      replace hB := Kept.mk (hB.out.trans ((hb1).mono hB.out.size))
      replace Va := Kept.mk (Va.out.keep (hb1))
      replace Vb := Kept.mk (Vb.out.keep (hb1))
      replace Vc := Kept.mk (Vc.out.keep (hb1))
      replace Vd := Kept.mk (Vd.out.keep (hb1))
      replace Vx := Kept.mk (Vx.out.keep (hb1))
      replace Vy := Kept.mk (Vy.out.keep (hb1))
      clear hb1
      obtain ⟨zs, hzs⟩ : ∃ z, z = decide (F0 = F1) := ⟨_, rfl⟩
      rw [← hzs]
      have HZS := Kept.mk hzs
      clear hzs
      obtain ⟨qa, ra, xa, -, -, ka0, ka1, ka2, ka3, ka4, ka5, ka6, ka7⟩ := Va.out.open_
      have Xa := Kept.mk xa
      clear xa
      go_wp2_with fail
      ((with_reducible refine (rsum_any F0 _ _ Xa.out FFa.out).mono ?_); rintro e W13 ⟨rfl, hb1⟩)
      clear Xa ka0 ka1 ka2 ka3 ka4 ka5 ka6 ka7
      replace hB := Kept.mk (hB.out.trans ((hb1).mono hB.out.size))
      replace Va := Kept.mk (Va.out.keep (hb1))
      replace Vb := Kept.mk (Vb.out.keep (hb1))
      replace Vc := Kept.mk (Vc.out.keep (hb1))
      replace Vd := Kept.mk (Vd.out.keep (hb1))
      replace Vx := Kept.mk (Vx.out.keep (hb1))
      replace Vy := Kept.mk (Vy.out.keep (hb1))
      clear hb1
      obtain ⟨qa, ra, xa, -, -, ka0, ka1, ka2, ka3, ka4, ka5, ka6, ka7⟩ := Va.out.open_
      have Xa := Kept.mk xa
      clear xa
      go_wp2_with fail
      ((with_reducible refine (vcheck_any F0 _ _ Xa.out FFa.out).mono ?_); rintro e W14 ⟨rfl, hb1⟩)
      clear Xa ka0 ka1 ka2 ka3 ka4 ka5 ka6 ka7
      replace hB := Kept.mk (hB.out.trans ((hb1).mono hB.out.size))
      replace Va := Kept.mk (Va.out.keep (hb1))
      replace Vb := Kept.mk (Vb.out.keep (hb1))
      replace Vc := Kept.mk (Vc.out.keep (hb1))
      replace Vd := Kept.mk (Vd.out.keep (hb1))
      replace Vx := Kept.mk (Vx.out.keep (hb1))
      replace Vy := Kept.mk (Vy.out.keep (hb1))
      clear hb1
      obtain ⟨qa, ra, xa, -, -, ka0, ka1, ka2, ka3, ka4, ka5, ka6, ka7⟩ := Va.out.open_
      have Xa := Kept.mk xa
      clear xa
      obtain ⟨qb, rb, xb, -, -, kb0, kb1, kb2, kb3, kb4, kb5, kb6, kb7⟩ := Vb.out.open_
      have Xb := Kept.mk xb
      clear xb
      have hx := checkV_zero F0
      go_wp2_with fail
      ((with_reducible refine (vbelow_any F0 F1 _ _ _ Xa.out Xb.out FFa.out FFb.out).mono ?_); rintro e W15 ⟨rfl, hb1⟩)
      clear Xa ka0 ka1 ka2 ka3 ka4 ka5 ka6 ka7
      clear Xb kb0 kb1 kb2 kb3 kb4 kb5 kb6 kb7
      replace hB := Kept.mk (hB.out.trans ((hb1).mono hB.out.size))
      replace Va := Kept.mk (Va.out.keep (hb1))
      replace Vb := Kept.mk (Vb.out.keep (hb1))
      replace Vc := Kept.mk (Vc.out.keep (hb1))
      replace Vd := Kept.mk (Vd.out.keep (hb1))
      replace Vx := Kept.mk (Vx.out.keep (hb1))
      replace Vy := Kept.mk (Vy.out.keep (hb1))
      clear hb1
      obtain ⟨qa, ra, xa, -, -, ka0, ka1, ka2, ka3, ka4, ka5, ka6, ka7⟩ := Va.out.open_
      have Xa := Kept.mk xa
      clear xa
      obtain ⟨qb, rb, xb, -, -, kb0, kb1, kb2, kb3, kb4, kb5, kb6, kb7⟩ := Vb.out.open_
      have Xb := Kept.mk xb
      clear xb
      go_wp2_with fail
      ((with_reducible refine (f_same F0 F1 zs _ _ _ Xa.out Xb.out FFa.out FFb.out HZS.out.symm).mono ?_); rintro e W16 ⟨rfl, hb1⟩)
      clear Xa ka0 ka1 ka2 ka3 ka4 ka5 ka6 ka7
      clear Xb kb0 kb1 kb2 kb3 kb4 kb5 kb6 kb7
      replace hB := Kept.mk (hB.out.trans ((hb1).mono hB.out.size))
      replace Va := Kept.mk (Va.out.keep (hb1))
      replace Vb := Kept.mk (Vb.out.keep (hb1))
      replace Vc := Kept.mk (Vc.out.keep (hb1))
      replace Vd := Kept.mk (Vd.out.keep (hb1))
      replace Vx := Kept.mk (Vx.out.keep (hb1))
      replace Vy := Kept.mk (Vy.out.keep (hb1))
      clear hb1
      obtain ⟨qa, ra, xa, -, -, ka0, ka1, ka2, ka3, ka4, ka5, ka6, ka7⟩ := Va.out.open_
      have Xa := Kept.mk xa
      clear xa
      go_wp2_with fail
      ((with_reducible refine (vsum_any F0 _ _ Xa.out FFa.out).mono ?_); rintro e W17 ⟨rfl, hb1⟩)
      clear Xa ka0 ka1 ka2 ka3 ka4 ka5 ka6 ka7
      replace hB := Kept.mk (hB.out.trans ((hb1).mono hB.out.size))
      replace Va := Kept.mk (Va.out.keep (hb1))
      replace Vb := Kept.mk (Vb.out.keep (hb1))
      replace Vc := Kept.mk (Vc.out.keep (hb1))
      replace Vd := Kept.mk (Vd.out.keep (hb1))
      replace Vx := Kept.mk (Vx.out.keep (hb1))
      replace Vy := Kept.mk (Vy.out.keep (hb1))
      clear hb1
      go_wp2
      all_goals go_ret
      all_goals exact ⟨rfl, hB.out⟩
set_option maxRecDepth 100000 in
theorem valueTells_lifted (os : Os) (started : os.Started) (H : Type) (enc : TypeId × Value → H) :
    ReturnsInHanded {} Try.checked os 3 .any (Rows.valueTellsSpec.pre6 enc Try.prog Try.f3 Rows.valueTellsRow.domain false) (Rows.valueTellsSpec.post enc Try.prog Try.f3 false true false false) := by
  refine returnsInHanded_of_change (C := Try.checked) (by kernel_rfl : ownKnob Try.prog.godebug = none) started (by kernel_rfl) Try.func3
    (ChangeSpec.witness6 (enc := enc) (C := Try.checked) false ⟨#[], #[.agg #[.int .i64 0, .int .i64 0, .int .i64 0, .bool false, .string ByteArray.empty, .slice none 0 0, .slice none 0 0, .int .u64 0], .agg #[.int .i64 0, .int .i64 0, .int .i64 0, .bool false, .string ByteArray.empty, .slice none 0 0, .slice none 0 0, .int .u64 0], .int .i64 0], []⟩ 8 (by kernel_rfl) (by kernel_rfl) (by kernel_rfl) (by kernel_rfl)) ?_
  intro W base args ds gs before hval0 hW hcnd _
  have hval : ∀ (j : Nat) t v, Try.f3.params[j]? = some t → args[j]? = some v → Value.okWide Try.prog W .any base t v := hval0
  have hW' := hW
  obtain ⟨p, q, hA0, hV, rfl, hfz, hnd⟩ := hW
  have hA : DataW.TrodAll enc Try.prog W 0 (fun _ => true) true Try.f3.params.toList args.toList ds p := hA0
  rw [Try.params3] at hA hval
  obtain ⟨v0, vs0, d0, ds0, p0, q0, hargs, rfl, rfl, h0, r0⟩ := trodAll_cons hA
  obtain ⟨v1, vs1, d1, ds1, p1, q1, rfl, rfl, rfl, h1, r1⟩ := trodAll_cons r0
  obtain ⟨v2, vs2, d2, ds2, p2, q2, rfl, rfl, rfl, h2, r2⟩ := trodAll_cons r1
  obtain ⟨rfl, rfl, rfl⟩ := trodAll_nil r2
  obtain rfl : args = #[v0, v1, v2] := by cases args; simp_all
  obtain ⟨rfl, rfl⟩ := trodVars_none hV
  obtain ⟨F0, fl0, w0⟩ := open_va (hval 0 25 v0 rfl rfl) h0
  have lt0 : ∀ x ∈ p0, x.block < W.heap.size := fun x hx => by obtain ⟨fuel, hf⟩ := h0; exact DataW.trod_lt fuel _ _ _ hf x hx
  obtain ⟨F1, fl1, w1⟩ := open_va (hval 1 25 v1 rfl rfl) h1
  have lt1 : ∀ x ∈ p1, x.block < W.heap.size := fun x hx => by obtain ⟨fuel, hf⟩ := h1; exact DataW.trod_lt fuel _ _ _ hf x hx
  obtain ⟨a2, rfl, rfl, rfl, w2⟩ := open_int Try.underlying3 (hval 2 3 v2 rfl rfl) h2
  clear hA0 hval0
  simp only [List.append_nil] at hW'
  refine (valueTells_walk F0 v0 F1 v1 a2 w0 w1 w2 W fl0 fl1).mono fun e W' ⟨he, bel⟩ => ?_
  subst he
  exact ⟨_, rfl, _, _, _, [], _, [], hW', trodAll_mk1 (shut_bool Try.underlying4 _), (trodAll_cons_mk (Below.trod (by kernel_rfl) (by kernel_rfl) (of_decide_eq_true (by kernel_rfl)) h0 bel lt0) (trodAll_cons_mk (Below.trod (by kernel_rfl) (by kernel_rfl) (of_decide_eq_true (by kernel_rfl)) h1 bel lt1) (trodAll_cons_mk (shut_int Try.underlying3 w2) trodAll_mk0))), rfl, bel.frame _, fun h => by cases h⟩
/-- THE STATEMENT. -/
theorem valueTells_proved : Rows.ValueTellsSaid :=
  OpenClaim.holds_of_wide 3 Try.f3 rfl rfl rfl rfl rfl rfl rfl ⟨rfl, rfl, rfl, rfl, rfl⟩ rfl rfl rfl rfl rfl (by kernel_rfl) Try.func3 (by kernel_rfl)
    (of_decide_eq_true (by kernel_rfl)) (by unfold Func.isWrapper; first | (rw [if_pos (by decide +kernel)]; kernel_rfl) | (rw [if_neg (by decide +kernel)]; exact ⟨rfl, rfl⟩))
    (fun os started H enc _ => valueTells_lifted os started H enc)
#print axioms valueTells_proved
end Go.Proofs.Ytnjlefciekcehaa
