/- Joined with itself a value is itself; two in any order are the same, three in any grouping (value.Join, Check, Same). -/
import Derived.Test.YtnjlefciekcehaaVaWorks
import Derived.Test.YtnjlefciekcehaaVaOpen
import Derived.SizedLaws
import Derived.ProofKit
import Derived.OpenShut
import Derived.ShutString
import Derived.ChangeOld
import Derived.Below
namespace Go.Proofs.Ytnjlefciekcehaa
open Go.RowKit
open Go.ChangeShapes Go.WideShapes Go.ChangeAt Go.RowKit
open Go.ChangeMaps (open_string shut_string)
set_option linter.unusedVariables false
set_option linter.unusedSimpArgs false
attribute [local irreducible] setN

theorem vjoin_flip (A B : Va) (v u : Value) (w : World) (hv : isVa A v w) (hu : isVa B u w) (hA : Fit A) (hB0 : Fit B) :
    Calls Try.prog 13 #[v, u] w fun e w' => ∃ v', e = .returned (.tuple #[v', .int .i64 (joinE B A)]) ∧ isVaN w.heap.size (joinF A B) v' w' ∧ Below w.heap.size w w' := by
  rw [joinE_comm]; exact vjoin_any A B v u w hv hu hA hB0
set_option maxRecDepth 100000 in
set_option maxHeartbeats 4000000 in
theorem valueJoins_walk (F0 : Va) (v0 : Value) (F1 : Va) (v1 : Value) (F2 : Va) (v2 : Value) (w0 : CameV F0) (w1 : CameV F1) (w2 : CameV F2) (w : World) (fl0 : isVa F0 v0 w) (fl1 : isVa F1 v1 w) (fl2 : isVa F2 v2 w) :
    Calls Try.prog 4 #[v0, v1, v2] w fun e w' => e = .returned (.bool true) ∧ Below w.heap.size w w' := by
  obtain ⟨pa, ma, rfl, hpa, hma⟩ := fl0
  obtain ⟨pb, mb, rfl, hpb, hmb⟩ := fl1
  obtain ⟨pc, mc, rfl, hpc, hmc⟩ := fl2
  obtain ⟨hB, Va⟩ := vbox w F0 pa ma hpa hma (w.heap.size) (by simp)
  obtain ⟨hBn, Vb⟩ := vbox (w.alloc (.cells #[.int .i64 F0.kind, .int .i64 F0.time, .int .i64 F0.node, .bool F0.dead, .string ⟨F0.text.toArray⟩, pa, ma, .int .u64 (F0.flags.toNat : Int)] 25)) F1 pb mb (stable_cells _ _ _ _ hpb hB.out) (stable_cells _ _ _ _ hmb hB.out) (w.heap.size + 1) (by simp)
  replace Va := Kept.mk (Va.out.keep hBn.out)
  replace hB := Kept.mk (hB.out.trans (hBn.out.mono hB.out.size))
  clear hBn
  obtain ⟨hBn, Vc⟩ := vbox ((w.alloc (.cells #[.int .i64 F0.kind, .int .i64 F0.time, .int .i64 F0.node, .bool F0.dead, .string ⟨F0.text.toArray⟩, pa, ma, .int .u64 (F0.flags.toNat : Int)] 25)).alloc (.cells #[.int .i64 F1.kind, .int .i64 F1.time, .int .i64 F1.node, .bool F1.dead, .string ⟨F1.text.toArray⟩, pb, mb, .int .u64 (F1.flags.toNat : Int)] 25)) F2 pc mc (stable_cells _ _ _ _ hpc hB.out) (stable_cells _ _ _ _ hmc hB.out) (w.heap.size + 2) (by simp)
  replace Va := Kept.mk (Va.out.keep hBn.out)
  replace Vb := Kept.mk (Vb.out.keep hBn.out)
  replace hB := Kept.mk (hB.out.trans (hBn.out.mono hB.out.size))
  clear hBn
  clear hpa hma hpb hmb hpc hmc
  go_enter Try.func4, Try.ntmps4
  go_wp2_with fail
  generalize (((w.alloc (.cells #[.int .i64 F0.kind, .int .i64 F0.time, .int .i64 F0.node, .bool F0.dead, .string ⟨F0.text.toArray⟩, pa, ma, .int .u64 (F0.flags.toNat : Int)] 25)).alloc (.cells #[.int .i64 F1.kind, .int .i64 F1.time, .int .i64 F1.node, .bool F1.dead, .string ⟨F1.text.toArray⟩, pb, mb, .int .u64 (F1.flags.toNat : Int)] 25)).alloc (.cells #[.int .i64 F2.kind, .int .i64 F2.time, .int .i64 F2.node, .bool F2.dead, .string ⟨F2.text.toArray⟩, pc, mc, .int .u64 (F2.flags.toNat : Int)] 25)) = W0 at *
  ((with_reducible refine (vworks_any _).mono ?_); rintro e W1 ⟨rfl, hb1⟩)
  replace hB := Kept.mk (hB.out.trans ((hb1).mono hB.out.size))
  replace Va := Kept.mk (Va.out.keep (hb1))
  replace Vb := Kept.mk (Vb.out.keep (hb1))
  replace Vc := Kept.mk (Vc.out.keep (hb1))
  clear hb1
  obtain ⟨qa, ra, xa, -, -, ka0, ka1, ka2, ka3, ka4, ka5, ka6, ka7⟩ := Va.out.open_
  have Xa := Kept.mk xa
  clear xa
  go_wp2_with fail
  ((with_reducible refine (vfew_any F0 _ _ Xa.out).mono ?_); rintro e W2 ⟨rfl, hb1⟩)
  clear Xa ka0 ka1 ka2 ka3 ka4 ka5 ka6 ka7
  replace hB := Kept.mk (hB.out.trans ((hb1).mono hB.out.size))
  replace Va := Kept.mk (Va.out.keep (hb1))
  replace Vb := Kept.mk (Vb.out.keep (hb1))
  replace Vc := Kept.mk (Vc.out.keep (hb1))
  clear hb1
  cases fa : fewV F0 with
  | false =>
    go_wp2
    go_ret
    exact ⟨rfl, hB.out⟩
  | true =>
    have FFa := Kept.mk (few_fit fa)
    clear fa
    obtain ⟨qb, rb, xb, -, -, kb0, kb1, kb2, kb3, kb4, kb5, kb6, kb7⟩ := Vb.out.open_
    have Xb := Kept.mk xb
    clear xb
    go_wp2_with fail
    ((with_reducible refine (vfew_any F1 _ _ Xb.out).mono ?_); rintro e W3 ⟨rfl, hb1⟩)
    clear Xb kb0 kb1 kb2 kb3 kb4 kb5 kb6 kb7
    replace hB := Kept.mk (hB.out.trans ((hb1).mono hB.out.size))
    replace Va := Kept.mk (Va.out.keep (hb1))
    replace Vb := Kept.mk (Vb.out.keep (hb1))
    replace Vc := Kept.mk (Vc.out.keep (hb1))
    clear hb1
    cases fb : fewV F1 with
    | false =>
      go_wp2
      go_ret
      exact ⟨rfl, hB.out⟩
    | true =>
      have FFb := Kept.mk (few_fit fb)
      clear fb
      obtain ⟨qc, rc, xc, -, -, kc0, kc1, kc2, kc3, kc4, kc5, kc6, kc7⟩ := Vc.out.open_
      have Xc := Kept.mk xc
      clear xc
      go_wp2_with fail
      ((with_reducible refine (vfew_any F2 _ _ Xc.out).mono ?_); rintro e W4 ⟨rfl, hb1⟩)
      clear Xc kc0 kc1 kc2 kc3 kc4 kc5 kc6 kc7
      replace hB := Kept.mk (hB.out.trans ((hb1).mono hB.out.size))
      replace Va := Kept.mk (Va.out.keep (hb1))
      replace Vb := Kept.mk (Vb.out.keep (hb1))
      replace Vc := Kept.mk (Vc.out.keep (hb1))
      clear hb1
      cases fc : fewV F2 with
      | false =>
        go_wp2
        go_ret
        exact ⟨rfl, hB.out⟩
      | true =>
        have FFc := Kept.mk (few_fit fc)
        clear fc
        obtain ⟨qa, ra, xa, -, -, ka0, ka1, ka2, ka3, ka4, ka5, ka6, ka7⟩ := Va.out.open_
        have Xa := Kept.mk xa
        clear xa
        go_wp2_with fail
        ((with_reducible refine (vjoin_any F0 F0 _ _ _ Xa.out Xa.out FFa.out FFa.out).mono ?_); rintro e U ⟨v', rfl, ⟨p', m', rfl, hp', hm', _, _⟩, hb1⟩)
        obtain ⟨K1, K2, K3, K4, K5⟩ := vnew U (joinF F0 F0) p' m' hp' hm' U.heap.size rfl
        clear hp' hm'
        clear Xa ka0 ka1 ka2 ka3 ka4 ka5 ka6 ka7
        replace hB := Kept.mk (hB.out.trans ((hb1).mono hB.out.size))
        replace Va := Kept.mk (Va.out.keep (hb1))
        replace Vb := Kept.mk (Vb.out.keep (hb1))
        replace Vc := Kept.mk (Vc.out.keep (hb1))
        clear hb1
        go_wp2_with (have hz0 := K1; refine wpList_storeN 25 rfl (.tmp 9) (.tmp 41) rfl U.heap.size [.int .i64 (joinF F0 F0).kind, .int .i64 (joinF F0 F0).time, .int .i64 (joinF F0 F0).node, .bool (joinF F0 F0).dead, .string ⟨(joinF F0 F0).text.toArray⟩, p', m', .int .u64 ((joinF F0 F0).flags.toNat : Int)] size_va rfl rfl K1.out rfl K2.out K5.out ?_; replace hB := Kept.mk (hB.out.trans ((K3.out).mono hB.out.size)); replace Va := Kept.mk (Va.out.keep (K3.out)); replace Vb := Kept.mk (Vb.out.keep (K3.out)); replace Vc := Kept.mk (Vc.out.keep (K3.out)); have Vx := Kept.mk K4.out.var; clear hz0 K1 K2 K3 K4 K5; generalize setN (U.alloc (.cells #[.int .i64 0, .int .i64 0, .int .i64 0, .bool false, .string ⟨#[]⟩, .slice none 0 0, .slice none 0 0, .int .u64 0] 25)) U.heap.size 0 [.int .i64 (joinF F0 F0).kind, .int .i64 (joinF F0 F0).time, .int .i64 (joinF F0 F0).node, .bool (joinF F0 F0).dead, .string ⟨(joinF F0 F0).text.toArray⟩, p', m', .int .u64 ((joinF F0 F0).flags.toNat : Int)] = W5 at *; generalize U.heap.size = gx at *; obtain ⟨qa, ra, xa, -, -, ka0, ka1, ka2, ka3, ka4, ka5, ka6, ka7⟩ := Va.out.open_; have Xa := Kept.mk xa; clear xa; obtain ⟨qb, rb, xb, -, -, kb0, kb1, kb2, kb3, kb4, kb5, kb6, kb7⟩ := Vb.out.open_; have Xb := Kept.mk xb; clear xb)
        ((with_reducible refine (vjoin_any F0 F1 _ _ _ Xa.out Xb.out FFa.out FFb.out).mono ?_); rintro e U ⟨v', rfl, ⟨p', m', rfl, hp', hm', _, _⟩, hb1⟩)
        obtain ⟨K1, K2, K3, K4, K5⟩ := vnew U (joinF F0 F1) p' m' hp' hm' U.heap.size rfl
        clear hp' hm'
        clear Xa ka0 ka1 ka2 ka3 ka4 ka5 ka6 ka7
        clear Xb kb0 kb1 kb2 kb3 kb4 kb5 kb6 kb7
        replace hB := Kept.mk (hB.out.trans ((hb1).mono hB.out.size))
        replace Va := Kept.mk (Va.out.keep (hb1))
        replace Vb := Kept.mk (Vb.out.keep (hb1))
        replace Vc := Kept.mk (Vc.out.keep (hb1))
        replace Vx := Kept.mk (Vx.out.keep (hb1))
        clear hb1
        go_wp2_with (have hz0 := K1; refine wpList_storeN 25 rfl (.tmp 11) (.tmp 47) rfl U.heap.size [.int .i64 (joinF F0 F1).kind, .int .i64 (joinF F0 F1).time, .int .i64 (joinF F0 F1).node, .bool (joinF F0 F1).dead, .string ⟨(joinF F0 F1).text.toArray⟩, p', m', .int .u64 ((joinF F0 F1).flags.toNat : Int)] size_va rfl rfl K1.out rfl K2.out K5.out ?_; replace hB := Kept.mk (hB.out.trans ((K3.out).mono hB.out.size)); replace Va := Kept.mk (Va.out.keep (K3.out)); replace Vb := Kept.mk (Vb.out.keep (K3.out)); replace Vc := Kept.mk (Vc.out.keep (K3.out)); replace Vx := Kept.mk (Vx.out.keep (K3.out)); have Vab := Kept.mk K4.out.var; clear hz0 K1 K2 K3 K4 K5; generalize setN (U.alloc (.cells #[.int .i64 0, .int .i64 0, .int .i64 0, .bool false, .string ⟨#[]⟩, .slice none 0 0, .slice none 0 0, .int .u64 0] 25)) U.heap.size 0 [.int .i64 (joinF F0 F1).kind, .int .i64 (joinF F0 F1).time, .int .i64 (joinF F0 F1).node, .bool (joinF F0 F1).dead, .string ⟨(joinF F0 F1).text.toArray⟩, p', m', .int .u64 ((joinF F0 F1).flags.toNat : Int)] = W6 at *; generalize U.heap.size = gab at *; obtain ⟨qa, ra, xa, -, -, ka0, ka1, ka2, ka3, ka4, ka5, ka6, ka7⟩ := Va.out.open_; have Xa := Kept.mk xa; clear xa; obtain ⟨qb, rb, xb, -, -, kb0, kb1, kb2, kb3, kb4, kb5, kb6, kb7⟩ := Vb.out.open_; have Xb := Kept.mk xb; clear xb)
        ((with_reducible refine (vjoin_flip F1 F0 _ _ _ Xb.out Xa.out FFb.out FFa.out).mono ?_); rintro e U ⟨v', rfl, ⟨p', m', rfl, hp', hm', _, _⟩, hb1⟩)
        obtain ⟨K1, K2, K3, K4, K5⟩ := vnew U (joinF F1 F0) p' m' hp' hm' U.heap.size rfl
        clear hp' hm'
        clear Xa ka0 ka1 ka2 ka3 ka4 ka5 ka6 ka7
        clear Xb kb0 kb1 kb2 kb3 kb4 kb5 kb6 kb7
        replace hB := Kept.mk (hB.out.trans ((hb1).mono hB.out.size))
        replace Va := Kept.mk (Va.out.keep (hb1))
        replace Vb := Kept.mk (Vb.out.keep (hb1))
        replace Vc := Kept.mk (Vc.out.keep (hb1))
        replace Vx := Kept.mk (Vx.out.keep (hb1))
        replace Vab := Kept.mk (Vab.out.keep (hb1))
        clear hb1
        go_wp2_with (have hz0 := K1; refine wpList_storeN 25 rfl (.tmp 13) (.tmp 53) rfl U.heap.size [.int .i64 (joinF F1 F0).kind, .int .i64 (joinF F1 F0).time, .int .i64 (joinF F1 F0).node, .bool (joinF F1 F0).dead, .string ⟨(joinF F1 F0).text.toArray⟩, p', m', .int .u64 ((joinF F1 F0).flags.toNat : Int)] size_va rfl rfl K1.out rfl K2.out K5.out ?_; replace hB := Kept.mk (hB.out.trans ((K3.out).mono hB.out.size)); replace Va := Kept.mk (Va.out.keep (K3.out)); replace Vb := Kept.mk (Vb.out.keep (K3.out)); replace Vc := Kept.mk (Vc.out.keep (K3.out)); replace Vx := Kept.mk (Vx.out.keep (K3.out)); replace Vab := Kept.mk (Vab.out.keep (K3.out)); have Vba := Kept.mk K4.out.var; clear hz0 K1 K2 K3 K4 K5; generalize setN (U.alloc (.cells #[.int .i64 0, .int .i64 0, .int .i64 0, .bool false, .string ⟨#[]⟩, .slice none 0 0, .slice none 0 0, .int .u64 0] 25)) U.heap.size 0 [.int .i64 (joinF F1 F0).kind, .int .i64 (joinF F1 F0).time, .int .i64 (joinF F1 F0).node, .bool (joinF F1 F0).dead, .string ⟨(joinF F1 F0).text.toArray⟩, p', m', .int .u64 ((joinF F1 F0).flags.toNat : Int)] = W7 at *; generalize U.heap.size = gba at *; obtain ⟨qb, rb, xb, -, -, kb0, kb1, kb2, kb3, kb4, kb5, kb6, kb7⟩ := Vb.out.open_; have Xb := Kept.mk xb; clear xb; obtain ⟨qc, rc, xc, -, -, kc0, kc1, kc2, kc3, kc4, kc5, kc6, kc7⟩ := Vc.out.open_; have Xc := Kept.mk xc; clear xc)
        ((with_reducible refine (vjoin_any F1 F2 _ _ _ Xb.out Xc.out FFb.out FFc.out).mono ?_); rintro e U ⟨v', rfl, ⟨p', m', rfl, hp', hm', _, _⟩, hb1⟩)
        obtain ⟨K1, K2, K3, K4, K5⟩ := vnew U (joinF F1 F2) p' m' hp' hm' U.heap.size rfl
        clear hp' hm'
        clear Xb kb0 kb1 kb2 kb3 kb4 kb5 kb6 kb7
        clear Xc kc0 kc1 kc2 kc3 kc4 kc5 kc6 kc7
        replace hB := Kept.mk (hB.out.trans ((hb1).mono hB.out.size))
        replace Va := Kept.mk (Va.out.keep (hb1))
        replace Vb := Kept.mk (Vb.out.keep (hb1))
        replace Vc := Kept.mk (Vc.out.keep (hb1))
        replace Vx := Kept.mk (Vx.out.keep (hb1))
        replace Vab := Kept.mk (Vab.out.keep (hb1))
        replace Vba := Kept.mk (Vba.out.keep (hb1))
        clear hb1
        go_wp2_with (have hz0 := K1; refine wpList_storeN 25 rfl (.tmp 15) (.tmp 59) rfl U.heap.size [.int .i64 (joinF F1 F2).kind, .int .i64 (joinF F1 F2).time, .int .i64 (joinF F1 F2).node, .bool (joinF F1 F2).dead, .string ⟨(joinF F1 F2).text.toArray⟩, p', m', .int .u64 ((joinF F1 F2).flags.toNat : Int)] size_va rfl rfl K1.out rfl K2.out K5.out ?_; replace hB := Kept.mk (hB.out.trans ((K3.out).mono hB.out.size)); replace Va := Kept.mk (Va.out.keep (K3.out)); replace Vb := Kept.mk (Vb.out.keep (K3.out)); replace Vc := Kept.mk (Vc.out.keep (K3.out)); replace Vx := Kept.mk (Vx.out.keep (K3.out)); replace Vab := Kept.mk (Vab.out.keep (K3.out)); replace Vba := Kept.mk (Vba.out.keep (K3.out)); have Vbc := Kept.mk K4.out.var; clear hz0 K1 K2 K3 K4 K5; generalize setN (U.alloc (.cells #[.int .i64 0, .int .i64 0, .int .i64 0, .bool false, .string ⟨#[]⟩, .slice none 0 0, .slice none 0 0, .int .u64 0] 25)) U.heap.size 0 [.int .i64 (joinF F1 F2).kind, .int .i64 (joinF F1 F2).time, .int .i64 (joinF F1 F2).node, .bool (joinF F1 F2).dead, .string ⟨(joinF F1 F2).text.toArray⟩, p', m', .int .u64 ((joinF F1 F2).flags.toNat : Int)] = W8 at *; generalize U.heap.size = gbc at *; obtain ⟨qab, rab, xab, -, -, kab0, kab1, kab2, kab3, kab4, kab5, kab6, kab7⟩ := Vab.out.open_; have Xab := Kept.mk xab; clear xab; obtain ⟨qc, rc, xc, -, -, kc0, kc1, kc2, kc3, kc4, kc5, kc6, kc7⟩ := Vc.out.open_; have Xc := Kept.mk xc; clear xc)
        ((with_reducible refine (vjoin_any (joinF F0 F1) F2 _ _ _ Xab.out Xc.out (fit_join FFa.out FFb.out) FFc.out).mono ?_); rintro e U ⟨v', rfl, ⟨p', m', rfl, hp', hm', _, _⟩, hb1⟩)
        obtain ⟨K1, K2, K3, K4, K5⟩ := vnew U (joinF (joinF F0 F1) F2) p' m' hp' hm' U.heap.size rfl
        clear hp' hm'
        clear Xab kab0 kab1 kab2 kab3 kab4 kab5 kab6 kab7
        clear Xc kc0 kc1 kc2 kc3 kc4 kc5 kc6 kc7
        replace hB := Kept.mk (hB.out.trans ((hb1).mono hB.out.size))
        replace Va := Kept.mk (Va.out.keep (hb1))
        replace Vb := Kept.mk (Vb.out.keep (hb1))
        replace Vc := Kept.mk (Vc.out.keep (hb1))
        replace Vx := Kept.mk (Vx.out.keep (hb1))
        replace Vab := Kept.mk (Vab.out.keep (hb1))
        replace Vba := Kept.mk (Vba.out.keep (hb1))
        replace Vbc := Kept.mk (Vbc.out.keep (hb1))
        clear hb1
        go_wp2_with (have hz0 := K1; refine wpList_storeN 25 rfl (.tmp 17) (.tmp 65) rfl U.heap.size [.int .i64 (joinF (joinF F0 F1) F2).kind, .int .i64 (joinF (joinF F0 F1) F2).time, .int .i64 (joinF (joinF F0 F1) F2).node, .bool (joinF (joinF F0 F1) F2).dead, .string ⟨(joinF (joinF F0 F1) F2).text.toArray⟩, p', m', .int .u64 ((joinF (joinF F0 F1) F2).flags.toNat : Int)] size_va rfl rfl K1.out rfl K2.out K5.out ?_; replace hB := Kept.mk (hB.out.trans ((K3.out).mono hB.out.size)); replace Va := Kept.mk (Va.out.keep (K3.out)); replace Vb := Kept.mk (Vb.out.keep (K3.out)); replace Vc := Kept.mk (Vc.out.keep (K3.out)); replace Vx := Kept.mk (Vx.out.keep (K3.out)); replace Vab := Kept.mk (Vab.out.keep (K3.out)); replace Vba := Kept.mk (Vba.out.keep (K3.out)); replace Vbc := Kept.mk (Vbc.out.keep (K3.out)); have Vl := Kept.mk K4.out.var; clear hz0 K1 K2 K3 K4 K5; generalize setN (U.alloc (.cells #[.int .i64 0, .int .i64 0, .int .i64 0, .bool false, .string ⟨#[]⟩, .slice none 0 0, .slice none 0 0, .int .u64 0] 25)) U.heap.size 0 [.int .i64 (joinF (joinF F0 F1) F2).kind, .int .i64 (joinF (joinF F0 F1) F2).time, .int .i64 (joinF (joinF F0 F1) F2).node, .bool (joinF (joinF F0 F1) F2).dead, .string ⟨(joinF (joinF F0 F1) F2).text.toArray⟩, p', m', .int .u64 ((joinF (joinF F0 F1) F2).flags.toNat : Int)] = W9 at *; generalize U.heap.size = gl at *; obtain ⟨qa, ra, xa, -, -, ka0, ka1, ka2, ka3, ka4, ka5, ka6, ka7⟩ := Va.out.open_; have Xa := Kept.mk xa; clear xa; obtain ⟨qbc, rbc, xbc, -, -, kbc0, kbc1, kbc2, kbc3, kbc4, kbc5, kbc6, kbc7⟩ := Vbc.out.open_; have Xbc := Kept.mk xbc; clear xbc)
        ((with_reducible refine (vjoin_any F0 (joinF F1 F2) _ _ _ Xa.out Xbc.out FFa.out (fit_join FFb.out FFc.out)).mono ?_); rintro e U ⟨v', rfl, ⟨p', m', rfl, hp', hm', _, _⟩, hb1⟩)
        obtain ⟨K1, K2, K3, K4, K5⟩ := vnew U (joinF F0 (joinF F1 F2)) p' m' hp' hm' U.heap.size rfl
        clear hp' hm'
        clear Xa ka0 ka1 ka2 ka3 ka4 ka5 ka6 ka7
        clear Xbc kbc0 kbc1 kbc2 kbc3 kbc4 kbc5 kbc6 kbc7
        replace hB := Kept.mk (hB.out.trans ((hb1).mono hB.out.size))
        replace Va := Kept.mk (Va.out.keep (hb1))
        replace Vb := Kept.mk (Vb.out.keep (hb1))
        replace Vc := Kept.mk (Vc.out.keep (hb1))
        replace Vx := Kept.mk (Vx.out.keep (hb1))
        replace Vab := Kept.mk (Vab.out.keep (hb1))
        replace Vba := Kept.mk (Vba.out.keep (hb1))
        replace Vbc := Kept.mk (Vbc.out.keep (hb1))
        replace Vl := Kept.mk (Vl.out.keep (hb1))
        clear hb1
        go_wp2_with (have hz0 := K1; refine wpList_storeN 25 rfl (.tmp 19) (.tmp 71) rfl U.heap.size [.int .i64 (joinF F0 (joinF F1 F2)).kind, .int .i64 (joinF F0 (joinF F1 F2)).time, .int .i64 (joinF F0 (joinF F1 F2)).node, .bool (joinF F0 (joinF F1 F2)).dead, .string ⟨(joinF F0 (joinF F1 F2)).text.toArray⟩, p', m', .int .u64 ((joinF F0 (joinF F1 F2)).flags.toNat : Int)] size_va rfl rfl K1.out rfl K2.out K5.out ?_; replace hB := Kept.mk (hB.out.trans ((K3.out).mono hB.out.size)); replace Va := Kept.mk (Va.out.keep (K3.out)); replace Vb := Kept.mk (Vb.out.keep (K3.out)); replace Vc := Kept.mk (Vc.out.keep (K3.out)); replace Vx := Kept.mk (Vx.out.keep (K3.out)); replace Vab := Kept.mk (Vab.out.keep (K3.out)); replace Vba := Kept.mk (Vba.out.keep (K3.out)); replace Vbc := Kept.mk (Vbc.out.keep (K3.out)); replace Vl := Kept.mk (Vl.out.keep (K3.out)); have Vr := Kept.mk K4.out.var; clear hz0 K1 K2 K3 K4 K5; generalize setN (U.alloc (.cells #[.int .i64 0, .int .i64 0, .int .i64 0, .bool false, .string ⟨#[]⟩, .slice none 0 0, .slice none 0 0, .int .u64 0] 25)) U.heap.size 0 [.int .i64 (joinF F0 (joinF F1 F2)).kind, .int .i64 (joinF F0 (joinF F1 F2)).time, .int .i64 (joinF F0 (joinF F1 F2)).node, .bool (joinF F0 (joinF F1 F2)).dead, .string ⟨(joinF F0 (joinF F1 F2)).text.toArray⟩, p', m', .int .u64 ((joinF F0 (joinF F1 F2)).flags.toNat : Int)] = W10 at *; generalize U.heap.size = gr at *; obtain ⟨qa, ra, xa, -, -, ka0, ka1, ka2, ka3, ka4, ka5, ka6, ka7⟩ := Va.out.open_; have Xa := Kept.mk xa; clear xa)
        ((with_reducible refine (vcheck_any F0 _ _ Xa.out FFa.out).mono ?_); rintro e W11 ⟨rfl, hb1⟩)
        clear Xa ka0 ka1 ka2 ka3 ka4 ka5 ka6 ka7
        replace hB := Kept.mk (hB.out.trans ((hb1).mono hB.out.size))
        replace Va := Kept.mk (Va.out.keep (hb1))
        replace Vb := Kept.mk (Vb.out.keep (hb1))
        replace Vc := Kept.mk (Vc.out.keep (hb1))
        replace Vx := Kept.mk (Vx.out.keep (hb1))
        replace Vab := Kept.mk (Vab.out.keep (hb1))
        replace Vba := Kept.mk (Vba.out.keep (hb1))
        replace Vbc := Kept.mk (Vbc.out.keep (hb1))
        replace Vl := Kept.mk (Vl.out.keep (hb1))
        replace Vr := Kept.mk (Vr.out.keep (hb1))
        clear hb1
        have hx := joinE_self F0
        have hc := checkV_zero F0
        cases dA : okV F0 with
        | false =>
          have df := joinE_no (B := F1) dA
          rw [dA] at hx hc
          clear dA
          go_wp2
          all_goals go_ret
          all_goals exact ⟨rfl, hB.out⟩
        | true =>
          have HA := Kept.mk dA
          rw [dA] at hx hc
          clear dA
          cases df : (joinE F0 F1 == 0) with
          | false =>
            obtain ⟨qx, rx, xx, -, -, kx0, kx1, kx2, kx3, kx4, kx5, kx6, kx7⟩ := Vx.out.open_
            have Xx := Kept.mk xx
            clear xx
            obtain ⟨qa, ra, xa, -, -, ka0, ka1, ka2, ka3, ka4, ka5, ka6, ka7⟩ := Va.out.open_
            have Xa := Kept.mk xa
            clear xa
            go_wp2_with fail
            ((with_reducible refine (f_same (joinF F0 F0) F0 true _ _ _ Xx.out Xa.out (fit_join FFa.out FFa.out) FFa.out (decide_eq_true (join_self HA.out).2)).mono ?_); rintro e W12 ⟨rfl, hb1⟩)
            clear Xx kx0 kx1 kx2 kx3 kx4 kx5 kx6 kx7
            clear Xa ka0 ka1 ka2 ka3 ka4 ka5 ka6 ka7
            replace hB := Kept.mk (hB.out.trans ((hb1).mono hB.out.size))
            replace Va := Kept.mk (Va.out.keep (hb1))
            replace Vb := Kept.mk (Vb.out.keep (hb1))
            replace Vc := Kept.mk (Vc.out.keep (hb1))
            replace Vx := Kept.mk (Vx.out.keep (hb1))
            replace Vab := Kept.mk (Vab.out.keep (hb1))
            replace Vba := Kept.mk (Vba.out.keep (hb1))
            replace Vbc := Kept.mk (Vbc.out.keep (hb1))
            replace Vl := Kept.mk (Vl.out.keep (hb1))
            replace Vr := Kept.mk (Vr.out.keep (hb1))
            clear hb1
            go_wp2
            all_goals go_ret
            all_goals exact ⟨rfl, hB.out⟩
          | true =>
            have HF := Kept.mk (show joinE F0 F1 = 0 by simpa using df)
            cases dh : (joinE F1 F2 == 0) with
            | false =>
              obtain ⟨qab, rab, xab, -, -, kab0, kab1, kab2, kab3, kab4, kab5, kab6, kab7⟩ := Vab.out.open_
              have Xab := Kept.mk xab
              clear xab
              obtain ⟨qba, rba, xba, -, -, kba0, kba1, kba2, kba3, kba4, kba5, kba6, kba7⟩ := Vba.out.open_
              have Xba := Kept.mk xba
              clear xba
              go_wp2_with fail
              ((with_reducible refine (f_same (joinF F0 F1) (joinF F1 F0) true _ _ _ Xab.out Xba.out (fit_join FFa.out FFb.out) (fit_join FFb.out FFa.out) (decide_eq_true (join_comm HF.out))).mono ?_); rintro e W12 ⟨rfl, hb1⟩)
              clear Xab kab0 kab1 kab2 kab3 kab4 kab5 kab6 kab7
              clear Xba kba0 kba1 kba2 kba3 kba4 kba5 kba6 kba7
              replace hB := Kept.mk (hB.out.trans ((hb1).mono hB.out.size))
              replace Va := Kept.mk (Va.out.keep (hb1))
              replace Vb := Kept.mk (Vb.out.keep (hb1))
              replace Vc := Kept.mk (Vc.out.keep (hb1))
              replace Vx := Kept.mk (Vx.out.keep (hb1))
              replace Vab := Kept.mk (Vab.out.keep (hb1))
              replace Vba := Kept.mk (Vba.out.keep (hb1))
              replace Vbc := Kept.mk (Vbc.out.keep (hb1))
              replace Vl := Kept.mk (Vl.out.keep (hb1))
              replace Vr := Kept.mk (Vr.out.keep (hb1))
              clear hb1
              obtain ⟨qx, rx, xx, -, -, kx0, kx1, kx2, kx3, kx4, kx5, kx6, kx7⟩ := Vx.out.open_
              have Xx := Kept.mk xx
              clear xx
              obtain ⟨qa, ra, xa, -, -, ka0, ka1, ka2, ka3, ka4, ka5, ka6, ka7⟩ := Va.out.open_
              have Xa := Kept.mk xa
              clear xa
              go_wp2_with fail
              ((with_reducible refine (f_same (joinF F0 F0) F0 true _ _ _ Xx.out Xa.out (fit_join FFa.out FFa.out) FFa.out (decide_eq_true (join_self HA.out).2)).mono ?_); rintro e W13 ⟨rfl, hb1⟩)
              clear Xx kx0 kx1 kx2 kx3 kx4 kx5 kx6 kx7
              clear Xa ka0 ka1 ka2 ka3 ka4 ka5 ka6 ka7
              replace hB := Kept.mk (hB.out.trans ((hb1).mono hB.out.size))
              replace Va := Kept.mk (Va.out.keep (hb1))
              replace Vb := Kept.mk (Vb.out.keep (hb1))
              replace Vc := Kept.mk (Vc.out.keep (hb1))
              replace Vx := Kept.mk (Vx.out.keep (hb1))
              replace Vab := Kept.mk (Vab.out.keep (hb1))
              replace Vba := Kept.mk (Vba.out.keep (hb1))
              replace Vbc := Kept.mk (Vbc.out.keep (hb1))
              replace Vl := Kept.mk (Vl.out.keep (hb1))
              replace Vr := Kept.mk (Vr.out.keep (hb1))
              clear hb1
              go_wp2
              all_goals go_ret
              all_goals exact ⟨rfl, hB.out⟩
            | true =>
              have HH := Kept.mk (show joinE F1 F2 = 0 by simpa using dh)
              obtain ⟨t1, t2, t3⟩ := join_assoc HF.out HH.out
              have HT := Kept.mk t3
              have d1 : (joinE (joinF F0 F1) F2 == 0) = true := by rw [t1]; rfl
              have d2 : (joinE F0 (joinF F1 F2) == 0) = true := by rw [t2]; rfl
              clear t1 t2 t3
              obtain ⟨qab, rab, xab, -, -, kab0, kab1, kab2, kab3, kab4, kab5, kab6, kab7⟩ := Vab.out.open_
              have Xab := Kept.mk xab
              clear xab
              obtain ⟨qba, rba, xba, -, -, kba0, kba1, kba2, kba3, kba4, kba5, kba6, kba7⟩ := Vba.out.open_
              have Xba := Kept.mk xba
              clear xba
              go_wp2_with fail
              ((with_reducible refine (f_same (joinF F0 F1) (joinF F1 F0) true _ _ _ Xab.out Xba.out (fit_join FFa.out FFb.out) (fit_join FFb.out FFa.out) (decide_eq_true (join_comm HF.out))).mono ?_); rintro e W12 ⟨rfl, hb1⟩)
              clear Xab kab0 kab1 kab2 kab3 kab4 kab5 kab6 kab7
              clear Xba kba0 kba1 kba2 kba3 kba4 kba5 kba6 kba7
              replace hB := Kept.mk (hB.out.trans ((hb1).mono hB.out.size))
              replace Va := Kept.mk (Va.out.keep (hb1))
              replace Vb := Kept.mk (Vb.out.keep (hb1))
              replace Vc := Kept.mk (Vc.out.keep (hb1))
              replace Vx := Kept.mk (Vx.out.keep (hb1))
              replace Vab := Kept.mk (Vab.out.keep (hb1))
              replace Vba := Kept.mk (Vba.out.keep (hb1))
              replace Vbc := Kept.mk (Vbc.out.keep (hb1))
              replace Vl := Kept.mk (Vl.out.keep (hb1))
              replace Vr := Kept.mk (Vr.out.keep (hb1))
              clear hb1
              obtain ⟨qx, rx, xx, -, -, kx0, kx1, kx2, kx3, kx4, kx5, kx6, kx7⟩ := Vx.out.open_
              have Xx := Kept.mk xx
              clear xx
              obtain ⟨qa, ra, xa, -, -, ka0, ka1, ka2, ka3, ka4, ka5, ka6, ka7⟩ := Va.out.open_
              have Xa := Kept.mk xa
              clear xa
              go_wp2_with fail
              ((with_reducible refine (f_same (joinF F0 F0) F0 true _ _ _ Xx.out Xa.out (fit_join FFa.out FFa.out) FFa.out (decide_eq_true (join_self HA.out).2)).mono ?_); rintro e W13 ⟨rfl, hb1⟩)
              clear Xx kx0 kx1 kx2 kx3 kx4 kx5 kx6 kx7
              clear Xa ka0 ka1 ka2 ka3 ka4 ka5 ka6 ka7
              replace hB := Kept.mk (hB.out.trans ((hb1).mono hB.out.size))
              replace Va := Kept.mk (Va.out.keep (hb1))
              replace Vb := Kept.mk (Vb.out.keep (hb1))
              replace Vc := Kept.mk (Vc.out.keep (hb1))
              replace Vx := Kept.mk (Vx.out.keep (hb1))
              replace Vab := Kept.mk (Vab.out.keep (hb1))
              replace Vba := Kept.mk (Vba.out.keep (hb1))
              replace Vbc := Kept.mk (Vbc.out.keep (hb1))
              replace Vl := Kept.mk (Vl.out.keep (hb1))
              replace Vr := Kept.mk (Vr.out.keep (hb1))
              clear hb1
              obtain ⟨ql, rl, xl, -, -, kl0, kl1, kl2, kl3, kl4, kl5, kl6, kl7⟩ := Vl.out.open_
              have Xl := Kept.mk xl
              clear xl
              obtain ⟨qr, rr, xr, -, -, kr0, kr1, kr2, kr3, kr4, kr5, kr6, kr7⟩ := Vr.out.open_
              have Xr := Kept.mk xr
              clear xr
              go_wp2_with fail
              ((with_reducible refine (f_same (joinF (joinF F0 F1) F2) (joinF F0 (joinF F1 F2)) true _ _ _ Xl.out Xr.out (fit_join (fit_join FFa.out FFb.out) FFc.out) (fit_join FFa.out (fit_join FFb.out FFc.out)) (decide_eq_true HT.out)).mono ?_); rintro e W14 ⟨rfl, hb1⟩)
              clear Xl kl0 kl1 kl2 kl3 kl4 kl5 kl6 kl7
              clear Xr kr0 kr1 kr2 kr3 kr4 kr5 kr6 kr7
              replace hB := Kept.mk (hB.out.trans ((hb1).mono hB.out.size))
              replace Va := Kept.mk (Va.out.keep (hb1))
              replace Vb := Kept.mk (Vb.out.keep (hb1))
              replace Vc := Kept.mk (Vc.out.keep (hb1))
              replace Vx := Kept.mk (Vx.out.keep (hb1))
              replace Vab := Kept.mk (Vab.out.keep (hb1))
              replace Vba := Kept.mk (Vba.out.keep (hb1))
              replace Vbc := Kept.mk (Vbc.out.keep (hb1))
              replace Vl := Kept.mk (Vl.out.keep (hb1))
              replace Vr := Kept.mk (Vr.out.keep (hb1))
              clear hb1
              go_wp2
              all_goals go_ret
              all_goals exact ⟨rfl, hB.out⟩
set_option maxRecDepth 100000 in
theorem valueJoins_lifted (os : Os) (started : os.Started) (H : Type) (enc : TypeId × Value → H) :
    ReturnsInHanded {} Try.checked os 4 .any (Rows.valueJoinsSpec.pre6 enc Try.prog Try.f4 Rows.valueJoinsRow.domain false) (Rows.valueJoinsSpec.post enc Try.prog Try.f4 false true false false) := by
  refine returnsInHanded_of_change (C := Try.checked) (by kernel_rfl : ownKnob Try.prog.godebug = none) started (by kernel_rfl) Try.func4
    (ChangeSpec.witness6 (enc := enc) (C := Try.checked) false ⟨#[], #[.agg #[.int .i64 0, .int .i64 0, .int .i64 0, .bool false, .string ByteArray.empty, .slice none 0 0, .slice none 0 0, .int .u64 0], .agg #[.int .i64 0, .int .i64 0, .int .i64 0, .bool false, .string ByteArray.empty, .slice none 0 0, .slice none 0 0, .int .u64 0], .agg #[.int .i64 0, .int .i64 0, .int .i64 0, .bool false, .string ByteArray.empty, .slice none 0 0, .slice none 0 0, .int .u64 0]], []⟩ 8 (by kernel_rfl) (by kernel_rfl) (by kernel_rfl) (by kernel_rfl)) ?_
  intro W base args ds gs before hval0 hW hcnd _
  have hval : ∀ (j : Nat) t v, Try.f4.params[j]? = some t → args[j]? = some v → Value.okWide Try.prog W .any base t v := hval0
  have hW' := hW
  obtain ⟨p, q, hA0, hV, rfl, hfz, hnd⟩ := hW
  have hA : DataW.TrodAll enc Try.prog W 0 (fun _ => true) true Try.f4.params.toList args.toList ds p := hA0
  rw [Try.params4] at hA hval
  obtain ⟨v0, vs0, d0, ds0, p0, q0, hargs, rfl, rfl, h0, r0⟩ := trodAll_cons hA
  obtain ⟨v1, vs1, d1, ds1, p1, q1, rfl, rfl, rfl, h1, r1⟩ := trodAll_cons r0
  obtain ⟨v2, vs2, d2, ds2, p2, q2, rfl, rfl, rfl, h2, r2⟩ := trodAll_cons r1
  obtain ⟨rfl, rfl, rfl⟩ := trodAll_nil r2
  obtain rfl : args = #[v0, v1, v2] := by cases args; simp_all
  obtain ⟨rfl, rfl⟩ := trodVars_none hV
  obtain ⟨F0, fl0, w0⟩ := open_va (hval 0 25 v0 rfl rfl) h0
  have lt0 : ∀ x ∈ p0, x.block < W.heap.size := fun x hx => by obtain ⟨fuel, hf⟩ := h0; exact DataW.trod_lt fuel _ _ _ hf x hx
  obtain ⟨F1, fl1, w1⟩ := open_va (hval 1 25 v1 rfl rfl) h1
  have lt1 : ∀ x ∈ p1, x.block < W.heap.size := fun x hx => by obtain ⟨fuel, hf⟩ := h1; exact DataW.trod_lt fuel _ _ _ hf x hx
  obtain ⟨F2, fl2, w2⟩ := open_va (hval 2 25 v2 rfl rfl) h2
  have lt2 : ∀ x ∈ p2, x.block < W.heap.size := fun x hx => by obtain ⟨fuel, hf⟩ := h2; exact DataW.trod_lt fuel _ _ _ hf x hx
  clear hA0 hval0
  simp only [List.append_nil] at hW'
  refine (valueJoins_walk F0 v0 F1 v1 F2 v2 w0 w1 w2 W fl0 fl1 fl2).mono fun e W' ⟨he, bel⟩ => ?_
  subst he
  exact ⟨_, rfl, _, _, _, [], _, [], hW', trodAll_mk1 (shut_bool Try.underlying4 _), (trodAll_cons_mk (Below.trod (by kernel_rfl) (by kernel_rfl) (of_decide_eq_true (by kernel_rfl)) h0 bel lt0) (trodAll_cons_mk (Below.trod (by kernel_rfl) (by kernel_rfl) (of_decide_eq_true (by kernel_rfl)) h1 bel lt1) (trodAll_cons_mk (Below.trod (by kernel_rfl) (by kernel_rfl) (of_decide_eq_true (by kernel_rfl)) h2 bel lt2) trodAll_mk0))), rfl, bel.frame _, fun h => by cases h⟩
/-- THE STATEMENT. -/
theorem valueJoins_proved : Rows.ValueJoinsSaid :=
  OpenClaim.holds_of_wide 4 Try.f4 rfl rfl rfl rfl rfl rfl rfl ⟨rfl, rfl, rfl, rfl, rfl⟩ rfl rfl rfl rfl rfl (by kernel_rfl) Try.func4 (by kernel_rfl)
    (of_decide_eq_true (by kernel_rfl)) (by unfold Func.isWrapper; first | (rw [if_pos (by decide +kernel)]; kernel_rfl) | (rw [if_neg (by decide +kernel)]; exact ⟨rfl, rfl⟩))
    (fun os started H enc _ => valueJoins_lifted os started H enc)
#print axioms valueJoins_proved
end Go.Proofs.Ytnjlefciekcehaa
