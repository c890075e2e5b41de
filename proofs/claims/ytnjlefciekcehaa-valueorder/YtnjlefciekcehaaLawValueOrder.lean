/- Below is an order: what is below what is below a third one is below that; two that are below each other are the same; of two registers one is below the other one (value.Below, Join, Check, Same). -/
import Derived.Test.YtnjlefciekcehaaVaWorks
import Derived.Test.YtnjlefciekcehaaVaOpen
import Derived.SizedLaws
import Derived.ProofKit
import Derived.OpenShut
import Derived.ShutString
import Derived.ChangeOld
import Derived.Below
namespace Go.Proofs.Ytnjlefciekcehaa
open Go.RowKit
open Go.ChangeShapes Go.WideShapes Go.ChangeAt Go.RowKit
open Go.ChangeMaps (open_string shut_string)
set_option linter.unusedVariables false
set_option linter.unusedSimpArgs false
attribute [local irreducible] setN

theorem checkV_cases (A : Va) : checkV A = if okV A = true then 0 else 2 := rfl
theorem reg_total {A B : Va} (hA : okV A = true) (hB : okV B = true) (kA : A.kind = 1) (kB : B.kind = 1) : (belowB A B || belowB B A) = true ∧ True := by
  refine ⟨?_, trivial⟩
  have e : joinE A B = 0 := joinE_zero.2 ⟨hA, hB, by omega⟩
  have e2 : joinE B A = 0 := by rw [joinE_comm]; exact e
  rw [Bool.or_eq_true]
  rcases reg_either A B (ok_reg hA kA).2 (ok_reg hB kB).2 with h | h
  · right
    rw [below_iff]
    exact ⟨e2, by rw [join_comm e2, joinF_ok e, joinV_reg kA]; exact h⟩
  · left
    rw [below_iff]
    exact ⟨e, by rw [joinF_ok e, joinV_reg kA]; exact h⟩
set_option maxRecDepth 100000 in
set_option maxHeartbeats 4000000 in
theorem valueOrder_walk (F0 : Va) (v0 : Value) (F1 : Va) (v1 : Value) (F2 : Va) (v2 : Value) (w0 : CameV F0) (w1 : CameV F1) (w2 : CameV F2) (w : World) (fl0 : isVa F0 v0 w) (fl1 : isVa F1 v1 w) (fl2 : isVa F2 v2 w) :
    Calls Try.prog 6 #[v0, v1, v2] w fun e w' => e = .returned (.bool true) ∧ Below w.heap.size w w' := by
  obtain ⟨pa, ma, rfl, hpa, hma⟩ := fl0
  obtain ⟨pb, mb, rfl, hpb, hmb⟩ := fl1
  obtain ⟨pc, mc, rfl, hpc, hmc⟩ := fl2
  obtain ⟨hB, Va⟩ := vbox w F0 pa ma hpa hma (w.heap.size) (by simp)
  obtain ⟨hBn, Vb⟩ := vbox (w.alloc (.cells #[.int .i64 F0.kind, .int .i64 F0.time, .int .i64 F0.node, .bool F0.dead, .string ⟨F0.text.toArray⟩, pa, ma, .int .u64 (F0.flags.toNat : Int)] 25)) F1 pb mb (stable_cells _ _ _ _ hpb hB.out) (stable_cells _ _ _ _ hmb hB.out) (w.heap.size + 1) (by simp)
  replace Va := Kept.mk (Va.out.keep hBn.out)
  replace hB := Kept.mk (hB.out.trans (hBn.out.mono hB.out.size))
  clear hBn
  obtain ⟨hBn, Vc⟩ := vbox ((w.alloc (.cells #[.int .i64 F0.kind, .int .i64 F0.time, .int .i64 F0.node, .bool F0.dead, .string ⟨F0.text.toArray⟩, pa, ma, .int .u64 (F0.flags.toNat : Int)] 25)).alloc (.cells #[.int .i64 F1.kind, .int .i64 F1.time, .int .i64 F1.node, .bool F1.dead, .string ⟨F1.text.toArray⟩, pb, mb, .int .u64 (F1.flags.toNat : Int)] 25)) F2 pc mc (stable_cells _ _ _ _ hpc hB.out) (stable_cells _ _ _ _ hmc hB.out) (w.heap.size + 2) (by simp)
  replace Va := Kept.mk (Va.out.keep hBn.out)
  replace Vb := Kept.mk (Vb.out.keep hBn.out)
  replace hB := Kept.mk (hB.out.trans (hBn.out.mono hB.out.size))
  clear hBn
  clear hpa hma hpb hmb hpc hmc
  go_enter Try.func6, Try.ntmps6
  go_wp2_with fail
  generalize (((w.alloc (.cells #[.int .i64 F0.kind, .int .i64 F0.time, .int .i64 F0.node, .bool F0.dead, .string ⟨F0.text.toArray⟩, pa, ma, .int .u64 (F0.flags.toNat : Int)] 25)).alloc (.cells #[.int .i64 F1.kind, .int .i64 F1.time, .int .i64 F1.node, .bool F1.dead, .string ⟨F1.text.toArray⟩, pb, mb, .int .u64 (F1.flags.toNat : Int)] 25)).alloc (.cells #[.int .i64 F2.kind, .int .i64 F2.time, .int .i64 F2.node, .bool F2.dead, .string ⟨F2.text.toArray⟩, pc, mc, .int .u64 (F2.flags.toNat : Int)] 25)) = W0 at *
  ((with_reducible refine (vworks_any _).mono ?_); rintro e W1 ⟨rfl, hb1⟩)
  replace hB := Kept.mk (hB.out.trans ((hb1).mono hB.out.size))
  replace Va := Kept.mk (Va.out.keep (hb1))
  replace Vb := Kept.mk (Vb.out.keep (hb1))
  replace Vc := Kept.mk (Vc.out.keep (hb1))
  clear hb1
  obtain ⟨qa, ra, xa, -, -, ka0, ka1, ka2, ka3, ka4, ka5, ka6, ka7⟩ := Va.out.open_
  have Xa := Kept.mk xa
  clear xa
  go_wp2_with fail
  ((with_reducible refine (vfew_any F0 _ _ Xa.out).mono ?_); rintro e W2 ⟨rfl, hb1⟩)
  clear Xa ka0 ka1 ka2 ka3 ka4 ka5 ka6 ka7
  replace hB := Kept.mk (hB.out.trans ((hb1).mono hB.out.size))
  replace Va := Kept.mk (Va.out.keep (hb1))
  replace Vb := Kept.mk (Vb.out.keep (hb1))
  replace Vc := Kept.mk (Vc.out.keep (hb1))
  clear hb1
  cases fa : fewV F0 with
  | false =>
    go_wp2
    go_ret
    exact ⟨rfl, hB.out⟩
  | true =>
    have FFa := Kept.mk (few_fit fa)
    clear fa
    obtain ⟨qb, rb, xb, -, -, kb0, kb1, kb2, kb3, kb4, kb5, kb6, kb7⟩ := Vb.out.open_
    have Xb := Kept.mk xb
    clear xb
    go_wp2_with fail
    ((with_reducible refine (vfew_any F1 _ _ Xb.out).mono ?_); rintro e W3 ⟨rfl, hb1⟩)
    clear Xb kb0 kb1 kb2 kb3 kb4 kb5 kb6 kb7
    replace hB := Kept.mk (hB.out.trans ((hb1).mono hB.out.size))
    replace Va := Kept.mk (Va.out.keep (hb1))
    replace Vb := Kept.mk (Vb.out.keep (hb1))
    replace Vc := Kept.mk (Vc.out.keep (hb1))
    clear hb1
    cases fb : fewV F1 with
    | false =>
      go_wp2
      go_ret
      exact ⟨rfl, hB.out⟩
    | true =>
      have FFb := Kept.mk (few_fit fb)
      clear fb
      obtain ⟨qc, rc, xc, -, -, kc0, kc1, kc2, kc3, kc4, kc5, kc6, kc7⟩ := Vc.out.open_
      have Xc := Kept.mk xc
      clear xc
      go_wp2_with fail
      ((with_reducible refine (vfew_any F2 _ _ Xc.out).mono ?_); rintro e W4 ⟨rfl, hb1⟩)
      clear Xc kc0 kc1 kc2 kc3 kc4 kc5 kc6 kc7
      replace hB := Kept.mk (hB.out.trans ((hb1).mono hB.out.size))
      replace Va := Kept.mk (Va.out.keep (hb1))
      replace Vb := Kept.mk (Vb.out.keep (hb1))
      replace Vc := Kept.mk (Vc.out.keep (hb1))
      clear hb1
      cases fc : fewV F2 with
      | false =>
        go_wp2
        go_ret
        exact ⟨rfl, hB.out⟩
      | true =>
        have FFc := Kept.mk (few_fit fc)
        clear fc
        obtain ⟨qa, ra, xa, -, -, ka0, ka1, ka2, ka3, ka4, ka5, ka6, ka7⟩ := Va.out.open_
        have Xa := Kept.mk xa
        clear xa
        obtain ⟨qb, rb, xb, -, -, kb0, kb1, kb2, kb3, kb4, kb5, kb6, kb7⟩ := Vb.out.open_
        have Xb := Kept.mk xb
        clear xb
        go_wp2_with fail
        ((with_reducible refine (vbelow_any F0 F1 _ _ _ Xa.out Xb.out FFa.out FFb.out).mono ?_); rintro e W5 ⟨rfl, hb1⟩)
        clear Xa ka0 ka1 ka2 ka3 ka4 ka5 ka6 ka7
        clear Xb kb0 kb1 kb2 kb3 kb4 kb5 kb6 kb7
        replace hB := Kept.mk (hB.out.trans ((hb1).mono hB.out.size))
        replace Va := Kept.mk (Va.out.keep (hb1))
        replace Vb := Kept.mk (Vb.out.keep (hb1))
        replace Vc := Kept.mk (Vc.out.keep (hb1))
        clear hb1
        obtain ⟨ab, hab⟩ : ∃ z, z = belowB F0 F1 := ⟨_, rfl⟩
        rw [← hab]
        have Hab := Kept.mk hab
        clear hab
        obtain ⟨qb, rb, xb, -, -, kb0, kb1, kb2, kb3, kb4, kb5, kb6, kb7⟩ := Vb.out.open_
        have Xb := Kept.mk xb
        clear xb
        obtain ⟨qa, ra, xa, -, -, ka0, ka1, ka2, ka3, ka4, ka5, ka6, ka7⟩ := Va.out.open_
        have Xa := Kept.mk xa
        clear xa
        go_wp2_with fail
        ((with_reducible refine (vbelow_any F1 F0 _ _ _ Xb.out Xa.out FFb.out FFa.out).mono ?_); rintro e W6 ⟨rfl, hb1⟩)
        clear Xb kb0 kb1 kb2 kb3 kb4 kb5 kb6 kb7
        clear Xa ka0 ka1 ka2 ka3 ka4 ka5 ka6 ka7
        replace hB := Kept.mk (hB.out.trans ((hb1).mono hB.out.size))
        replace Va := Kept.mk (Va.out.keep (hb1))
        replace Vb := Kept.mk (Vb.out.keep (hb1))
        replace Vc := Kept.mk (Vc.out.keep (hb1))
        clear hb1
        obtain ⟨ba, hba⟩ : ∃ z, z = belowB F1 F0 := ⟨_, rfl⟩
        rw [← hba]
        have Hba := Kept.mk hba
        clear hba
        obtain ⟨qb, rb, xb, -, -, kb0, kb1, kb2, kb3, kb4, kb5, kb6, kb7⟩ := Vb.out.open_
        have Xb := Kept.mk xb
        clear xb
        obtain ⟨qc, rc, xc, -, -, kc0, kc1, kc2, kc3, kc4, kc5, kc6, kc7⟩ := Vc.out.open_
        have Xc := Kept.mk xc
        clear xc
        go_wp2_with fail
        ((with_reducible refine (vbelow_any F1 F2 _ _ _ Xb.out Xc.out FFb.out FFc.out).mono ?_); rintro e W7 ⟨rfl, hb1⟩)
        clear Xb kb0 kb1 kb2 kb3 kb4 kb5 kb6 kb7
        clear Xc kc0 kc1 kc2 kc3 kc4 kc5 kc6 kc7
        replace hB := Kept.mk (hB.out.trans ((hb1).mono hB.out.size))
        replace Va := Kept.mk (Va.out.keep (hb1))
        replace Vb := Kept.mk (Vb.out.keep (hb1))
        replace Vc := Kept.mk (Vc.out.keep (hb1))
        clear hb1
        obtain ⟨bc, hbc⟩ : ∃ z, z = belowB F1 F2 := ⟨_, rfl⟩
        rw [← hbc]
        have Hbc := Kept.mk hbc
        clear hbc
        cases ab with
        | false =>
          cases ba with
          | false =>
            by_cases k0 : F0.kind = 1
            case neg =>
              obtain ⟨qa, ra, xa, -, -, ka0, ka1, ka2, ka3, ka4, ka5, ka6, ka7⟩ := Va.out.open_
              have Xa := Kept.mk xa
              clear xa
              obtain ⟨qb, rb, xb, -, -, kb0, kb1, kb2, kb3, kb4, kb5, kb6, kb7⟩ := Vb.out.open_
              have Xb := Kept.mk xb
              clear xb
              go_wp2
              all_goals go_ret
              all_goals exact ⟨rfl, hB.out⟩
            by_cases k1 : F1.kind = 1
            case neg =>
              obtain ⟨qa, ra, xa, -, -, ka0, ka1, ka2, ka3, ka4, ka5, ka6, ka7⟩ := Va.out.open_
              have Xa := Kept.mk xa
              clear xa
              obtain ⟨qb, rb, xb, -, -, kb0, kb1, kb2, kb3, kb4, kb5, kb6, kb7⟩ := Vb.out.open_
              have Xb := Kept.mk xb
              clear xb
              go_wp2
              all_goals go_ret
              all_goals exact ⟨rfl, hB.out⟩
            have K0 := Kept.mk k0
            have K1 := Kept.mk k1
            obtain ⟨qa, ra, xa, -, -, ka0, ka1, ka2, ka3, ka4, ka5, ka6, ka7⟩ := Va.out.open_
            have Xa := Kept.mk xa
            clear xa
            obtain ⟨qb, rb, xb, -, -, kb0, kb1, kb2, kb3, kb4, kb5, kb6, kb7⟩ := Vb.out.open_
            have Xb := Kept.mk xb
            clear xb
            go_wp2_with fail
            rw [K0.out] at Xa
            ((with_reducible refine (vcheck_any F0 _ _ Xa.out FFa.out).mono ?_); rintro e W8 ⟨rfl, hb1⟩)
            clear Xa ka0 ka1 ka2 ka3 ka4 ka5 ka6 ka7
            clear Xb kb0 kb1 kb2 kb3 kb4 kb5 kb6 kb7
            replace hB := Kept.mk (hB.out.trans ((hb1).mono hB.out.size))
            replace Va := Kept.mk (Va.out.keep (hb1))
            replace Vb := Kept.mk (Vb.out.keep (hb1))
            replace Vc := Kept.mk (Vc.out.keep (hb1))
            clear hb1
            clear k0 k1
            have hc := checkV_cases F0
            cases dA : okV F0 with
            | false =>
              rw [dA] at hc
              have hc' : ¬ checkV F0 = 0 := by rw [hc]; decide
              clear dA hc
              go_wp2
              all_goals go_ret
              all_goals exact ⟨rfl, hB.out⟩
            | true =>
              rw [dA] at hc
              replace hc : checkV F0 = 0 := hc
              have HA := Kept.mk dA
              clear dA
              obtain ⟨qb, rb, xb, -, -, kb0, kb1, kb2, kb3, kb4, kb5, kb6, kb7⟩ := Vb.out.open_
              have Xb := Kept.mk xb
              clear xb
              go_wp2_with fail
              ((with_reducible refine (vcheck_any F1 _ _ Xb.out FFb.out).mono ?_); rintro e W9 ⟨rfl, hb1⟩)
              clear Xb kb0 kb1 kb2 kb3 kb4 kb5 kb6 kb7
              replace hB := Kept.mk (hB.out.trans ((hb1).mono hB.out.size))
              replace Va := Kept.mk (Va.out.keep (hb1))
              replace Vb := Kept.mk (Vb.out.keep (hb1))
              replace Vc := Kept.mk (Vc.out.keep (hb1))
              clear hb1
              have hc2 := checkV_cases F1
              cases dB : okV F1 with
              | false =>
                rw [dB] at hc2
                have hc' : ¬ checkV F1 = 0 := by rw [hc2]; decide
                clear dB hc2
                go_wp2
                all_goals go_ret
                all_goals exact ⟨rfl, hB.out⟩
              | true =>
                rw [dB] at hc2
                replace hc2 : checkV F1 = 0 := hc2
                have HE := Kept.mk (joinE_zero.2 ⟨HA.out, dB, by rw [K0.out, K1.out]⟩)
                have HR := Kept.mk (reg_total HA.out dB K0.out K1.out)
                have he : joinE F0 F1 = 0 := HE.out
                clear dB
                obtain ⟨qa, ra, xa, -, -, ka0, ka1, ka2, ka3, ka4, ka5, ka6, ka7⟩ := Va.out.open_
                have Xa := Kept.mk xa
                clear xa
                obtain ⟨qb, rb, xb, -, -, kb0, kb1, kb2, kb3, kb4, kb5, kb6, kb7⟩ := Vb.out.open_
                have Xb := Kept.mk xb
                clear xb
                go_wp2_with fail
                exact absurd HR.out.1 (by rw [← Hab.out, ← Hba.out]; decide)
          | true =>
            by_cases k0 : F0.kind = 1
            case neg =>
              obtain ⟨qa, ra, xa, -, -, ka0, ka1, ka2, ka3, ka4, ka5, ka6, ka7⟩ := Va.out.open_
              have Xa := Kept.mk xa
              clear xa
              obtain ⟨qb, rb, xb, -, -, kb0, kb1, kb2, kb3, kb4, kb5, kb6, kb7⟩ := Vb.out.open_
              have Xb := Kept.mk xb
              clear xb
              go_wp2
              all_goals go_ret
              all_goals exact ⟨rfl, hB.out⟩
            by_cases k1 : F1.kind = 1
            case neg =>
              obtain ⟨qa, ra, xa, -, -, ka0, ka1, ka2, ka3, ka4, ka5, ka6, ka7⟩ := Va.out.open_
              have Xa := Kept.mk xa
              clear xa
              obtain ⟨qb, rb, xb, -, -, kb0, kb1, kb2, kb3, kb4, kb5, kb6, kb7⟩ := Vb.out.open_
              have Xb := Kept.mk xb
              clear xb
              go_wp2
              all_goals go_ret
              all_goals exact ⟨rfl, hB.out⟩
            have K0 := Kept.mk k0
            have K1 := Kept.mk k1
            obtain ⟨qa, ra, xa, -, -, ka0, ka1, ka2, ka3, ka4, ka5, ka6, ka7⟩ := Va.out.open_
            have Xa := Kept.mk xa
            clear xa
            obtain ⟨qb, rb, xb, -, -, kb0, kb1, kb2, kb3, kb4, kb5, kb6, kb7⟩ := Vb.out.open_
            have Xb := Kept.mk xb
            clear xb
            go_wp2_with fail
            rw [K0.out] at Xa
            ((with_reducible refine (vcheck_any F0 _ _ Xa.out FFa.out).mono ?_); rintro e W8 ⟨rfl, hb1⟩)
            clear Xa ka0 ka1 ka2 ka3 ka4 ka5 ka6 ka7
            clear Xb kb0 kb1 kb2 kb3 kb4 kb5 kb6 kb7
            replace hB := Kept.mk (hB.out.trans ((hb1).mono hB.out.size))
            replace Va := Kept.mk (Va.out.keep (hb1))
            replace Vb := Kept.mk (Vb.out.keep (hb1))
            replace Vc := Kept.mk (Vc.out.keep (hb1))
            clear hb1
            clear k0 k1
            have hc := checkV_cases F0
            cases dA : okV F0 with
            | false =>
              rw [dA] at hc
              have hc' : ¬ checkV F0 = 0 := by rw [hc]; decide
              clear dA hc
              go_wp2
              all_goals go_ret
              all_goals exact ⟨rfl, hB.out⟩
            | true =>
              rw [dA] at hc
              replace hc : checkV F0 = 0 := hc
              have HA := Kept.mk dA
              clear dA
              obtain ⟨qb, rb, xb, -, -, kb0, kb1, kb2, kb3, kb4, kb5, kb6, kb7⟩ := Vb.out.open_
              have Xb := Kept.mk xb
              clear xb
              go_wp2_with fail
              ((with_reducible refine (vcheck_any F1 _ _ Xb.out FFb.out).mono ?_); rintro e W9 ⟨rfl, hb1⟩)
              clear Xb kb0 kb1 kb2 kb3 kb4 kb5 kb6 kb7
              replace hB := Kept.mk (hB.out.trans ((hb1).mono hB.out.size))
              replace Va := Kept.mk (Va.out.keep (hb1))
              replace Vb := Kept.mk (Vb.out.keep (hb1))
              replace Vc := Kept.mk (Vc.out.keep (hb1))
              clear hb1
              have hc2 := checkV_cases F1
              cases dB : okV F1 with
              | false =>
                rw [dB] at hc2
                have hc' : ¬ checkV F1 = 0 := by rw [hc2]; decide
                clear dB hc2
                go_wp2
                all_goals go_ret
                all_goals exact ⟨rfl, hB.out⟩
              | true =>
                rw [dB] at hc2
                replace hc2 : checkV F1 = 0 := hc2
                have HE := Kept.mk (joinE_zero.2 ⟨HA.out, dB, by rw [K0.out, K1.out]⟩)
                have HR := Kept.mk (reg_total HA.out dB K0.out K1.out)
                have he : joinE F0 F1 = 0 := HE.out
                clear dB
                obtain ⟨qa, ra, xa, -, -, ka0, ka1, ka2, ka3, ka4, ka5, ka6, ka7⟩ := Va.out.open_
                have Xa := Kept.mk xa
                clear xa
                obtain ⟨qb, rb, xb, -, -, kb0, kb1, kb2, kb3, kb4, kb5, kb6, kb7⟩ := Vb.out.open_
                have Xb := Kept.mk xb
                clear xb
                go_wp2_with fail
                ((with_reducible refine (vjoin_any F0 F1 _ _ _ Xa.out Xb.out FFa.out FFb.out).mono ?_); rintro e U ⟨v', rfl, ⟨p', m', rfl, hp', hm', _, _⟩, hb1⟩)
                obtain ⟨K1, K2, K3, K4, K5⟩ := vnew U (joinF F0 F1) p' m' hp' hm' U.heap.size rfl
                clear hp' hm'
                clear Xa ka0 ka1 ka2 ka3 ka4 ka5 ka6 ka7
                clear Xb kb0 kb1 kb2 kb3 kb4 kb5 kb6 kb7
                replace hB := Kept.mk (hB.out.trans ((hb1).mono hB.out.size))
                replace Va := Kept.mk (Va.out.keep (hb1))
                replace Vb := Kept.mk (Vb.out.keep (hb1))
                replace Vc := Kept.mk (Vc.out.keep (hb1))
                clear hb1
                go_wp2_with (have hz0 := K1; refine wpList_storeN 25 rfl (.tmp 12) (.tmp 84) rfl U.heap.size [.int .i64 (joinF F0 F1).kind, .int .i64 (joinF F0 F1).time, .int .i64 (joinF F0 F1).node, .bool (joinF F0 F1).dead, .string ⟨(joinF F0 F1).text.toArray⟩, p', m', .int .u64 ((joinF F0 F1).flags.toNat : Int)] size_va rfl rfl K1.out rfl K2.out K5.out ?_; replace hB := Kept.mk (hB.out.trans ((K3.out).mono hB.out.size)); replace Va := Kept.mk (Va.out.keep (K3.out)); replace Vb := Kept.mk (Vb.out.keep (K3.out)); replace Vc := Kept.mk (Vc.out.keep (K3.out)); have Vj := Kept.mk K4.out.var; clear hz0 K1 K2 K3 K4 K5; generalize setN (U.alloc (.cells #[.int .i64 0, .int .i64 0, .int .i64 0, .bool false, .string ⟨#[]⟩, .slice none 0 0, .slice none 0 0, .int .u64 0] 25)) U.heap.size 0 [.int .i64 (joinF F0 F1).kind, .int .i64 (joinF F0 F1).time, .int .i64 (joinF F0 F1).node, .bool (joinF F0 F1).dead, .string ⟨(joinF F0 F1).text.toArray⟩, p', m', .int .u64 ((joinF F0 F1).flags.toNat : Int)] = W10 at *; generalize U.heap.size = gj at *; obtain ⟨qj, rj, xj, -, -, kj0, kj1, kj2, kj3, kj4, kj5, kj6, kj7⟩ := Vj.out.open_; have Xj := Kept.mk xj; clear xj; obtain ⟨qa, ra, xa, -, -, ka0, ka1, ka2, ka3, ka4, ka5, ka6, ka7⟩ := Va.out.open_; have Xa := Kept.mk xa; clear xa)
                ((with_reducible refine (f_same (joinF F0 F1) F0 true _ _ _ Xj.out Xa.out (fit_join FFa.out FFb.out) FFa.out (decide_eq_true ((join_comm HE.out).trans (below_iff.1 Hba.out.symm).2))).mono ?_); rintro e W11 ⟨rfl, hb1⟩)
                clear Xj kj0 kj1 kj2 kj3 kj4 kj5 kj6 kj7
                clear Xa ka0 ka1 ka2 ka3 ka4 ka5 ka6 ka7
                replace hB := Kept.mk (hB.out.trans ((hb1).mono hB.out.size))
                replace Va := Kept.mk (Va.out.keep (hb1))
                replace Vb := Kept.mk (Vb.out.keep (hb1))
                replace Vc := Kept.mk (Vc.out.keep (hb1))
                replace Vj := Kept.mk (Vj.out.keep (hb1))
                clear hb1
                go_wp2
                all_goals go_ret
                all_goals exact ⟨rfl, hB.out⟩
        | true =>
          cases bc with
          | false =>
            cases ba with
            | false =>
              by_cases k0 : F0.kind = 1
              case neg =>
                obtain ⟨qa, ra, xa, -, -, ka0, ka1, ka2, ka3, ka4, ka5, ka6, ka7⟩ := Va.out.open_
                have Xa := Kept.mk xa
                clear xa
                obtain ⟨qb, rb, xb, -, -, kb0, kb1, kb2, kb3, kb4, kb5, kb6, kb7⟩ := Vb.out.open_
                have Xb := Kept.mk xb
                clear xb
                go_wp2
                all_goals go_ret
                all_goals exact ⟨rfl, hB.out⟩
              by_cases k1 : F1.kind = 1
              case neg =>
                obtain ⟨qa, ra, xa, -, -, ka0, ka1, ka2, ka3, ka4, ka5, ka6, ka7⟩ := Va.out.open_
                have Xa := Kept.mk xa
                clear xa
                obtain ⟨qb, rb, xb, -, -, kb0, kb1, kb2, kb3, kb4, kb5, kb6, kb7⟩ := Vb.out.open_
                have Xb := Kept.mk xb
                clear xb
                go_wp2
                all_goals go_ret
                all_goals exact ⟨rfl, hB.out⟩
              have K0 := Kept.mk k0
              have K1 := Kept.mk k1
              obtain ⟨qa, ra, xa, -, -, ka0, ka1, ka2, ka3, ka4, ka5, ka6, ka7⟩ := Va.out.open_
              have Xa := Kept.mk xa
              clear xa
              obtain ⟨qb, rb, xb, -, -, kb0, kb1, kb2, kb3, kb4, kb5, kb6, kb7⟩ := Vb.out.open_
              have Xb := Kept.mk xb
              clear xb
              go_wp2_with fail
              rw [K0.out] at Xa
              ((with_reducible refine (vcheck_any F0 _ _ Xa.out FFa.out).mono ?_); rintro e W8 ⟨rfl, hb1⟩)
              clear Xa ka0 ka1 ka2 ka3 ka4 ka5 ka6 ka7
              clear Xb kb0 kb1 kb2 kb3 kb4 kb5 kb6 kb7
              replace hB := Kept.mk (hB.out.trans ((hb1).mono hB.out.size))
              replace Va := Kept.mk (Va.out.keep (hb1))
              replace Vb := Kept.mk (Vb.out.keep (hb1))
              replace Vc := Kept.mk (Vc.out.keep (hb1))
              clear hb1
              clear k0 k1
              have hc := checkV_cases F0
              cases dA : okV F0 with
              | false =>
                rw [dA] at hc
                have hc' : ¬ checkV F0 = 0 := by rw [hc]; decide
                clear dA hc
                go_wp2
                all_goals go_ret
                all_goals exact ⟨rfl, hB.out⟩
              | true =>
                rw [dA] at hc
                replace hc : checkV F0 = 0 := hc
                have HA := Kept.mk dA
                clear dA
                obtain ⟨qb, rb, xb, -, -, kb0, kb1, kb2, kb3, kb4, kb5, kb6, kb7⟩ := Vb.out.open_
                have Xb := Kept.mk xb
                clear xb
                go_wp2_with fail
                ((with_reducible refine (vcheck_any F1 _ _ Xb.out FFb.out).mono ?_); rintro e W9 ⟨rfl, hb1⟩)
                clear Xb kb0 kb1 kb2 kb3 kb4 kb5 kb6 kb7
                replace hB := Kept.mk (hB.out.trans ((hb1).mono hB.out.size))
                replace Va := Kept.mk (Va.out.keep (hb1))
                replace Vb := Kept.mk (Vb.out.keep (hb1))
                replace Vc := Kept.mk (Vc.out.keep (hb1))
                clear hb1
                have hc2 := checkV_cases F1
                cases dB : okV F1 with
                | false =>
                  rw [dB] at hc2
                  have hc' : ¬ checkV F1 = 0 := by rw [hc2]; decide
                  clear dB hc2
                  go_wp2
                  all_goals go_ret
                  all_goals exact ⟨rfl, hB.out⟩
                | true =>
                  rw [dB] at hc2
                  replace hc2 : checkV F1 = 0 := hc2
                  have HE := Kept.mk (joinE_zero.2 ⟨HA.out, dB, by rw [K0.out, K1.out]⟩)
                  have HR := Kept.mk (reg_total HA.out dB K0.out K1.out)
                  have he : joinE F0 F1 = 0 := HE.out
                  clear dB
                  obtain ⟨qa, ra, xa, -, -, ka0, ka1, ka2, ka3, ka4, ka5, ka6, ka7⟩ := Va.out.open_
                  have Xa := Kept.mk xa
                  clear xa
                  obtain ⟨qb, rb, xb, -, -, kb0, kb1, kb2, kb3, kb4, kb5, kb6, kb7⟩ := Vb.out.open_
                  have Xb := Kept.mk xb
                  clear xb
                  go_wp2_with fail
                  ((with_reducible refine (vjoin_any F0 F1 _ _ _ Xa.out Xb.out FFa.out FFb.out).mono ?_); rintro e U ⟨v', rfl, ⟨p', m', rfl, hp', hm', _, _⟩, hb1⟩)
                  obtain ⟨K1, K2, K3, K4, K5⟩ := vnew U (joinF F0 F1) p' m' hp' hm' U.heap.size rfl
                  clear hp' hm'
                  clear Xa ka0 ka1 ka2 ka3 ka4 ka5 ka6 ka7
                  clear Xb kb0 kb1 kb2 kb3 kb4 kb5 kb6 kb7
                  replace hB := Kept.mk (hB.out.trans ((hb1).mono hB.out.size))
                  replace Va := Kept.mk (Va.out.keep (hb1))
                  replace Vb := Kept.mk (Vb.out.keep (hb1))
                  replace Vc := Kept.mk (Vc.out.keep (hb1))
                  clear hb1
                  go_wp2_with (have hz0 := K1; refine wpList_storeN 25 rfl (.tmp 12) (.tmp 84) rfl U.heap.size [.int .i64 (joinF F0 F1).kind, .int .i64 (joinF F0 F1).time, .int .i64 (joinF F0 F1).node, .bool (joinF F0 F1).dead, .string ⟨(joinF F0 F1).text.toArray⟩, p', m', .int .u64 ((joinF F0 F1).flags.toNat : Int)] size_va rfl rfl K1.out rfl K2.out K5.out ?_; replace hB := Kept.mk (hB.out.trans ((K3.out).mono hB.out.size)); replace Va := Kept.mk (Va.out.keep (K3.out)); replace Vb := Kept.mk (Vb.out.keep (K3.out)); replace Vc := Kept.mk (Vc.out.keep (K3.out)); have Vj := Kept.mk K4.out.var; clear hz0 K1 K2 K3 K4 K5; generalize setN (U.alloc (.cells #[.int .i64 0, .int .i64 0, .int .i64 0, .bool false, .string ⟨#[]⟩, .slice none 0 0, .slice none 0 0, .int .u64 0] 25)) U.heap.size 0 [.int .i64 (joinF F0 F1).kind, .int .i64 (joinF F0 F1).time, .int .i64 (joinF F0 F1).node, .bool (joinF F0 F1).dead, .string ⟨(joinF F0 F1).text.toArray⟩, p', m', .int .u64 ((joinF F0 F1).flags.toNat : Int)] = W10 at *; generalize U.heap.size = gj at *; obtain ⟨qj, rj, xj, -, -, kj0, kj1, kj2, kj3, kj4, kj5, kj6, kj7⟩ := Vj.out.open_; have Xj := Kept.mk xj; clear xj; obtain ⟨qa, ra, xa, -, -, ka0, ka1, ka2, ka3, ka4, ka5, ka6, ka7⟩ := Va.out.open_; have Xa := Kept.mk xa; clear xa)
                  ((with_reducible refine (vsame_fit (joinF F0 F1) F0 _ _ _ Xj.out Xa.out (fit_join FFa.out FFb.out) FFa.out).mono ?_); rintro e W11 ⟨rfl, hb1⟩)
                  clear Xj kj0 kj1 kj2 kj3 kj4 kj5 kj6 kj7
                  clear Xa ka0 ka1 ka2 ka3 ka4 ka5 ka6 ka7
                  replace hB := Kept.mk (hB.out.trans ((hb1).mono hB.out.size))
                  replace Va := Kept.mk (Va.out.keep (hb1))
                  replace Vb := Kept.mk (Vb.out.keep (hb1))
                  replace Vc := Kept.mk (Vc.out.keep (hb1))
                  replace Vj := Kept.mk (Vj.out.keep (hb1))
                  clear hb1
                  cases hz : decide (joinF F0 F1 = F0) with
                  | true =>
                    clear hz
                    go_wp2
                    all_goals go_ret
                    all_goals exact ⟨rfl, hB.out⟩
                  | false =>
                    clear hz
                    obtain ⟨qj, rj, xj, -, -, kj0, kj1, kj2, kj3, kj4, kj5, kj6, kj7⟩ := Vj.out.open_
                    have Xj := Kept.mk xj
                    clear xj
                    obtain ⟨qb, rb, xb, -, -, kb0, kb1, kb2, kb3, kb4, kb5, kb6, kb7⟩ := Vb.out.open_
                    have Xb := Kept.mk xb
                    clear xb
                    go_wp2_with fail
                    ((with_reducible refine (f_same (joinF F0 F1) F1 true _ _ _ Xj.out Xb.out (fit_join FFa.out FFb.out) FFb.out (decide_eq_true (below_iff.1 Hab.out.symm).2)).mono ?_); rintro e W12 ⟨rfl, hb1⟩)
                    clear Xj kj0 kj1 kj2 kj3 kj4 kj5 kj6 kj7
                    clear Xb kb0 kb1 kb2 kb3 kb4 kb5 kb6 kb7
                    replace hB := Kept.mk (hB.out.trans ((hb1).mono hB.out.size))
                    replace Va := Kept.mk (Va.out.keep (hb1))
                    replace Vb := Kept.mk (Vb.out.keep (hb1))
                    replace Vc := Kept.mk (Vc.out.keep (hb1))
                    replace Vj := Kept.mk (Vj.out.keep (hb1))
                    clear hb1
                    go_wp2
                    all_goals go_ret
                    all_goals exact ⟨rfl, hB.out⟩
            | true =>
              obtain ⟨qa, ra, xa, -, -, ka0, ka1, ka2, ka3, ka4, ka5, ka6, ka7⟩ := Va.out.open_
              have Xa := Kept.mk xa
              clear xa
              obtain ⟨qb, rb, xb, -, -, kb0, kb1, kb2, kb3, kb4, kb5, kb6, kb7⟩ := Vb.out.open_
              have Xb := Kept.mk xb
              clear xb
              go_wp2_with fail
              ((with_reducible refine (f_same F0 F1 true _ _ _ Xa.out Xb.out FFa.out FFb.out (decide_eq_true (below_antisymm Hab.out.symm Hba.out.symm))).mono ?_); rintro e W8 ⟨rfl, hb1⟩)
              clear Xa ka0 ka1 ka2 ka3 ka4 ka5 ka6 ka7
              clear Xb kb0 kb1 kb2 kb3 kb4 kb5 kb6 kb7
              replace hB := Kept.mk (hB.out.trans ((hb1).mono hB.out.size))
              replace Va := Kept.mk (Va.out.keep (hb1))
              replace Vb := Kept.mk (Vb.out.keep (hb1))
              replace Vc := Kept.mk (Vc.out.keep (hb1))
              clear hb1
              by_cases k0 : F0.kind = 1
              case neg =>
                obtain ⟨qa, ra, xa, -, -, ka0, ka1, ka2, ka3, ka4, ka5, ka6, ka7⟩ := Va.out.open_
                have Xa := Kept.mk xa
                clear xa
                obtain ⟨qb, rb, xb, -, -, kb0, kb1, kb2, kb3, kb4, kb5, kb6, kb7⟩ := Vb.out.open_
                have Xb := Kept.mk xb
                clear xb
                go_wp2
                all_goals go_ret
                all_goals exact ⟨rfl, hB.out⟩
              by_cases k1 : F1.kind = 1
              case neg =>
                obtain ⟨qa, ra, xa, -, -, ka0, ka1, ka2, ka3, ka4, ka5, ka6, ka7⟩ := Va.out.open_
                have Xa := Kept.mk xa
                clear xa
                obtain ⟨qb, rb, xb, -, -, kb0, kb1, kb2, kb3, kb4, kb5, kb6, kb7⟩ := Vb.out.open_
                have Xb := Kept.mk xb
                clear xb
                go_wp2
                all_goals go_ret
                all_goals exact ⟨rfl, hB.out⟩
              have K0 := Kept.mk k0
              have K1 := Kept.mk k1
              obtain ⟨qa, ra, xa, -, -, ka0, ka1, ka2, ka3, ka4, ka5, ka6, ka7⟩ := Va.out.open_
              have Xa := Kept.mk xa
              clear xa
              obtain ⟨qb, rb, xb, -, -, kb0, kb1, kb2, kb3, kb4, kb5, kb6, kb7⟩ := Vb.out.open_
              have Xb := Kept.mk xb
              clear xb
              go_wp2_with fail
              rw [K0.out] at Xa
              ((with_reducible refine (vcheck_any F0 _ _ Xa.out FFa.out).mono ?_); rintro e W9 ⟨rfl, hb1⟩)
              clear Xa ka0 ka1 ka2 ka3 ka4 ka5 ka6 ka7
              clear Xb kb0 kb1 kb2 kb3 kb4 kb5 kb6 kb7
              replace hB := Kept.mk (hB.out.trans ((hb1).mono hB.out.size))
              replace Va := Kept.mk (Va.out.keep (hb1))
              replace Vb := Kept.mk (Vb.out.keep (hb1))
              replace Vc := Kept.mk (Vc.out.keep (hb1))
              clear hb1
              clear k0 k1
              have hc := checkV_cases F0
              cases dA : okV F0 with
              | false =>
                rw [dA] at hc
                have hc' : ¬ checkV F0 = 0 := by rw [hc]; decide
                clear dA hc
                go_wp2
                all_goals go_ret
                all_goals exact ⟨rfl, hB.out⟩
              | true =>
                rw [dA] at hc
                replace hc : checkV F0 = 0 := hc
                have HA := Kept.mk dA
                clear dA
                obtain ⟨qb, rb, xb, -, -, kb0, kb1, kb2, kb3, kb4, kb5, kb6, kb7⟩ := Vb.out.open_
                have Xb := Kept.mk xb
                clear xb
                go_wp2_with fail
                ((with_reducible refine (vcheck_any F1 _ _ Xb.out FFb.out).mono ?_); rintro e W10 ⟨rfl, hb1⟩)
                clear Xb kb0 kb1 kb2 kb3 kb4 kb5 kb6 kb7
                replace hB := Kept.mk (hB.out.trans ((hb1).mono hB.out.size))
                replace Va := Kept.mk (Va.out.keep (hb1))
                replace Vb := Kept.mk (Vb.out.keep (hb1))
                replace Vc := Kept.mk (Vc.out.keep (hb1))
                clear hb1
                have hc2 := checkV_cases F1
                cases dB : okV F1 with
                | false =>
                  rw [dB] at hc2
                  have hc' : ¬ checkV F1 = 0 := by rw [hc2]; decide
                  clear dB hc2
                  go_wp2
                  all_goals go_ret
                  all_goals exact ⟨rfl, hB.out⟩
                | true =>
                  rw [dB] at hc2
                  replace hc2 : checkV F1 = 0 := hc2
                  have HE := Kept.mk (joinE_zero.2 ⟨HA.out, dB, by rw [K0.out, K1.out]⟩)
                  have HR := Kept.mk (reg_total HA.out dB K0.out K1.out)
                  have he : joinE F0 F1 = 0 := HE.out
                  clear dB
                  obtain ⟨qa, ra, xa, -, -, ka0, ka1, ka2, ka3, ka4, ka5, ka6, ka7⟩ := Va.out.open_
                  have Xa := Kept.mk xa
                  clear xa
                  obtain ⟨qb, rb, xb, -, -, kb0, kb1, kb2, kb3, kb4, kb5, kb6, kb7⟩ := Vb.out.open_
                  have Xb := Kept.mk xb
                  clear xb
                  go_wp2_with fail
                  ((with_reducible refine (vjoin_any F0 F1 _ _ _ Xa.out Xb.out FFa.out FFb.out).mono ?_); rintro e U ⟨v', rfl, ⟨p', m', rfl, hp', hm', _, _⟩, hb1⟩)
                  obtain ⟨K1, K2, K3, K4, K5⟩ := vnew U (joinF F0 F1) p' m' hp' hm' U.heap.size rfl
                  clear hp' hm'
                  clear Xa ka0 ka1 ka2 ka3 ka4 ka5 ka6 ka7
                  clear Xb kb0 kb1 kb2 kb3 kb4 kb5 kb6 kb7
                  replace hB := Kept.mk (hB.out.trans ((hb1).mono hB.out.size))
                  replace Va := Kept.mk (Va.out.keep (hb1))
                  replace Vb := Kept.mk (Vb.out.keep (hb1))
                  replace Vc := Kept.mk (Vc.out.keep (hb1))
                  clear hb1
                  go_wp2_with (have hz0 := K1; refine wpList_storeN 25 rfl (.tmp 12) (.tmp 84) rfl U.heap.size [.int .i64 (joinF F0 F1).kind, .int .i64 (joinF F0 F1).time, .int .i64 (joinF F0 F1).node, .bool (joinF F0 F1).dead, .string ⟨(joinF F0 F1).text.toArray⟩, p', m', .int .u64 ((joinF F0 F1).flags.toNat : Int)] size_va rfl rfl K1.out rfl K2.out K5.out ?_; replace hB := Kept.mk (hB.out.trans ((K3.out).mono hB.out.size)); replace Va := Kept.mk (Va.out.keep (K3.out)); replace Vb := Kept.mk (Vb.out.keep (K3.out)); replace Vc := Kept.mk (Vc.out.keep (K3.out)); have Vj := Kept.mk K4.out.var; clear hz0 K1 K2 K3 K4 K5; generalize setN (U.alloc (.cells #[.int .i64 0, .int .i64 0, .int .i64 0, .bool false, .string ⟨#[]⟩, .slice none 0 0, .slice none 0 0, .int .u64 0] 25)) U.heap.size 0 [.int .i64 (joinF F0 F1).kind, .int .i64 (joinF F0 F1).time, .int .i64 (joinF F0 F1).node, .bool (joinF F0 F1).dead, .string ⟨(joinF F0 F1).text.toArray⟩, p', m', .int .u64 ((joinF F0 F1).flags.toNat : Int)] = W11 at *; generalize U.heap.size = gj at *; obtain ⟨qj, rj, xj, -, -, kj0, kj1, kj2, kj3, kj4, kj5, kj6, kj7⟩ := Vj.out.open_; have Xj := Kept.mk xj; clear xj; obtain ⟨qa, ra, xa, -, -, ka0, ka1, ka2, ka3, ka4, ka5, ka6, ka7⟩ := Va.out.open_; have Xa := Kept.mk xa; clear xa)
                  ((with_reducible refine (f_same (joinF F0 F1) F0 true _ _ _ Xj.out Xa.out (fit_join FFa.out FFb.out) FFa.out (decide_eq_true ((below_iff.1 Hab.out.symm).2.trans (below_antisymm Hab.out.symm Hba.out.symm).symm))).mono ?_); rintro e W12 ⟨rfl, hb1⟩)
                  clear Xj kj0 kj1 kj2 kj3 kj4 kj5 kj6 kj7
                  clear Xa ka0 ka1 ka2 ka3 ka4 ka5 ka6 ka7
                  replace hB := Kept.mk (hB.out.trans ((hb1).mono hB.out.size))
                  replace Va := Kept.mk (Va.out.keep (hb1))
                  replace Vb := Kept.mk (Vb.out.keep (hb1))
                  replace Vc := Kept.mk (Vc.out.keep (hb1))
                  replace Vj := Kept.mk (Vj.out.keep (hb1))
                  clear hb1
                  go_wp2
                  all_goals go_ret
                  all_goals exact ⟨rfl, hB.out⟩
          | true =>
            obtain ⟨qa, ra, xa, -, -, ka0, ka1, ka2, ka3, ka4, ka5, ka6, ka7⟩ := Va.out.open_
            have Xa := Kept.mk xa
            clear xa
            obtain ⟨qc, rc, xc, -, -, kc0, kc1, kc2, kc3, kc4, kc5, kc6, kc7⟩ := Vc.out.open_
            have Xc := Kept.mk xc
            clear xc
            go_wp2_with fail
            ((with_reducible refine (f_below F0 F2 true _ _ _ Xa.out Xc.out FFa.out FFc.out (below_trans Hab.out.symm Hbc.out.symm)).mono ?_); rintro e W8 ⟨rfl, hb1⟩)
            clear Xa ka0 ka1 ka2 ka3 ka4 ka5 ka6 ka7
            clear Xc kc0 kc1 kc2 kc3 kc4 kc5 kc6 kc7
            replace hB := Kept.mk (hB.out.trans ((hb1).mono hB.out.size))
            replace Va := Kept.mk (Va.out.keep (hb1))
            replace Vb := Kept.mk (Vb.out.keep (hb1))
            replace Vc := Kept.mk (Vc.out.keep (hb1))
            clear hb1
            cases ba with
            | false =>
              by_cases k0 : F0.kind = 1
              case neg =>
                obtain ⟨qa, ra, xa, -, -, ka0, ka1, ka2, ka3, ka4, ka5, ka6, ka7⟩ := Va.out.open_
                have Xa := Kept.mk xa
                clear xa
                obtain ⟨qb, rb, xb, -, -, kb0, kb1, kb2, kb3, kb4, kb5, kb6, kb7⟩ := Vb.out.open_
                have Xb := Kept.mk xb
                clear xb
                go_wp2
                all_goals go_ret
                all_goals exact ⟨rfl, hB.out⟩
              by_cases k1 : F1.kind = 1
              case neg =>
                obtain ⟨qa, ra, xa, -, -, ka0, ka1, ka2, ka3, ka4, ka5, ka6, ka7⟩ := Va.out.open_
                have Xa := Kept.mk xa
                clear xa
                obtain ⟨qb, rb, xb, -, -, kb0, kb1, kb2, kb3, kb4, kb5, kb6, kb7⟩ := Vb.out.open_
                have Xb := Kept.mk xb
                clear xb
                go_wp2
                all_goals go_ret
                all_goals exact ⟨rfl, hB.out⟩
              have K0 := Kept.mk k0
              have K1 := Kept.mk k1
              obtain ⟨qa, ra, xa, -, -, ka0, ka1, ka2, ka3, ka4, ka5, ka6, ka7⟩ := Va.out.open_
              have Xa := Kept.mk xa
              clear xa
              obtain ⟨qb, rb, xb, -, -, kb0, kb1, kb2, kb3, kb4, kb5, kb6, kb7⟩ := Vb.out.open_
              have Xb := Kept.mk xb
              clear xb
              go_wp2_with fail
              rw [K0.out] at Xa
              ((with_reducible refine (vcheck_any F0 _ _ Xa.out FFa.out).mono ?_); rintro e W9 ⟨rfl, hb1⟩)
              clear Xa ka0 ka1 ka2 ka3 ka4 ka5 ka6 ka7
              clear Xb kb0 kb1 kb2 kb3 kb4 kb5 kb6 kb7
              replace hB := Kept.mk (hB.out.trans ((hb1).mono hB.out.size))
              replace Va := Kept.mk (Va.out.keep (hb1))
              replace Vb := Kept.mk (Vb.out.keep (hb1))
              replace Vc := Kept.mk (Vc.out.keep (hb1))
              clear hb1
              clear k0 k1
              have hc := checkV_cases F0
              cases dA : okV F0 with
              | false =>
                rw [dA] at hc
                have hc' : ¬ checkV F0 = 0 := by rw [hc]; decide
                clear dA hc
                go_wp2
                all_goals go_ret
                all_goals exact ⟨rfl, hB.out⟩
              | true =>
                rw [dA] at hc
                replace hc : checkV F0 = 0 := hc
                have HA := Kept.mk dA
                clear dA
                obtain ⟨qb, rb, xb, -, -, kb0, kb1, kb2, kb3, kb4, kb5, kb6, kb7⟩ := Vb.out.open_
                have Xb := Kept.mk xb
                clear xb
                go_wp2_with fail
                ((with_reducible refine (vcheck_any F1 _ _ Xb.out FFb.out).mono ?_); rintro e W10 ⟨rfl, hb1⟩)
                clear Xb kb0 kb1 kb2 kb3 kb4 kb5 kb6 kb7
                replace hB := Kept.mk (hB.out.trans ((hb1).mono hB.out.size))
                replace Va := Kept.mk (Va.out.keep (hb1))
                replace Vb := Kept.mk (Vb.out.keep (hb1))
                replace Vc := Kept.mk (Vc.out.keep (hb1))
                clear hb1
                have hc2 := checkV_cases F1
                cases dB : okV F1 with
                | false =>
                  rw [dB] at hc2
                  have hc' : ¬ checkV F1 = 0 := by rw [hc2]; decide
                  clear dB hc2
                  go_wp2
                  all_goals go_ret
                  all_goals exact ⟨rfl, hB.out⟩
                | true =>
                  rw [dB] at hc2
                  replace hc2 : checkV F1 = 0 := hc2
                  have HE := Kept.mk (joinE_zero.2 ⟨HA.out, dB, by rw [K0.out, K1.out]⟩)
                  have HR := Kept.mk (reg_total HA.out dB K0.out K1.out)
                  have he : joinE F0 F1 = 0 := HE.out
                  clear dB
                  obtain ⟨qa, ra, xa, -, -, ka0, ka1, ka2, ka3, ka4, ka5, ka6, ka7⟩ := Va.out.open_
                  have Xa := Kept.mk xa
                  clear xa
                  obtain ⟨qb, rb, xb, -, -, kb0, kb1, kb2, kb3, kb4, kb5, kb6, kb7⟩ := Vb.out.open_
                  have Xb := Kept.mk xb
                  clear xb
                  go_wp2_with fail
                  ((with_reducible refine (vjoin_any F0 F1 _ _ _ Xa.out Xb.out FFa.out FFb.out).mono ?_); rintro e U ⟨v', rfl, ⟨p', m', rfl, hp', hm', _, _⟩, hb1⟩)
                  obtain ⟨K1, K2, K3, K4, K5⟩ := vnew U (joinF F0 F1) p' m' hp' hm' U.heap.size rfl
                  clear hp' hm'
                  clear Xa ka0 ka1 ka2 ka3 ka4 ka5 ka6 ka7
                  clear Xb kb0 kb1 kb2 kb3 kb4 kb5 kb6 kb7
                  replace hB := Kept.mk (hB.out.trans ((hb1).mono hB.out.size))
                  replace Va := Kept.mk (Va.out.keep (hb1))
                  replace Vb := Kept.mk (Vb.out.keep (hb1))
                  replace Vc := Kept.mk (Vc.out.keep (hb1))
                  clear hb1
                  go_wp2_with (have hz0 := K1; refine wpList_storeN 25 rfl (.tmp 12) (.tmp 84) rfl U.heap.size [.int .i64 (joinF F0 F1).kind, .int .i64 (joinF F0 F1).time, .int .i64 (joinF F0 F1).node, .bool (joinF F0 F1).dead, .string ⟨(joinF F0 F1).text.toArray⟩, p', m', .int .u64 ((joinF F0 F1).flags.toNat : Int)] size_va rfl rfl K1.out rfl K2.out K5.out ?_; replace hB := Kept.mk (hB.out.trans ((K3.out).mono hB.out.size)); replace Va := Kept.mk (Va.out.keep (K3.out)); replace Vb := Kept.mk (Vb.out.keep (K3.out)); replace Vc := Kept.mk (Vc.out.keep (K3.out)); have Vj := Kept.mk K4.out.var; clear hz0 K1 K2 K3 K4 K5; generalize setN (U.alloc (.cells #[.int .i64 0, .int .i64 0, .int .i64 0, .bool false, .string ⟨#[]⟩, .slice none 0 0, .slice none 0 0, .int .u64 0] 25)) U.heap.size 0 [.int .i64 (joinF F0 F1).kind, .int .i64 (joinF F0 F1).time, .int .i64 (joinF F0 F1).node, .bool (joinF F0 F1).dead, .string ⟨(joinF F0 F1).text.toArray⟩, p', m', .int .u64 ((joinF F0 F1).flags.toNat : Int)] = W11 at *; generalize U.heap.size = gj at *; obtain ⟨qj, rj, xj, -, -, kj0, kj1, kj2, kj3, kj4, kj5, kj6, kj7⟩ := Vj.out.open_; have Xj := Kept.mk xj; clear xj; obtain ⟨qa, ra, xa, -, -, ka0, ka1, ka2, ka3, ka4, ka5, ka6, ka7⟩ := Va.out.open_; have Xa := Kept.mk xa; clear xa)
                  ((with_reducible refine (vsame_fit (joinF F0 F1) F0 _ _ _ Xj.out Xa.out (fit_join FFa.out FFb.out) FFa.out).mono ?_); rintro e W12 ⟨rfl, hb1⟩)
                  clear Xj kj0 kj1 kj2 kj3 kj4 kj5 kj6 kj7
                  clear Xa ka0 ka1 ka2 ka3 ka4 ka5 ka6 ka7
                  replace hB := Kept.mk (hB.out.trans ((hb1).mono hB.out.size))
                  replace Va := Kept.mk (Va.out.keep (hb1))
                  replace Vb := Kept.mk (Vb.out.keep (hb1))
                  replace Vc := Kept.mk (Vc.out.keep (hb1))
                  replace Vj := Kept.mk (Vj.out.keep (hb1))
                  clear hb1
                  cases hz : decide (joinF F0 F1 = F0) with
                  | true =>
                    clear hz
                    go_wp2
                    all_goals go_ret
                    all_goals exact ⟨rfl, hB.out⟩
                  | false =>
                    clear hz
                    obtain ⟨qj, rj, xj, -, -, kj0, kj1, kj2, kj3, kj4, kj5, kj6, kj7⟩ := Vj.out.open_
                    have Xj := Kept.mk xj
                    clear xj
                    obtain ⟨qb, rb, xb, -, -, kb0, kb1, kb2, kb3, kb4, kb5, kb6, kb7⟩ := Vb.out.open_
                    have Xb := Kept.mk xb
                    clear xb
                    go_wp2_with fail
                    ((with_reducible refine (f_same (joinF F0 F1) F1 true _ _ _ Xj.out Xb.out (fit_join FFa.out FFb.out) FFb.out (decide_eq_true (below_iff.1 Hab.out.symm).2)).mono ?_); rintro e W13 ⟨rfl, hb1⟩)
                    clear Xj kj0 kj1 kj2 kj3 kj4 kj5 kj6 kj7
                    clear Xb kb0 kb1 kb2 kb3 kb4 kb5 kb6 kb7
                    replace hB := Kept.mk (hB.out.trans ((hb1).mono hB.out.size))
                    replace Va := Kept.mk (Va.out.keep (hb1))
                    replace Vb := Kept.mk (Vb.out.keep (hb1))
                    replace Vc := Kept.mk (Vc.out.keep (hb1))
                    replace Vj := Kept.mk (Vj.out.keep (hb1))
                    clear hb1
                    go_wp2
                    all_goals go_ret
                    all_goals exact ⟨rfl, hB.out⟩
            | true =>
              obtain ⟨qa, ra, xa, -, -, ka0, ka1, ka2, ka3, ka4, ka5, ka6, ka7⟩ := Va.out.open_
              have Xa := Kept.mk xa
              clear xa
              obtain ⟨qb, rb, xb, -, -, kb0, kb1, kb2, kb3, kb4, kb5, kb6, kb7⟩ := Vb.out.open_
              have Xb := Kept.mk xb
              clear xb
              go_wp2_with fail
              ((with_reducible refine (f_same F0 F1 true _ _ _ Xa.out Xb.out FFa.out FFb.out (decide_eq_true (below_antisymm Hab.out.symm Hba.out.symm))).mono ?_); rintro e W9 ⟨rfl, hb1⟩)
              clear Xa ka0 ka1 ka2 ka3 ka4 ka5 ka6 ka7
              clear Xb kb0 kb1 kb2 kb3 kb4 kb5 kb6 kb7
              replace hB := Kept.mk (hB.out.trans ((hb1).mono hB.out.size))
              replace Va := Kept.mk (Va.out.keep (hb1))
              replace Vb := Kept.mk (Vb.out.keep (hb1))
              replace Vc := Kept.mk (Vc.out.keep (hb1))
              clear hb1
              by_cases k0 : F0.kind = 1
              case neg =>
                obtain ⟨qa, ra, xa, -, -, ka0, ka1, ka2, ka3, ka4, ka5, ka6, ka7⟩ := Va.out.open_
                have Xa := Kept.mk xa
                clear xa
                obtain ⟨qb, rb, xb, -, -, kb0, kb1, kb2, kb3, kb4, kb5, kb6, kb7⟩ := Vb.out.open_
                have Xb := Kept.mk xb
                clear xb
                go_wp2
                all_goals go_ret
                all_goals exact ⟨rfl, hB.out⟩
              by_cases k1 : F1.kind = 1
              case neg =>
                obtain ⟨qa, ra, xa, -, -, ka0, ka1, ka2, ka3, ka4, ka5, ka6, ka7⟩ := Va.out.open_
                have Xa := Kept.mk xa
                clear xa
                obtain ⟨qb, rb, xb, -, -, kb0, kb1, kb2, kb3, kb4, kb5, kb6, kb7⟩ := Vb.out.open_
                have Xb := Kept.mk xb
                clear xb
                go_wp2
                all_goals go_ret
                all_goals exact ⟨rfl, hB.out⟩
              have K0 := Kept.mk k0
              have K1 := Kept.mk k1
              obtain ⟨qa, ra, xa, -, -, ka0, ka1, ka2, ka3, ka4, ka5, ka6, ka7⟩ := Va.out.open_
              have Xa := Kept.mk xa
              clear xa
              obtain ⟨qb, rb, xb, -, -, kb0, kb1, kb2, kb3, kb4, kb5, kb6, kb7⟩ := Vb.out.open_
              have Xb := Kept.mk xb
              clear xb
              go_wp2_with fail
              rw [K0.out] at Xa
              ((with_reducible refine (vcheck_any F0 _ _ Xa.out FFa.out).mono ?_); rintro e W10 ⟨rfl, hb1⟩)
              clear Xa ka0 ka1 ka2 ka3 ka4 ka5 ka6 ka7
              clear Xb kb0 kb1 kb2 kb3 kb4 kb5 kb6 kb7
              replace hB := Kept.mk (hB.out.trans ((hb1).mono hB.out.size))
              replace Va := Kept.mk (Va.out.keep (hb1))
              replace Vb := Kept.mk (Vb.out.keep (hb1))
              replace Vc := Kept.mk (Vc.out.keep (hb1))
              clear hb1
              clear k0 k1
              have hc := checkV_cases F0
              cases dA : okV F0 with
              | false =>
                rw [dA] at hc
                have hc' : ¬ checkV F0 = 0 := by rw [hc]; decide
                clear dA hc
                go_wp2
                all_goals go_ret
                all_goals exact ⟨rfl, hB.out⟩
              | true =>
                rw [dA] at hc
                replace hc : checkV F0 = 0 := hc
                have HA := Kept.mk dA
                clear dA
                obtain ⟨qb, rb, xb, -, -, kb0, kb1, kb2, kb3, kb4, kb5, kb6, kb7⟩ := Vb.out.open_
                have Xb := Kept.mk xb
                clear xb
                go_wp2_with fail
                ((with_reducible refine (vcheck_any F1 _ _ Xb.out FFb.out).mono ?_); rintro e W11 ⟨rfl, hb1⟩)
                clear Xb kb0 kb1 kb2 kb3 kb4 kb5 kb6 kb7
                replace hB := Kept.mk (hB.out.trans ((hb1).mono hB.out.size))
                replace Va := Kept.mk (Va.out.keep (hb1))
                replace Vb := Kept.mk (Vb.out.keep (hb1))
                replace Vc := Kept.mk (Vc.out.keep (hb1))
                clear hb1
                have hc2 := checkV_cases F1
                cases dB : okV F1 with
                | false =>
                  rw [dB] at hc2
                  have hc' : ¬ checkV F1 = 0 := by rw [hc2]; decide
                  clear dB hc2
                  go_wp2
                  all_goals go_ret
                  all_goals exact ⟨rfl, hB.out⟩
                | true =>
                  rw [dB] at hc2
                  replace hc2 : checkV F1 = 0 := hc2
                  have HE := Kept.mk (joinE_zero.2 ⟨HA.out, dB, by rw [K0.out, K1.out]⟩)
                  have HR := Kept.mk (reg_total HA.out dB K0.out K1.out)
                  have he : joinE F0 F1 = 0 := HE.out
                  clear dB
                  obtain ⟨qa, ra, xa, -, -, ka0, ka1, ka2, ka3, ka4, ka5, ka6, ka7⟩ := Va.out.open_
                  have Xa := Kept.mk xa
                  clear xa
                  obtain ⟨qb, rb, xb, -, -, kb0, kb1, kb2, kb3, kb4, kb5, kb6, kb7⟩ := Vb.out.open_
                  have Xb := Kept.mk xb
                  clear xb
                  go_wp2_with fail
                  ((with_reducible refine (vjoin_any F0 F1 _ _ _ Xa.out Xb.out FFa.out FFb.out).mono ?_); rintro e U ⟨v', rfl, ⟨p', m', rfl, hp', hm', _, _⟩, hb1⟩)
                  obtain ⟨K1, K2, K3, K4, K5⟩ := vnew U (joinF F0 F1) p' m' hp' hm' U.heap.size rfl
                  clear hp' hm'
                  clear Xa ka0 ka1 ka2 ka3 ka4 ka5 ka6 ka7
                  clear Xb kb0 kb1 kb2 kb3 kb4 kb5 kb6 kb7
                  replace hB := Kept.mk (hB.out.trans ((hb1).mono hB.out.size))
                  replace Va := Kept.mk (Va.out.keep (hb1))
                  replace Vb := Kept.mk (Vb.out.keep (hb1))
                  replace Vc := Kept.mk (Vc.out.keep (hb1))
                  clear hb1
                  go_wp2_with (have hz0 := K1; refine wpList_storeN 25 rfl (.tmp 12) (.tmp 84) rfl U.heap.size [.int .i64 (joinF F0 F1).kind, .int .i64 (joinF F0 F1).time, .int .i64 (joinF F0 F1).node, .bool (joinF F0 F1).dead, .string ⟨(joinF F0 F1).text.toArray⟩, p', m', .int .u64 ((joinF F0 F1).flags.toNat : Int)] size_va rfl rfl K1.out rfl K2.out K5.out ?_; replace hB := Kept.mk (hB.out.trans ((K3.out).mono hB.out.size)); replace Va := Kept.mk (Va.out.keep (K3.out)); replace Vb := Kept.mk (Vb.out.keep (K3.out)); replace Vc := Kept.mk (Vc.out.keep (K3.out)); have Vj := Kept.mk K4.out.var; clear hz0 K1 K2 K3 K4 K5; generalize setN (U.alloc (.cells #[.int .i64 0, .int .i64 0, .int .i64 0, .bool false, .string ⟨#[]⟩, .slice none 0 0, .slice none 0 0, .int .u64 0] 25)) U.heap.size 0 [.int .i64 (joinF F0 F1).kind, .int .i64 (joinF F0 F1).time, .int .i64 (joinF F0 F1).node, .bool (joinF F0 F1).dead, .string ⟨(joinF F0 F1).text.toArray⟩, p', m', .int .u64 ((joinF F0 F1).flags.toNat : Int)] = W12 at *; generalize U.heap.size = gj at *; obtain ⟨qj, rj, xj, -, -, kj0, kj1, kj2, kj3, kj4, kj5, kj6, kj7⟩ := Vj.out.open_; have Xj := Kept.mk xj; clear xj; obtain ⟨qa, ra, xa, -, -, ka0, ka1, ka2, ka3, ka4, ka5, ka6, ka7⟩ := Va.out.open_; have Xa := Kept.mk xa; clear xa)
                  ((with_reducible refine (f_same (joinF F0 F1) F0 true _ _ _ Xj.out Xa.out (fit_join FFa.out FFb.out) FFa.out (decide_eq_true ((below_iff.1 Hab.out.symm).2.trans (below_antisymm Hab.out.symm Hba.out.symm).symm))).mono ?_); rintro e W13 ⟨rfl, hb1⟩)
                  clear Xj kj0 kj1 kj2 kj3 kj4 kj5 kj6 kj7
                  clear Xa ka0 ka1 ka2 ka3 ka4 ka5 ka6 ka7
                  replace hB := Kept.mk (hB.out.trans ((hb1).mono hB.out.size))
                  replace Va := Kept.mk (Va.out.keep (hb1))
                  replace Vb := Kept.mk (Vb.out.keep (hb1))
                  replace Vc := Kept.mk (Vc.out.keep (hb1))
                  replace Vj := Kept.mk (Vj.out.keep (hb1))
                  clear hb1
                  go_wp2
                  all_goals go_ret
                  all_goals exact ⟨rfl, hB.out⟩
set_option maxRecDepth 100000 in
theorem valueOrder_lifted (os : Os) (started : os.Started) (H : Type) (enc : TypeId × Value → H) :
    ReturnsInHanded {} Try.checked os 6 .any (Rows.valueOrderSpec.pre6 enc Try.prog Try.f6 Rows.valueOrderRow.domain false) (Rows.valueOrderSpec.post enc Try.prog Try.f6 false true false false) := by
  refine returnsInHanded_of_change (C := Try.checked) (by kernel_rfl : ownKnob Try.prog.godebug = none) started (by kernel_rfl) Try.func6
    (ChangeSpec.witness6 (enc := enc) (C := Try.checked) false ⟨#[], #[.agg #[.int .i64 0, .int .i64 0, .int .i64 0, .bool false, .string ByteArray.empty, .slice none 0 0, .slice none 0 0, .int .u64 0], .agg #[.int .i64 0, .int .i64 0, .int .i64 0, .bool false, .string ByteArray.empty, .slice none 0 0, .slice none 0 0, .int .u64 0], .agg #[.int .i64 0, .int .i64 0, .int .i64 0, .bool false, .string ByteArray.empty, .slice none 0 0, .slice none 0 0, .int .u64 0]], []⟩ 8 (by kernel_rfl) (by kernel_rfl) (by kernel_rfl) (by kernel_rfl)) ?_
  intro W base args ds gs before hval0 hW hcnd _
  have hval : ∀ (j : Nat) t v, Try.f6.params[j]? = some t → args[j]? = some v → Value.okWide Try.prog W .any base t v := hval0
  have hW' := hW
  obtain ⟨p, q, hA0, hV, rfl, hfz, hnd⟩ := hW
  have hA : DataW.TrodAll enc Try.prog W 0 (fun _ => true) true Try.f6.params.toList args.toList ds p := hA0
  rw [Try.params6] at hA hval
  obtain ⟨v0, vs0, d0, ds0, p0, q0, hargs, rfl, rfl, h0, r0⟩ := trodAll_cons hA
  obtain ⟨v1, vs1, d1, ds1, p1, q1, rfl, rfl, rfl, h1, r1⟩ := trodAll_cons r0
  obtain ⟨v2, vs2, d2, ds2, p2, q2, rfl, rfl, rfl, h2, r2⟩ := trodAll_cons r1
  obtain ⟨rfl, rfl, rfl⟩ := trodAll_nil r2
  obtain rfl : args = #[v0, v1, v2] := by cases args; simp_all
  obtain ⟨rfl, rfl⟩ := trodVars_none hV
  obtain ⟨F0, fl0, w0⟩ := open_va (hval 0 25 v0 rfl rfl) h0
  have lt0 : ∀ x ∈ p0, x.block < W.heap.size := fun x hx => by obtain ⟨fuel, hf⟩ := h0; exact DataW.trod_lt fuel _ _ _ hf x hx
  obtain ⟨F1, fl1, w1⟩ := open_va (hval 1 25 v1 rfl rfl) h1
  have lt1 : ∀ x ∈ p1, x.block < W.heap.size := fun x hx => by obtain ⟨fuel, hf⟩ := h1; exact DataW.trod_lt fuel _ _ _ hf x hx
  obtain ⟨F2, fl2, w2⟩ := open_va (hval 2 25 v2 rfl rfl) h2
  have lt2 : ∀ x ∈ p2, x.block < W.heap.size := fun x hx => by obtain ⟨fuel, hf⟩ := h2; exact DataW.trod_lt fuel _ _ _ hf x hx
  clear hA0 hval0
  simp only [List.append_nil] at hW'
  refine (valueOrder_walk F0 v0 F1 v1 F2 v2 w0 w1 w2 W fl0 fl1 fl2).mono fun e W' ⟨he, bel⟩ => ?_
  subst he
  exact ⟨_, rfl, _, _, _, [], _, [], hW', trodAll_mk1 (shut_bool Try.underlying4 _), (trodAll_cons_mk (Below.trod (by kernel_rfl) (by kernel_rfl) (of_decide_eq_true (by kernel_rfl)) h0 bel lt0) (trodAll_cons_mk (Below.trod (by kernel_rfl) (by kernel_rfl) (of_decide_eq_true (by kernel_rfl)) h1 bel lt1) (trodAll_cons_mk (Below.trod (by kernel_rfl) (by kernel_rfl) (of_decide_eq_true (by kernel_rfl)) h2 bel lt2) trodAll_mk0))), rfl, bel.frame _, fun h => by cases h⟩
/-- THE STATEMENT. -/
theorem valueOrder_proved : Rows.ValueOrderSaid :=
  OpenClaim.holds_of_wide 6 Try.f6 rfl rfl rfl rfl rfl rfl rfl ⟨rfl, rfl, rfl, rfl, rfl⟩ rfl rfl rfl rfl rfl (by kernel_rfl) Try.func6 (by kernel_rfl)
    (of_decide_eq_true (by kernel_rfl)) (by unfold Func.isWrapper; first | (rw [if_pos (by decide +kernel)]; kernel_rfl) | (rw [if_neg (by decide +kernel)]; exact ⟨rfl, rfl⟩))
    (fun os started H enc _ => valueOrder_lifted os started H enc)
#print axioms valueOrder_proved
end Go.Proofs.Ytnjlefciekcehaa
