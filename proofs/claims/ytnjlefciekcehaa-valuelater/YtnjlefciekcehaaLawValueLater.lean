/- A register of greater time is behind, whatever else it is; of one time that of the greater node; of both the one that is dead (value.Join, Check, Same). -/
import Derived.Test.YtnjlefciekcehaaVaWorks
import Derived.Test.YtnjlefciekcehaaVaOpen
import Derived.SizedLaws
import Derived.ProofKit
import Derived.OpenShut
import Derived.ShutString
import Derived.ChangeOld
import Derived.Below
namespace Go.Proofs.Ytnjlefciekcehaa
open Go.RowKit
open Go.ChangeShapes Go.WideShapes Go.ChangeAt Go.RowKit
open Go.ChangeMaps (open_string shut_string)
set_option linter.unusedVariables false
set_option linter.unusedSimpArgs false
attribute [local irreducible] setN

theorem checkV_cases (A : Va) : checkV A = if okV A = true then 0 else 2 := rfl
theorem reg_join {A B : Va} (hA : okV A = true) (hB : okV B = true) (kA : A.kind = 1) (kB : B.kind = 1) :
    ((B.time < A.time ∨ (A.time = B.time ∧ B.node < A.node) ∨ (A.time = B.time ∧ A.node = B.node ∧ A.dead = true ∧ B.dead = false)) → joinF A B = A) ∧ (joinF A B).time = max A.time B.time := by
  have e : joinE A B = 0 := joinE_zero.2 ⟨hA, hB, by omega⟩
  have rA := (ok_reg hA kA).2
  have rB := (ok_reg hB kB).2
  rw [joinF_ok e, joinV_reg kA]
  unfold joinReg
  refine ⟨fun h => ?_, ?_⟩
  · rw [if_pos, ← rA]
    rw [behindB_iff]
    rcases h with h | ⟨h1, h2⟩ | ⟨h1, h2, h3, h4⟩
    · exact .inl h
    · exact .inr ⟨h1, .inl h2⟩
    · exact .inr ⟨h1, .inr ⟨h2, .inl (by rw [h3, h4]; decide)⟩⟩
  · split
    · rename_i h
      rw [behindB_iff] at h
      rw [← rA]
      rcases h with h | ⟨h, _⟩ <;> omega
    · rename_i h
      rw [behindB_iff] at h
      rw [← rB]
      have : ¬ B.time < A.time := fun x => h (.inl x)
      omega
set_option maxRecDepth 100000 in
set_option maxHeartbeats 20000000 in
theorem valueLater_walk (F0 : Va) (v0 : Value) (F1 : Va) (v1 : Value) (w0 : CameV F0) (w1 : CameV F1) (w : World) (fl0 : isVa F0 v0 w) (fl1 : isVa F1 v1 w) :
    Calls Try.prog 8 #[v0, v1] w fun e w' => e = .returned (.bool true) ∧ Below w.heap.size w w' := by
  obtain ⟨pa, ma, rfl, hpa, hma⟩ := fl0
  obtain ⟨pb, mb, rfl, hpb, hmb⟩ := fl1
  obtain ⟨hB, Va⟩ := vbox w F0 pa ma hpa hma (w.heap.size) (by simp)
  obtain ⟨hBn, Vb⟩ := vbox (w.alloc (.cells #[.int .i64 F0.kind, .int .i64 F0.time, .int .i64 F0.node, .bool F0.dead, .string ⟨F0.text.toArray⟩, pa, ma, .int .u64 (F0.flags.toNat : Int)] 25)) F1 pb mb (stable_cells _ _ _ _ hpb hB.out) (stable_cells _ _ _ _ hmb hB.out) (w.heap.size + 1) (by simp)
  replace Va := Kept.mk (Va.out.keep hBn.out)
  replace hB := Kept.mk (hB.out.trans (hBn.out.mono hB.out.size))
  clear hBn
  clear hpa hma hpb hmb
  go_enter Try.func8, Try.ntmps8
  go_wp2_with fail
  generalize ((w.alloc (.cells #[.int .i64 F0.kind, .int .i64 F0.time, .int .i64 F0.node, .bool F0.dead, .string ⟨F0.text.toArray⟩, pa, ma, .int .u64 (F0.flags.toNat : Int)] 25)).alloc (.cells #[.int .i64 F1.kind, .int .i64 F1.time, .int .i64 F1.node, .bool F1.dead, .string ⟨F1.text.toArray⟩, pb, mb, .int .u64 (F1.flags.toNat : Int)] 25)) = W0 at *
  ((with_reducible refine (vworks_any _).mono ?_); rintro e W1 ⟨rfl, hb1⟩)
  replace hB := Kept.mk (hB.out.trans ((hb1).mono hB.out.size))
  replace Va := Kept.mk (Va.out.keep (hb1))
  replace Vb := Kept.mk (Vb.out.keep (hb1))
  clear hb1
  obtain ⟨qa, ra, xa, -, -, ka0, ka1, ka2, ka3, ka4, ka5, ka6, ka7⟩ := Va.out.open_
  have Xa := Kept.mk xa
  clear xa
  go_wp2_with fail
  ((with_reducible refine (vfew_any F0 _ _ Xa.out).mono ?_); rintro e W2 ⟨rfl, hb1⟩)
  clear Xa ka0 ka1 ka2 ka3 ka4 ka5 ka6 ka7
  replace hB := Kept.mk (hB.out.trans ((hb1).mono hB.out.size))
  replace Va := Kept.mk (Va.out.keep (hb1))
  replace Vb := Kept.mk (Vb.out.keep (hb1))
  clear hb1
  cases fa : fewV F0 with
  | false =>
    go_wp2
    all_goals go_ret
    all_goals exact ⟨rfl, hB.out⟩
  | true =>
    have FFa := Kept.mk (few_fit fa)
    clear fa
    obtain ⟨qb, rb, xb, -, -, kb0, kb1, kb2, kb3, kb4, kb5, kb6, kb7⟩ := Vb.out.open_
    have Xb := Kept.mk xb
    clear xb
    go_wp2_with fail
    ((with_reducible refine (vfew_any F1 _ _ Xb.out).mono ?_); rintro e W3 ⟨rfl, hb1⟩)
    clear Xb kb0 kb1 kb2 kb3 kb4 kb5 kb6 kb7
    replace hB := Kept.mk (hB.out.trans ((hb1).mono hB.out.size))
    replace Va := Kept.mk (Va.out.keep (hb1))
    replace Vb := Kept.mk (Vb.out.keep (hb1))
    clear hb1
    cases fb : fewV F1 with
    | false =>
      go_wp2
      all_goals go_ret
      all_goals exact ⟨rfl, hB.out⟩
    | true =>
      have FFb := Kept.mk (few_fit fb)
      clear fb
      by_cases k0 : F0.kind = 1
      case neg =>
        obtain ⟨qa, ra, xa, -, -, ka0, ka1, ka2, ka3, ka4, ka5, ka6, ka7⟩ := Va.out.open_
        have Xa := Kept.mk xa
        clear xa
        obtain ⟨qb, rb, xb, -, -, kb0, kb1, kb2, kb3, kb4, kb5, kb6, kb7⟩ := Vb.out.open_
        have Xb := Kept.mk xb
        clear xb
        go_wp2
        all_goals go_ret
        all_goals exact ⟨rfl, hB.out⟩
      by_cases k1 : F1.kind = 1
      case neg =>
        obtain ⟨qa, ra, xa, -, -, ka0, ka1, ka2, ka3, ka4, ka5, ka6, ka7⟩ := Va.out.open_
        have Xa := Kept.mk xa
        clear xa
        obtain ⟨qb, rb, xb, -, -, kb0, kb1, kb2, kb3, kb4, kb5, kb6, kb7⟩ := Vb.out.open_
        have Xb := Kept.mk xb
        clear xb
        go_wp2
        all_goals go_ret
        all_goals exact ⟨rfl, hB.out⟩
      have K0 := Kept.mk k0
      have K1 := Kept.mk k1
      obtain ⟨qa, ra, xa, -, -, ka0, ka1, ka2, ka3, ka4, ka5, ka6, ka7⟩ := Va.out.open_
      have Xa := Kept.mk xa
      clear xa
      obtain ⟨qb, rb, xb, -, -, kb0, kb1, kb2, kb3, kb4, kb5, kb6, kb7⟩ := Vb.out.open_
      have Xb := Kept.mk xb
      clear xb
      go_wp2_with fail
      rw [K0.out] at Xa
      ((with_reducible refine (vcheck_any F0 _ _ Xa.out FFa.out).mono ?_); rintro e W4 ⟨rfl, hb1⟩)
      clear Xa ka0 ka1 ka2 ka3 ka4 ka5 ka6 ka7
      clear Xb kb0 kb1 kb2 kb3 kb4 kb5 kb6 kb7
      replace hB := Kept.mk (hB.out.trans ((hb1).mono hB.out.size))
      replace Va := Kept.mk (Va.out.keep (hb1))
      replace Vb := Kept.mk (Vb.out.keep (hb1))
      clear hb1
      clear k0 k1
      have hc := checkV_cases F0
      cases dA : okV F0 with
      | false =>
        rw [dA] at hc
        have hc' : ¬ checkV F0 = 0 := by rw [hc]; decide
        clear dA hc
        go_wp2
        all_goals go_ret
        all_goals exact ⟨rfl, hB.out⟩
      | true =>
        rw [dA] at hc
        replace hc : checkV F0 = 0 := hc
        have HA := Kept.mk dA
        clear dA
        obtain ⟨qb, rb, xb, -, -, kb0, kb1, kb2, kb3, kb4, kb5, kb6, kb7⟩ := Vb.out.open_
        have Xb := Kept.mk xb
        clear xb
        go_wp2_with fail
        ((with_reducible refine (vcheck_any F1 _ _ Xb.out FFb.out).mono ?_); rintro e W5 ⟨rfl, hb1⟩)
        clear Xb kb0 kb1 kb2 kb3 kb4 kb5 kb6 kb7
        replace hB := Kept.mk (hB.out.trans ((hb1).mono hB.out.size))
        replace Va := Kept.mk (Va.out.keep (hb1))
        replace Vb := Kept.mk (Vb.out.keep (hb1))
        clear hb1
        have hc2 := checkV_cases F1
        cases dB : okV F1 with
        | false =>
          rw [dB] at hc2
          have hc' : ¬ checkV F1 = 0 := by rw [hc2]; decide
          clear dB hc2
          go_wp2
          all_goals go_ret
          all_goals exact ⟨rfl, hB.out⟩
        | true =>
          rw [dB] at hc2
          replace hc2 : checkV F1 = 0 := hc2
          have HE := Kept.mk (joinE_zero.2 ⟨HA.out, dB, by rw [K0.out, K1.out]⟩)
          have HB2 := Kept.mk dB
          have he : joinE F0 F1 = 0 := HE.out
          clear dB
          obtain ⟨qa, ra, xa, -, -, ka0, ka1, ka2, ka3, ka4, ka5, ka6, ka7⟩ := Va.out.open_
          have Xa := Kept.mk xa
          clear xa
          obtain ⟨qb, rb, xb, -, -, kb0, kb1, kb2, kb3, kb4, kb5, kb6, kb7⟩ := Vb.out.open_
          have Xb := Kept.mk xb
          clear xb
          go_wp2_with fail
          have HJ := Kept.mk (reg_join HA.out HB2.out K0.out K1.out)
          ((with_reducible refine (vjoin_any F0 F1 _ _ _ Xa.out Xb.out FFa.out FFb.out).mono ?_); rintro e U ⟨v', rfl, ⟨p', m', rfl, hp', hm', _, _⟩, hb1⟩)
          obtain ⟨K1', K2, K3, K4, K5⟩ := vnew U (joinF F0 F1) p' m' hp' hm' U.heap.size rfl
          clear hp' hm'
          clear Xa ka0 ka1 ka2 ka3 ka4 ka5 ka6 ka7
          clear Xb kb0 kb1 kb2 kb3 kb4 kb5 kb6 kb7
          replace hB := Kept.mk (hB.out.trans ((hb1).mono hB.out.size))
          replace Va := Kept.mk (Va.out.keep (hb1))
          replace Vb := Kept.mk (Vb.out.keep (hb1))
          clear hb1
          by_cases t1 : F1.time < F0.time
          · skip
            have HT := Kept.mk t1
            have d1 : decide (F1.time < F0.time) = true := by simpa using t1
            clear t1
            go_wp2_with (have hz0 := K1'; refine wpList_storeN 25 rfl (.tmp 7) (.tmp 45) rfl U.heap.size [.int .i64 (joinF F0 F1).kind, .int .i64 (joinF F0 F1).time, .int .i64 (joinF F0 F1).node, .bool (joinF F0 F1).dead, .string ⟨(joinF F0 F1).text.toArray⟩, p', m', .int .u64 ((joinF F0 F1).flags.toNat : Int)] size_va rfl rfl K1'.out rfl K2.out K5.out ?_; replace hB := Kept.mk (hB.out.trans ((K3.out).mono hB.out.size)); replace Va := Kept.mk (Va.out.keep (K3.out)); replace Vb := Kept.mk (Vb.out.keep (K3.out)); have Vj := Kept.mk K4.out.var; clear hz0 K1' K2 K3 K4 K5; generalize setN (U.alloc (.cells #[.int .i64 0, .int .i64 0, .int .i64 0, .bool false, .string ⟨#[]⟩, .slice none 0 0, .slice none 0 0, .int .u64 0] 25)) U.heap.size 0 [.int .i64 (joinF F0 F1).kind, .int .i64 (joinF F0 F1).time, .int .i64 (joinF F0 F1).node, .bool (joinF F0 F1).dead, .string ⟨(joinF F0 F1).text.toArray⟩, p', m', .int .u64 ((joinF F0 F1).flags.toNat : Int)] = W9 at *; generalize U.heap.size = gj at *; obtain ⟨qa, ra, xa, -, -, ka0, ka1, ka2, ka3, ka4, ka5, ka6, ka7⟩ := Va.out.open_; have Xa := Kept.mk xa; clear xa; obtain ⟨qb, rb, xb, -, -, kb0, kb1, kb2, kb3, kb4, kb5, kb6, kb7⟩ := Vb.out.open_; have Xb := Kept.mk xb; clear xb; obtain ⟨qj, rj, xj, -, -, kj0, kj1, kj2, kj3, kj4, kj5, kj6, kj7⟩ := Vj.out.open_; have Xj := Kept.mk xj; clear xj)
            ((with_reducible refine (f_same (joinF F0 F1) F0 true _ _ _ Xj.out Xa.out (fit_join FFa.out FFb.out) FFa.out (decide_eq_true (HJ.out.1 (.inl HT.out)))).mono ?_); rintro e W10 ⟨rfl, hb1⟩)
            clear Xa ka0 ka1 ka2 ka3 ka4 ka5 ka6 ka7
            clear Xb kb0 kb1 kb2 kb3 kb4 kb5 kb6 kb7
            clear Xj kj0 kj1 kj2 kj3 kj4 kj5 kj6 kj7
            replace hB := Kept.mk (hB.out.trans ((hb1).mono hB.out.size))
            replace Va := Kept.mk (Va.out.keep (hb1))
            replace Vb := Kept.mk (Vb.out.keep (hb1))
            replace Vj := Kept.mk (Vj.out.keep (hb1))
            clear hb1
            go_wp2
            all_goals go_ret
            all_goals exact ⟨rfl, hB.out⟩
          have d1 : decide (F1.time < F0.time) = false := by simpa using t1
          by_cases t2 : F0.time = F1.time
          case neg =>
            have d2 : (F0.time == F1.time) = false := by simpa using t2
            have HM := Kept.mk (show ((joinF F0 F1).time == max F0.time F1.time) = true by rw [HJ.out.2]; simp)
            obtain ⟨zm, hzm⟩ : ∃ z, z = max F0.time F1.time := ⟨_, rfl⟩
            rw [← hzm] at HM
            have hmx : ∀ (ts : Array TypeId) (t : TypeId) (W : World), (Builtin.max_ ts t #[.int .i64 F0.time, .int .i64 F1.time]).run Try.prog W = .ok (.int .i64 zm) W := fun ts t W => by rw [run_max_int2, hzm]; congr 2; split <;> omega
            have dm : ((joinF F0 F1).time == zm) = true := HM.out
            clear t1 t2 hzm
            go_wp2_with (have hz0 := K1'; refine wpList_storeN 25 rfl (.tmp 7) (.tmp 45) rfl U.heap.size [.int .i64 (joinF F0 F1).kind, .int .i64 (joinF F0 F1).time, .int .i64 (joinF F0 F1).node, .bool (joinF F0 F1).dead, .string ⟨(joinF F0 F1).text.toArray⟩, p', m', .int .u64 ((joinF F0 F1).flags.toNat : Int)] size_va rfl rfl K1'.out rfl K2.out K5.out ?_; replace hB := Kept.mk (hB.out.trans ((K3.out).mono hB.out.size)); replace Va := Kept.mk (Va.out.keep (K3.out)); replace Vb := Kept.mk (Vb.out.keep (K3.out)); have Vj := Kept.mk K4.out.var; clear hz0 K1' K2 K3 K4 K5; generalize setN (U.alloc (.cells #[.int .i64 0, .int .i64 0, .int .i64 0, .bool false, .string ⟨#[]⟩, .slice none 0 0, .slice none 0 0, .int .u64 0] 25)) U.heap.size 0 [.int .i64 (joinF F0 F1).kind, .int .i64 (joinF F0 F1).time, .int .i64 (joinF F0 F1).node, .bool (joinF F0 F1).dead, .string ⟨(joinF F0 F1).text.toArray⟩, p', m', .int .u64 ((joinF F0 F1).flags.toNat : Int)] = W9 at *; generalize U.heap.size = gj at *; obtain ⟨qa, ra, xa, -, -, ka0, ka1, ka2, ka3, ka4, ka5, ka6, ka7⟩ := Va.out.open_; have Xa := Kept.mk xa; clear xa; obtain ⟨qb, rb, xb, -, -, kb0, kb1, kb2, kb3, kb4, kb5, kb6, kb7⟩ := Vb.out.open_; have Xb := Kept.mk xb; clear xb; obtain ⟨qj, rj, xj, -, -, kj0, kj1, kj2, kj3, kj4, kj5, kj6, kj7⟩ := Vj.out.open_; have Xj := Kept.mk xj; clear xj)
            all_goals go_ret
            all_goals exact ⟨rfl, hB.out⟩
          have d2 : (F0.time == F1.time) = true := by simpa using t2
          have HT2 := Kept.mk t2
          clear t2
          by_cases t3 : F1.node < F0.node
          case pos =>
            have HT := Kept.mk t3
            have d3 : decide (F1.node < F0.node) = true := by simpa using t3
            clear t3 t1
            go_wp2_with (have hz0 := K1'; refine wpList_storeN 25 rfl (.tmp 7) (.tmp 45) rfl U.heap.size [.int .i64 (joinF F0 F1).kind, .int .i64 (joinF F0 F1).time, .int .i64 (joinF F0 F1).node, .bool (joinF F0 F1).dead, .string ⟨(joinF F0 F1).text.toArray⟩, p', m', .int .u64 ((joinF F0 F1).flags.toNat : Int)] size_va rfl rfl K1'.out rfl K2.out K5.out ?_; replace hB := Kept.mk (hB.out.trans ((K3.out).mono hB.out.size)); replace Va := Kept.mk (Va.out.keep (K3.out)); replace Vb := Kept.mk (Vb.out.keep (K3.out)); have Vj := Kept.mk K4.out.var; clear hz0 K1' K2 K3 K4 K5; generalize setN (U.alloc (.cells #[.int .i64 0, .int .i64 0, .int .i64 0, .bool false, .string ⟨#[]⟩, .slice none 0 0, .slice none 0 0, .int .u64 0] 25)) U.heap.size 0 [.int .i64 (joinF F0 F1).kind, .int .i64 (joinF F0 F1).time, .int .i64 (joinF F0 F1).node, .bool (joinF F0 F1).dead, .string ⟨(joinF F0 F1).text.toArray⟩, p', m', .int .u64 ((joinF F0 F1).flags.toNat : Int)] = W9 at *; generalize U.heap.size = gj at *; obtain ⟨qa, ra, xa, -, -, ka0, ka1, ka2, ka3, ka4, ka5, ka6, ka7⟩ := Va.out.open_; have Xa := Kept.mk xa; clear xa; obtain ⟨qb, rb, xb, -, -, kb0, kb1, kb2, kb3, kb4, kb5, kb6, kb7⟩ := Vb.out.open_; have Xb := Kept.mk xb; clear xb; obtain ⟨qj, rj, xj, -, -, kj0, kj1, kj2, kj3, kj4, kj5, kj6, kj7⟩ := Vj.out.open_; have Xj := Kept.mk xj; clear xj)
            ((with_reducible refine (f_same (joinF F0 F1) F0 true _ _ _ Xj.out Xa.out (fit_join FFa.out FFb.out) FFa.out (decide_eq_true (HJ.out.1 (.inr (.inl ⟨HT2.out, HT.out⟩))))).mono ?_); rintro e W10 ⟨rfl, hb1⟩)
            clear Xa ka0 ka1 ka2 ka3 ka4 ka5 ka6 ka7
            clear Xb kb0 kb1 kb2 kb3 kb4 kb5 kb6 kb7
            clear Xj kj0 kj1 kj2 kj3 kj4 kj5 kj6 kj7
            replace hB := Kept.mk (hB.out.trans ((hb1).mono hB.out.size))
            replace Va := Kept.mk (Va.out.keep (hb1))
            replace Vb := Kept.mk (Vb.out.keep (hb1))
            replace Vj := Kept.mk (Vj.out.keep (hb1))
            clear hb1
            go_wp2
            all_goals go_ret
            all_goals exact ⟨rfl, hB.out⟩
          have d3 : decide (F1.node < F0.node) = false := by simpa using t3
          by_cases t4 : F0.node = F1.node
          case neg =>
            have d4 : (F0.node == F1.node) = false := by simpa using t4
            have HM := Kept.mk (show ((joinF F0 F1).time == max F0.time F1.time) = true by rw [HJ.out.2]; simp)
            obtain ⟨zm, hzm⟩ : ∃ z, z = max F0.time F1.time := ⟨_, rfl⟩
            rw [← hzm] at HM
            have hmx : ∀ (ts : Array TypeId) (t : TypeId) (W : World), (Builtin.max_ ts t #[.int .i64 F0.time, .int .i64 F1.time]).run Try.prog W = .ok (.int .i64 zm) W := fun ts t W => by rw [run_max_int2, hzm]; congr 2; split <;> omega
            have dm : ((joinF F0 F1).time == zm) = true := HM.out
            clear t1 t3 hzm
            clear t4
            go_wp2_with (have hz0 := K1'; refine wpList_storeN 25 rfl (.tmp 7) (.tmp 45) rfl U.heap.size [.int .i64 (joinF F0 F1).kind, .int .i64 (joinF F0 F1).time, .int .i64 (joinF F0 F1).node, .bool (joinF F0 F1).dead, .string ⟨(joinF F0 F1).text.toArray⟩, p', m', .int .u64 ((joinF F0 F1).flags.toNat : Int)] size_va rfl rfl K1'.out rfl K2.out K5.out ?_; replace hB := Kept.mk (hB.out.trans ((K3.out).mono hB.out.size)); replace Va := Kept.mk (Va.out.keep (K3.out)); replace Vb := Kept.mk (Vb.out.keep (K3.out)); have Vj := Kept.mk K4.out.var; clear hz0 K1' K2 K3 K4 K5; generalize setN (U.alloc (.cells #[.int .i64 0, .int .i64 0, .int .i64 0, .bool false, .string ⟨#[]⟩, .slice none 0 0, .slice none 0 0, .int .u64 0] 25)) U.heap.size 0 [.int .i64 (joinF F0 F1).kind, .int .i64 (joinF F0 F1).time, .int .i64 (joinF F0 F1).node, .bool (joinF F0 F1).dead, .string ⟨(joinF F0 F1).text.toArray⟩, p', m', .int .u64 ((joinF F0 F1).flags.toNat : Int)] = W9 at *; generalize U.heap.size = gj at *; obtain ⟨qa, ra, xa, -, -, ka0, ka1, ka2, ka3, ka4, ka5, ka6, ka7⟩ := Va.out.open_; have Xa := Kept.mk xa; clear xa; obtain ⟨qb, rb, xb, -, -, kb0, kb1, kb2, kb3, kb4, kb5, kb6, kb7⟩ := Vb.out.open_; have Xb := Kept.mk xb; clear xb; obtain ⟨qj, rj, xj, -, -, kj0, kj1, kj2, kj3, kj4, kj5, kj6, kj7⟩ := Vj.out.open_; have Xj := Kept.mk xj; clear xj)
            all_goals go_ret
            all_goals exact ⟨rfl, hB.out⟩
          have d4 : (F0.node == F1.node) = true := by simpa using t4
          have HT4 := Kept.mk t4
          clear t4
          cases t5 : F0.dead with
          | false =>
            have d5 := Kept.mk t5
            have HM := Kept.mk (show ((joinF F0 F1).time == max F0.time F1.time) = true by rw [HJ.out.2]; simp)
            obtain ⟨zm, hzm⟩ : ∃ z, z = max F0.time F1.time := ⟨_, rfl⟩
            rw [← hzm] at HM
            have hmx : ∀ (ts : Array TypeId) (t : TypeId) (W : World), (Builtin.max_ ts t #[.int .i64 F0.time, .int .i64 F1.time]).run Try.prog W = .ok (.int .i64 zm) W := fun ts t W => by rw [run_max_int2, hzm]; congr 2; split <;> omega
            have dm : ((joinF F0 F1).time == zm) = true := HM.out
            clear t1 t3 hzm
            go_wp2_with (have hz0 := K1'; refine wpList_storeN 25 rfl (.tmp 7) (.tmp 45) rfl U.heap.size [.int .i64 (joinF F0 F1).kind, .int .i64 (joinF F0 F1).time, .int .i64 (joinF F0 F1).node, .bool (joinF F0 F1).dead, .string ⟨(joinF F0 F1).text.toArray⟩, p', m', .int .u64 ((joinF F0 F1).flags.toNat : Int)] size_va rfl rfl K1'.out rfl K2.out K5.out ?_; replace hB := Kept.mk (hB.out.trans ((K3.out).mono hB.out.size)); replace Va := Kept.mk (Va.out.keep (K3.out)); replace Vb := Kept.mk (Vb.out.keep (K3.out)); have Vj := Kept.mk K4.out.var; clear hz0 K1' K2 K3 K4 K5; generalize setN (U.alloc (.cells #[.int .i64 0, .int .i64 0, .int .i64 0, .bool false, .string ⟨#[]⟩, .slice none 0 0, .slice none 0 0, .int .u64 0] 25)) U.heap.size 0 [.int .i64 (joinF F0 F1).kind, .int .i64 (joinF F0 F1).time, .int .i64 (joinF F0 F1).node, .bool (joinF F0 F1).dead, .string ⟨(joinF F0 F1).text.toArray⟩, p', m', .int .u64 ((joinF F0 F1).flags.toNat : Int)] = W9 at *; generalize U.heap.size = gj at *; obtain ⟨qa, ra, xa, -, -, ka0, ka1, ka2, ka3, ka4, ka5, ka6, ka7⟩ := Va.out.open_; have Xa := Kept.mk xa; clear xa; obtain ⟨qb, rb, xb, -, -, kb0, kb1, kb2, kb3, kb4, kb5, kb6, kb7⟩ := Vb.out.open_; have Xb := Kept.mk xb; clear xb; obtain ⟨qj, rj, xj, -, -, kj0, kj1, kj2, kj3, kj4, kj5, kj6, kj7⟩ := Vj.out.open_; have Xj := Kept.mk xj; clear xj)
            all_goals go_ret
            all_goals exact ⟨rfl, hB.out⟩
          | true =>
            cases t6 : F1.dead with
            | true =>
              have HM := Kept.mk (show ((joinF F0 F1).time == max F0.time F1.time) = true by rw [HJ.out.2]; simp)
              obtain ⟨zm, hzm⟩ : ∃ z, z = max F0.time F1.time := ⟨_, rfl⟩
              rw [← hzm] at HM
              have hmx : ∀ (ts : Array TypeId) (t : TypeId) (W : World), (Builtin.max_ ts t #[.int .i64 F0.time, .int .i64 F1.time]).run Try.prog W = .ok (.int .i64 zm) W := fun ts t W => by rw [run_max_int2, hzm]; congr 2; split <;> omega
              have dm : ((joinF F0 F1).time == zm) = true := HM.out
              clear t1 t3 hzm
              go_wp2_with (have hz0 := K1'; refine wpList_storeN 25 rfl (.tmp 7) (.tmp 45) rfl U.heap.size [.int .i64 (joinF F0 F1).kind, .int .i64 (joinF F0 F1).time, .int .i64 (joinF F0 F1).node, .bool (joinF F0 F1).dead, .string ⟨(joinF F0 F1).text.toArray⟩, p', m', .int .u64 ((joinF F0 F1).flags.toNat : Int)] size_va rfl rfl K1'.out rfl K2.out K5.out ?_; replace hB := Kept.mk (hB.out.trans ((K3.out).mono hB.out.size)); replace Va := Kept.mk (Va.out.keep (K3.out)); replace Vb := Kept.mk (Vb.out.keep (K3.out)); have Vj := Kept.mk K4.out.var; clear hz0 K1' K2 K3 K4 K5; generalize setN (U.alloc (.cells #[.int .i64 0, .int .i64 0, .int .i64 0, .bool false, .string ⟨#[]⟩, .slice none 0 0, .slice none 0 0, .int .u64 0] 25)) U.heap.size 0 [.int .i64 (joinF F0 F1).kind, .int .i64 (joinF F0 F1).time, .int .i64 (joinF F0 F1).node, .bool (joinF F0 F1).dead, .string ⟨(joinF F0 F1).text.toArray⟩, p', m', .int .u64 ((joinF F0 F1).flags.toNat : Int)] = W9 at *; generalize U.heap.size = gj at *; obtain ⟨qa, ra, xa, -, -, ka0, ka1, ka2, ka3, ka4, ka5, ka6, ka7⟩ := Va.out.open_; have Xa := Kept.mk xa; clear xa; obtain ⟨qb, rb, xb, -, -, kb0, kb1, kb2, kb3, kb4, kb5, kb6, kb7⟩ := Vb.out.open_; have Xb := Kept.mk xb; clear xb; obtain ⟨qj, rj, xj, -, -, kj0, kj1, kj2, kj3, kj4, kj5, kj6, kj7⟩ := Vj.out.open_; have Xj := Kept.mk xj; clear xj)
              all_goals go_ret
              all_goals exact ⟨rfl, hB.out⟩
            | false =>
              have HT5 := Kept.mk t5
              have HT6 := Kept.mk t6
              clear t1 t3
              go_wp2_with (have hz0 := K1'; refine wpList_storeN 25 rfl (.tmp 7) (.tmp 45) rfl U.heap.size [.int .i64 (joinF F0 F1).kind, .int .i64 (joinF F0 F1).time, .int .i64 (joinF F0 F1).node, .bool (joinF F0 F1).dead, .string ⟨(joinF F0 F1).text.toArray⟩, p', m', .int .u64 ((joinF F0 F1).flags.toNat : Int)] size_va rfl rfl K1'.out rfl K2.out K5.out ?_; replace hB := Kept.mk (hB.out.trans ((K3.out).mono hB.out.size)); replace Va := Kept.mk (Va.out.keep (K3.out)); replace Vb := Kept.mk (Vb.out.keep (K3.out)); have Vj := Kept.mk K4.out.var; clear hz0 K1' K2 K3 K4 K5; generalize setN (U.alloc (.cells #[.int .i64 0, .int .i64 0, .int .i64 0, .bool false, .string ⟨#[]⟩, .slice none 0 0, .slice none 0 0, .int .u64 0] 25)) U.heap.size 0 [.int .i64 (joinF F0 F1).kind, .int .i64 (joinF F0 F1).time, .int .i64 (joinF F0 F1).node, .bool (joinF F0 F1).dead, .string ⟨(joinF F0 F1).text.toArray⟩, p', m', .int .u64 ((joinF F0 F1).flags.toNat : Int)] = W9 at *; generalize U.heap.size = gj at *; obtain ⟨qa, ra, xa, -, -, ka0, ka1, ka2, ka3, ka4, ka5, ka6, ka7⟩ := Va.out.open_; have Xa := Kept.mk xa; clear xa; obtain ⟨qb, rb, xb, -, -, kb0, kb1, kb2, kb3, kb4, kb5, kb6, kb7⟩ := Vb.out.open_; have Xb := Kept.mk xb; clear xb; obtain ⟨qj, rj, xj, -, -, kj0, kj1, kj2, kj3, kj4, kj5, kj6, kj7⟩ := Vj.out.open_; have Xj := Kept.mk xj; clear xj)
              rw [HT5.out] at Xa
              ((with_reducible refine (f_same (joinF F0 F1) F0 true _ _ _ Xj.out Xa.out (fit_join FFa.out FFb.out) FFa.out (decide_eq_true (HJ.out.1 (.inr (.inr ⟨HT2.out, HT4.out, HT5.out, HT6.out⟩))))).mono ?_); rintro e W10 ⟨rfl, hb1⟩)
              clear Xa ka0 ka1 ka2 ka3 ka4 ka5 ka6 ka7
              clear Xb kb0 kb1 kb2 kb3 kb4 kb5 kb6 kb7
              clear Xj kj0 kj1 kj2 kj3 kj4 kj5 kj6 kj7
              replace hB := Kept.mk (hB.out.trans ((hb1).mono hB.out.size))
              replace Va := Kept.mk (Va.out.keep (hb1))
              replace Vb := Kept.mk (Vb.out.keep (hb1))
              replace Vj := Kept.mk (Vj.out.keep (hb1))
              clear hb1
              go_wp2
              all_goals go_ret
              all_goals exact ⟨rfl, hB.out⟩
set_option maxRecDepth 100000 in
theorem valueLater_lifted (os : Os) (started : os.Started) (H : Type) (enc : TypeId × Value → H) :
    ReturnsInHanded {} Try.checked os 8 .any (Rows.valueLaterSpec.pre6 enc Try.prog Try.f8 Rows.valueLaterRow.domain false) (Rows.valueLaterSpec.post enc Try.prog Try.f8 false true false false) := by
  refine returnsInHanded_of_change (C := Try.checked) (by kernel_rfl : ownKnob Try.prog.godebug = none) started (by kernel_rfl) Try.func8
    (ChangeSpec.witness6 (enc := enc) (C := Try.checked) false ⟨#[], #[.agg #[.int .i64 0, .int .i64 0, .int .i64 0, .bool false, .string ByteArray.empty, .slice none 0 0, .slice none 0 0, .int .u64 0], .agg #[.int .i64 0, .int .i64 0, .int .i64 0, .bool false, .string ByteArray.empty, .slice none 0 0, .slice none 0 0, .int .u64 0]], []⟩ 8 (by kernel_rfl) (by kernel_rfl) (by kernel_rfl) (by kernel_rfl)) ?_
  intro W base args ds gs before hval0 hW hcnd _
  have hval : ∀ (j : Nat) t v, Try.f8.params[j]? = some t → args[j]? = some v → Value.okWide Try.prog W .any base t v := hval0
  have hW' := hW
  obtain ⟨p, q, hA0, hV, rfl, hfz, hnd⟩ := hW
  have hA : DataW.TrodAll enc Try.prog W 0 (fun _ => true) true Try.f8.params.toList args.toList ds p := hA0
  rw [Try.params8] at hA hval
  obtain ⟨v0, vs0, d0, ds0, p0, q0, hargs, rfl, rfl, h0, r0⟩ := trodAll_cons hA
  obtain ⟨v1, vs1, d1, ds1, p1, q1, rfl, rfl, rfl, h1, r1⟩ := trodAll_cons r0
  obtain ⟨rfl, rfl, rfl⟩ := trodAll_nil r1
  obtain rfl : args = #[v0, v1] := by cases args; simp_all
  obtain ⟨rfl, rfl⟩ := trodVars_none hV
  obtain ⟨F0, fl0, w0⟩ := open_va (hval 0 25 v0 rfl rfl) h0
  have lt0 : ∀ x ∈ p0, x.block < W.heap.size := fun x hx => by obtain ⟨fuel, hf⟩ := h0; exact DataW.trod_lt fuel _ _ _ hf x hx
  obtain ⟨F1, fl1, w1⟩ := open_va (hval 1 25 v1 rfl rfl) h1
  have lt1 : ∀ x ∈ p1, x.block < W.heap.size := fun x hx => by obtain ⟨fuel, hf⟩ := h1; exact DataW.trod_lt fuel _ _ _ hf x hx
  clear hA0 hval0
  simp only [List.append_nil] at hW'
  refine (valueLater_walk F0 v0 F1 v1 w0 w1 W fl0 fl1).mono fun e W' ⟨he, bel⟩ => ?_
  subst he
  exact ⟨_, rfl, _, _, _, [], _, [], hW', trodAll_mk1 (shut_bool Try.underlying4 _), (trodAll_cons_mk (Below.trod (by kernel_rfl) (by kernel_rfl) (of_decide_eq_true (by kernel_rfl)) h0 bel lt0) (trodAll_cons_mk (Below.trod (by kernel_rfl) (by kernel_rfl) (of_decide_eq_true (by kernel_rfl)) h1 bel lt1) trodAll_mk0)), rfl, bel.frame _, fun h => by cases h⟩
/-- THE STATEMENT. -/
theorem valueLater_proved : Rows.ValueLaterSaid :=
  OpenClaim.holds_of_wide 8 Try.f8 rfl rfl rfl rfl rfl rfl rfl ⟨rfl, rfl, rfl, rfl, rfl⟩ rfl rfl rfl rfl rfl (by kernel_rfl) Try.func8 (by kernel_rfl)
    (of_decide_eq_true (by kernel_rfl)) (by unfold Func.isWrapper; first | (rw [if_pos (by decide +kernel)]; kernel_rfl) | (rw [if_neg (by decide +kernel)]; exact ⟨rfl, rfl⟩))
    (fun os started H enc _ => valueLater_lifted os started H enc)
#print axioms valueLater_proved
end Go.Proofs.Ytnjlefciekcehaa
