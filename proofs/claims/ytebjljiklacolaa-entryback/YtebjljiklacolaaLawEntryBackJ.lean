/- What is put is got again, and nothing else is (entry.Put, Get, Same, Check). -/
import Derived.Test.YtebjljiklacolaaPartD
import Derived.SizedLaws
import Derived.ProofKit
import Derived.OpenShut
import Derived.ShutString
import Derived.ChangeOld
import Derived.Below
namespace Go.Proofs.Ytebjljiklacolaa
open Go.RowKit
open Go.ChangeShapes Go.WideShapes Go.ChangeAt Go.RowKit
open Go.ChangeMaps (open_string shut_string)
set_option linter.unusedVariables false
set_option linter.unusedSimpArgs false
attribute [local irreducible] setN

set_option maxRecDepth 100000 in
set_option maxHeartbeats 4000000 in
theorem entryBack_walk (F0 : En) (v0 : Value) (a1 : ByteArray) (w0 : CameE F0) (w1 : a1.size ≤ maxLen) (w : World) (fl0 : isEn F0 v0 w) :
    Calls Try.prog 3 #[v0, .string a1] w fun e w' => e = .returned (.bool true) ∧ Below w.heap.size w w' := by
  obtain ⟨s, hs0⟩ : ∃ s : List UInt8, a1 = ⟨s.toArray⟩ := ⟨_, str_eta a1⟩
  subst hs0
  have hsz : (⟨s.toArray⟩ : ByteArray).size = s.length := by simp [ByteArray.size]
  rw [hsz] at w1
  obtain ⟨pa, ma, rfl, hpa, hma⟩ := fl0
  obtain ⟨hB, Va⟩ := ebox w F0 pa ma hpa hma (w.heap.size) (by simp)
  clear hpa hma
  go_enter Try.func3, Try.ntmps3
  go_wp2_with fail
  generalize (w.alloc (.cells #[.string ⟨F0.key.toArray⟩, .int .i64 F0.val.kind, .int .i64 F0.val.time, .int .i64 F0.val.node, .bool F0.val.dead, .string ⟨F0.val.text.toArray⟩, pa, ma, .int .u64 (F0.val.flags.toNat : Int)] 27)) = W0 at *
  ((with_reducible refine (eworks_any _).mono ?_); rintro e W1 ⟨rfl, hb1⟩)
  replace hB := Kept.mk (hB.out.trans ((hb1).mono hB.out.size))
  replace Va := Kept.mk (Va.out.keep (hb1))
  clear hb1
  obtain ⟨qa, ra, xa, ya, ka0, ka1, ka2, ka3, ka4, ka5, ka6, ka7, ka8⟩ := Va.out.open_
  have Xa := Kept.mk xa
  have Ya := Kept.mk ya
  clear xa ya
  go_wp2_with fail
  ((with_reducible refine (efew_any F0 _ _ Xa.out w0.key).mono ?_); rintro e W2 ⟨rfl, hb1⟩)
  clear Xa Ya ka0 ka1 ka2 ka3 ka4 ka5 ka6 ka7 ka8
  replace hB := Kept.mk (hB.out.trans ((hb1).mono hB.out.size))
  replace Va := Kept.mk (Va.out.keep (hb1))
  clear hb1
  cases fa : fewE F0 with
  | false =>
    go_wp2
    all_goals go_ret
    all_goals exact ⟨rfl, hB.out⟩
  | true =>
    have FFa := Kept.mk (fewE_fit fa)
    clear fa
    by_cases h100 : 100 < s.length
    · have d1 : decide ((100 : Int) < (s.length : Int)) = true := by simp; omega
      go_wp2
      all_goals go_ret
      all_goals exact ⟨rfl, hB.out⟩
    have d1 : decide ((100 : Int) < (s.length : Int)) = false := by simp; omega
    have hl1 : s.length ≤ 1000 := by omega
    obtain ⟨qa, ra, xa, ya, ka0, ka1, ka2, ka3, ka4, ka5, ka6, ka7, ka8⟩ := Va.out.open_
    have Xa := Kept.mk xa
    have Ya := Kept.mk ya
    clear xa ya
    go_wp2_with fail
    clear d1 hsz
    cases oa : okE F0 with
    | false =>
      ((with_reducible refine (eput_no F0 _ _ Xa.out FFa.out oa).mono ?_); rintro e W3 ⟨rfl, hb1⟩)
      clear Xa Ya ka0 ka1 ka2 ka3 ka4 ka5 ka6 ka7 ka8
      replace hB := Kept.mk (hB.out.trans ((hb1).mono hB.out.size))
      replace Va := Kept.mk (Va.out.keep (hb1))
      clear hb1
      clear oa
      go_wp2_with fail
      ((with_reducible refine (eget_no [] _ (rd_len (by decide)) (by decide)).mono ?_); rintro e U ⟨v', rfl, ⟨p', m', rfl, hp', hm', _, _⟩, hb1⟩)
      obtain ⟨K1, K2, K3, K4, K5⟩ := enew U zeroE p' m' hp' hm' U.heap.size rfl
      clear hp' hm'
      replace hB := Kept.mk (hB.out.trans ((hb1).mono hB.out.size))
      replace Va := Kept.mk (Va.out.keep (hb1))
      clear hb1
      go_wp2_with (have hz0 := K1; refine wpList_storeN 27 rfl (.tmp 9) (.tmp 36) rfl U.heap.size [.string ⟨zeroE.key.toArray⟩, .int .i64 zeroE.val.kind, .int .i64 zeroE.val.time, .int .i64 zeroE.val.node, .bool zeroE.val.dead, .string ⟨zeroE.val.text.toArray⟩, p', m', .int .u64 (zeroE.val.flags.toNat : Int)] size_en rfl rfl K1.out rfl K2.out K5.out ?_; replace hB := Kept.mk (hB.out.trans ((K3.out).mono hB.out.size)); replace Va := Kept.mk (Va.out.keep (K3.out)); have Vb := Kept.mk (show VarN _ _ zeroE from ⟨_, _, K4.out⟩); clear hz0 K1 K2 K3 K4 K5; generalize setN (U.alloc (.cells #[.string ⟨#[]⟩, .int .i64 0, .int .i64 0, .int .i64 0, .bool false, .string ⟨#[]⟩, .slice none 0 0, .slice none 0 0, .int .u64 0] 27)) U.heap.size 0 [.string ⟨zeroE.key.toArray⟩, .int .i64 zeroE.val.kind, .int .i64 zeroE.val.time, .int .i64 zeroE.val.node, .bool zeroE.val.dead, .string ⟨zeroE.val.text.toArray⟩, p', m', .int .u64 (zeroE.val.flags.toNat : Int)] = W4 at *; generalize U.heap.size = gb at *)
      cases hr : rdEn s with
      | none =>
        ((with_reducible refine (eget_no s _ hr hl1).mono ?_); rintro e U ⟨v', rfl, ⟨p', m', rfl, hp', hm', _, _⟩, hb1⟩)
        obtain ⟨K1, K2, K3, K4, K5⟩ := enew U zeroE p' m' hp' hm' U.heap.size rfl
        clear hp' hm'
        replace hB := Kept.mk (hB.out.trans ((hb1).mono hB.out.size))
        replace Va := Kept.mk (Va.out.keep (hb1))
        replace Vb := Kept.mk (Vb.out.keep (hb1))
        clear hb1
        go_wp2_with (have hz0 := K1; refine wpList_storeN 27 rfl (.tmp 11) (.tmp 66) rfl U.heap.size [.string ⟨zeroE.key.toArray⟩, .int .i64 zeroE.val.kind, .int .i64 zeroE.val.time, .int .i64 zeroE.val.node, .bool zeroE.val.dead, .string ⟨zeroE.val.text.toArray⟩, p', m', .int .u64 (zeroE.val.flags.toNat : Int)] size_en rfl rfl K1.out rfl K2.out K5.out ?_; replace hB := Kept.mk (hB.out.trans ((K3.out).mono hB.out.size)); replace Va := Kept.mk (Va.out.keep (K3.out)); replace Vb := Kept.mk (Vb.out.keep (K3.out)); have Vc := Kept.mk (show VarN _ _ zeroE from ⟨_, _, K4.out⟩); clear hz0 K1 K2 K3 K4 K5; generalize setN (U.alloc (.cells #[.string ⟨#[]⟩, .int .i64 0, .int .i64 0, .int .i64 0, .bool false, .string ⟨#[]⟩, .slice none 0 0, .slice none 0 0, .int .u64 0] 27)) U.heap.size 0 [.string ⟨zeroE.key.toArray⟩, .int .i64 zeroE.val.kind, .int .i64 zeroE.val.time, .int .i64 zeroE.val.node, .bool zeroE.val.dead, .string ⟨zeroE.val.text.toArray⟩, p', m', .int .u64 (zeroE.val.flags.toNat : Int)] = W5 at *; generalize U.heap.size = gc at *; obtain ⟨qc, rc, xc, yc, kc0, kc1, kc2, kc3, kc4, kc5, kc6, kc7, kc8⟩ := Vc.out.open_; have Xc := Kept.mk xc; have Yc := Kept.mk yc; clear xc yc)
        ((with_reducible refine (eput_no zeroE _ _ Xc.out fitE_zero (by decide)).mono ?_); rintro e W6 ⟨rfl, hb1⟩)
        clear Xc Yc kc0 kc1 kc2 kc3 kc4 kc5 kc6 kc7 kc8
        replace hB := Kept.mk (hB.out.trans ((hb1).mono hB.out.size))
        replace Va := Kept.mk (Va.out.keep (hb1))
        replace Vb := Kept.mk (Vb.out.keep (hb1))
        replace Vc := Kept.mk (Vc.out.keep (hb1))
        clear hb1
        obtain ⟨qc, rc, xc, yc, kc0, kc1, kc2, kc3, kc4, kc5, kc6, kc7, kc8⟩ := Vc.out.open_
        have Xc := Kept.mk xc
        have Yc := Kept.mk yc
        clear xc yc
        go_wp2_with fail
        ((with_reducible refine (g_same zeroE zeroE true _ _ _ Xc.out (zeroE_lit _) fitE_zero.val fitE_zero.val (by decide)).mono ?_); rintro e W7 ⟨rfl, hb1⟩)
        clear Xc Yc kc0 kc1 kc2 kc3 kc4 kc5 kc6 kc7 kc8
        replace hB := Kept.mk (hB.out.trans ((hb1).mono hB.out.size))
        replace Va := Kept.mk (Va.out.keep (hb1))
        replace Vb := Kept.mk (Vb.out.keep (hb1))
        replace Vc := Kept.mk (Vc.out.keep (hb1))
        clear hb1
        go_wp2
        all_goals go_ret
        all_goals exact ⟨rfl, hB.out⟩
      | some E =>
        have P := put_rdEn hr
        have HP := Kept.mk P
        clear P
        have FE := Kept.mk (ok_fit HP.out.1)
        ((with_reducible refine (eget_yes s E _ hr hl1).mono ?_); rintro e U ⟨v', rfl, ⟨p', m', rfl, hp', hm', _, _⟩, hb1⟩)
        obtain ⟨K1, K2, K3, K4, K5⟩ := enew U E p' m' hp' hm' U.heap.size rfl
        clear hp' hm'
        replace hB := Kept.mk (hB.out.trans ((hb1).mono hB.out.size))
        replace Va := Kept.mk (Va.out.keep (hb1))
        replace Vb := Kept.mk (Vb.out.keep (hb1))
        clear hb1
        go_wp2_with (have hz0 := K1; refine wpList_storeN 27 rfl (.tmp 11) (.tmp 66) rfl U.heap.size [.string ⟨E.key.toArray⟩, .int .i64 E.val.kind, .int .i64 E.val.time, .int .i64 E.val.node, .bool E.val.dead, .string ⟨E.val.text.toArray⟩, p', m', .int .u64 (E.val.flags.toNat : Int)] size_en rfl rfl K1.out rfl K2.out K5.out ?_; replace hB := Kept.mk (hB.out.trans ((K3.out).mono hB.out.size)); replace Va := Kept.mk (Va.out.keep (K3.out)); replace Vb := Kept.mk (Vb.out.keep (K3.out)); have Vc := Kept.mk (show VarN _ _ E from ⟨_, _, K4.out⟩); clear hz0 K1 K2 K3 K4 K5; generalize setN (U.alloc (.cells #[.string ⟨#[]⟩, .int .i64 0, .int .i64 0, .int .i64 0, .bool false, .string ⟨#[]⟩, .slice none 0 0, .slice none 0 0, .int .u64 0] 27)) U.heap.size 0 [.string ⟨E.key.toArray⟩, .int .i64 E.val.kind, .int .i64 E.val.time, .int .i64 E.val.node, .bool E.val.dead, .string ⟨E.val.text.toArray⟩, p', m', .int .u64 (E.val.flags.toNat : Int)] = W5 at *; generalize U.heap.size = gc at *; obtain ⟨qc, rc, xc, yc, kc0, kc1, kc2, kc3, kc4, kc5, kc6, kc7, kc8⟩ := Vc.out.open_; have Xc := Kept.mk xc; have Yc := Kept.mk yc; clear xc yc)
        ((with_reducible refine (eput_yes E s _ _ Xc.out FE.out HP.out.1 HP.out.2).mono ?_); rintro e W6 ⟨rfl, hb1⟩)
        clear Xc Yc kc0 kc1 kc2 kc3 kc4 kc5 kc6 kc7 kc8
        replace hB := Kept.mk (hB.out.trans ((hb1).mono hB.out.size))
        replace Va := Kept.mk (Va.out.keep (hb1))
        replace Vb := Kept.mk (Vb.out.keep (hb1))
        replace Vc := Kept.mk (Vc.out.keep (hb1))
        clear hb1
        have hss : (s == s) = true := by simp
        obtain ⟨qc, rc, xc, yc, kc0, kc1, kc2, kc3, kc4, kc5, kc6, kc7, kc8⟩ := Vc.out.open_
        have Xc := Kept.mk xc
        have Yc := Kept.mk yc
        clear xc yc
        go_wp2_with fail
        ((with_reducible refine (g_check E 0 _ _ Xc.out FE.out (chk_ok HP.out.1)).mono ?_); rintro e W7 ⟨rfl, hb1⟩)
        clear Xc Yc kc0 kc1 kc2 kc3 kc4 kc5 kc6 kc7 kc8
        replace hB := Kept.mk (hB.out.trans ((hb1).mono hB.out.size))
        replace Va := Kept.mk (Va.out.keep (hb1))
        replace Vb := Kept.mk (Vb.out.keep (hb1))
        replace Vc := Kept.mk (Vc.out.keep (hb1))
        clear hb1
        go_wp2
        all_goals go_ret
        all_goals exact ⟨rfl, hB.out⟩
    | true =>
      obtain ⟨t, ht⟩ : ∃ t, putEn F0 = t := ⟨_, rfl⟩
      have Ot := Kept.mk oa
      ((with_reducible refine (eput_yes F0 t _ _ Xa.out FFa.out oa ht).mono ?_); rintro e W3 ⟨rfl, hb1⟩)
      clear Xa Ya ka0 ka1 ka2 ka3 ka4 ka5 ka6 ka7 ka8
      replace hB := Kept.mk (hB.out.trans ((hb1).mono hB.out.size))
      replace Va := Kept.mk (Va.out.keep (hb1))
      clear hb1
      clear oa
      go_wp2_with fail
      have hlt : t.length = 42 := by rw [← ht]; exact length_putEn Ot.out
      have zt : (⟨t.toArray⟩ : ByteArray).size = 42 := by simp [ByteArray.size, hlt]
      have HG := Kept.mk (show rdEn t = some F0 by rw [← ht]; exact rd_putEn Ot.out)
      have HL := Kept.mk (show t.length ≤ 1000 by omega)
      clear ht
      ((with_reducible refine (eget_yes t F0 _ HG.out HL.out).mono ?_); rintro e U ⟨v', rfl, ⟨p', m', rfl, hp', hm', _, _⟩, hb1⟩)
      obtain ⟨K1, K2, K3, K4, K5⟩ := enew U F0 p' m' hp' hm' U.heap.size rfl
      clear hp' hm'
      replace hB := Kept.mk (hB.out.trans ((hb1).mono hB.out.size))
      replace Va := Kept.mk (Va.out.keep (hb1))
      clear hb1
      go_wp2_with (have hz0 := K1; refine wpList_storeN 27 rfl (.tmp 9) (.tmp 36) rfl U.heap.size [.string ⟨F0.key.toArray⟩, .int .i64 F0.val.kind, .int .i64 F0.val.time, .int .i64 F0.val.node, .bool F0.val.dead, .string ⟨F0.val.text.toArray⟩, p', m', .int .u64 (F0.val.flags.toNat : Int)] size_en rfl rfl K1.out rfl K2.out K5.out ?_; replace hB := Kept.mk (hB.out.trans ((K3.out).mono hB.out.size)); replace Va := Kept.mk (Va.out.keep (K3.out)); have Vb := Kept.mk (show VarN _ _ F0 from ⟨_, _, K4.out⟩); clear hz0 K1 K2 K3 K4 K5; generalize setN (U.alloc (.cells #[.string ⟨#[]⟩, .int .i64 0, .int .i64 0, .int .i64 0, .bool false, .string ⟨#[]⟩, .slice none 0 0, .slice none 0 0, .int .u64 0] 27)) U.heap.size 0 [.string ⟨F0.key.toArray⟩, .int .i64 F0.val.kind, .int .i64 F0.val.time, .int .i64 F0.val.node, .bool F0.val.dead, .string ⟨F0.val.text.toArray⟩, p', m', .int .u64 (F0.val.flags.toNat : Int)] = W4 at *; generalize U.heap.size = gb at *; obtain ⟨qa, ra, xa, ya, ka0, ka1, ka2, ka3, ka4, ka5, ka6, ka7, ka8⟩ := Va.out.open_; have Xa := Kept.mk xa; have Ya := Kept.mk ya; clear xa ya; obtain ⟨qb, rb, xb, yb, kb0, kb1, kb2, kb3, kb4, kb5, kb6, kb7, kb8⟩ := Vb.out.open_; have Xb := Kept.mk xb; have Yb := Kept.mk yb; clear xb yb)
      ((with_reducible refine (g_same F0 F0 true _ _ _ Xa.out Xb.out FFa.out.val FFa.out.val (by simp)).mono ?_); rintro e W5 ⟨rfl, hb1⟩)
      clear Xa Ya ka0 ka1 ka2 ka3 ka4 ka5 ka6 ka7 ka8
      clear Xb Yb kb0 kb1 kb2 kb3 kb4 kb5 kb6 kb7 kb8
      replace hB := Kept.mk (hB.out.trans ((hb1).mono hB.out.size))
      replace Va := Kept.mk (Va.out.keep (hb1))
      replace Vb := Kept.mk (Vb.out.keep (hb1))
      clear hb1
      go_wp2_with fail
      clear zt hlt
      cases hr : rdEn s with
      | none =>
        ((with_reducible refine (eget_no s _ hr hl1).mono ?_); rintro e U ⟨v', rfl, ⟨p', m', rfl, hp', hm', _, _⟩, hb1⟩)
        obtain ⟨K1, K2, K3, K4, K5⟩ := enew U zeroE p' m' hp' hm' U.heap.size rfl
        clear hp' hm'
        replace hB := Kept.mk (hB.out.trans ((hb1).mono hB.out.size))
        replace Va := Kept.mk (Va.out.keep (hb1))
        replace Vb := Kept.mk (Vb.out.keep (hb1))
        clear hb1
        go_wp2_with (have hz0 := K1; refine wpList_storeN 27 rfl (.tmp 11) (.tmp 66) rfl U.heap.size [.string ⟨zeroE.key.toArray⟩, .int .i64 zeroE.val.kind, .int .i64 zeroE.val.time, .int .i64 zeroE.val.node, .bool zeroE.val.dead, .string ⟨zeroE.val.text.toArray⟩, p', m', .int .u64 (zeroE.val.flags.toNat : Int)] size_en rfl rfl K1.out rfl K2.out K5.out ?_; replace hB := Kept.mk (hB.out.trans ((K3.out).mono hB.out.size)); replace Va := Kept.mk (Va.out.keep (K3.out)); replace Vb := Kept.mk (Vb.out.keep (K3.out)); have Vc := Kept.mk (show VarN _ _ zeroE from ⟨_, _, K4.out⟩); clear hz0 K1 K2 K3 K4 K5; generalize setN (U.alloc (.cells #[.string ⟨#[]⟩, .int .i64 0, .int .i64 0, .int .i64 0, .bool false, .string ⟨#[]⟩, .slice none 0 0, .slice none 0 0, .int .u64 0] 27)) U.heap.size 0 [.string ⟨zeroE.key.toArray⟩, .int .i64 zeroE.val.kind, .int .i64 zeroE.val.time, .int .i64 zeroE.val.node, .bool zeroE.val.dead, .string ⟨zeroE.val.text.toArray⟩, p', m', .int .u64 (zeroE.val.flags.toNat : Int)] = W6 at *; generalize U.heap.size = gc at *; obtain ⟨qc, rc, xc, yc, kc0, kc1, kc2, kc3, kc4, kc5, kc6, kc7, kc8⟩ := Vc.out.open_; have Xc := Kept.mk xc; have Yc := Kept.mk yc; clear xc yc)
        ((with_reducible refine (eput_no zeroE _ _ Xc.out fitE_zero (by decide)).mono ?_); rintro e W7 ⟨rfl, hb1⟩)
        clear Xc Yc kc0 kc1 kc2 kc3 kc4 kc5 kc6 kc7 kc8
        replace hB := Kept.mk (hB.out.trans ((hb1).mono hB.out.size))
        replace Va := Kept.mk (Va.out.keep (hb1))
        replace Vb := Kept.mk (Vb.out.keep (hb1))
        replace Vc := Kept.mk (Vc.out.keep (hb1))
        clear hb1
        obtain ⟨qc, rc, xc, yc, kc0, kc1, kc2, kc3, kc4, kc5, kc6, kc7, kc8⟩ := Vc.out.open_
        have Xc := Kept.mk xc
        have Yc := Kept.mk yc
        clear xc yc
        go_wp2_with fail
        ((with_reducible refine (g_same zeroE zeroE true _ _ _ Xc.out (zeroE_lit _) fitE_zero.val fitE_zero.val (by decide)).mono ?_); rintro e W8 ⟨rfl, hb1⟩)
        clear Xc Yc kc0 kc1 kc2 kc3 kc4 kc5 kc6 kc7 kc8
        replace hB := Kept.mk (hB.out.trans ((hb1).mono hB.out.size))
        replace Va := Kept.mk (Va.out.keep (hb1))
        replace Vb := Kept.mk (Vb.out.keep (hb1))
        replace Vc := Kept.mk (Vc.out.keep (hb1))
        clear hb1
        go_wp2
        all_goals go_ret
        all_goals exact ⟨rfl, hB.out⟩
      | some E =>
        have P := put_rdEn hr
        have HP := Kept.mk P
        clear P
        have FE := Kept.mk (ok_fit HP.out.1)
        ((with_reducible refine (eget_yes s E _ hr hl1).mono ?_); rintro e U ⟨v', rfl, ⟨p', m', rfl, hp', hm', _, _⟩, hb1⟩)
        obtain ⟨K1, K2, K3, K4, K5⟩ := enew U E p' m' hp' hm' U.heap.size rfl
        clear hp' hm'
        replace hB := Kept.mk (hB.out.trans ((hb1).mono hB.out.size))
        replace Va := Kept.mk (Va.out.keep (hb1))
        replace Vb := Kept.mk (Vb.out.keep (hb1))
        clear hb1
        go_wp2_with (have hz0 := K1; refine wpList_storeN 27 rfl (.tmp 11) (.tmp 66) rfl U.heap.size [.string ⟨E.key.toArray⟩, .int .i64 E.val.kind, .int .i64 E.val.time, .int .i64 E.val.node, .bool E.val.dead, .string ⟨E.val.text.toArray⟩, p', m', .int .u64 (E.val.flags.toNat : Int)] size_en rfl rfl K1.out rfl K2.out K5.out ?_; replace hB := Kept.mk (hB.out.trans ((K3.out).mono hB.out.size)); replace Va := Kept.mk (Va.out.keep (K3.out)); replace Vb := Kept.mk (Vb.out.keep (K3.out)); have Vc := Kept.mk (show VarN _ _ E from ⟨_, _, K4.out⟩); clear hz0 K1 K2 K3 K4 K5; generalize setN (U.alloc (.cells #[.string ⟨#[]⟩, .int .i64 0, .int .i64 0, .int .i64 0, .bool false, .string ⟨#[]⟩, .slice none 0 0, .slice none 0 0, .int .u64 0] 27)) U.heap.size 0 [.string ⟨E.key.toArray⟩, .int .i64 E.val.kind, .int .i64 E.val.time, .int .i64 E.val.node, .bool E.val.dead, .string ⟨E.val.text.toArray⟩, p', m', .int .u64 (E.val.flags.toNat : Int)] = W6 at *; generalize U.heap.size = gc at *; obtain ⟨qc, rc, xc, yc, kc0, kc1, kc2, kc3, kc4, kc5, kc6, kc7, kc8⟩ := Vc.out.open_; have Xc := Kept.mk xc; have Yc := Kept.mk yc; clear xc yc)
        ((with_reducible refine (eput_yes E s _ _ Xc.out FE.out HP.out.1 HP.out.2).mono ?_); rintro e W7 ⟨rfl, hb1⟩)
        clear Xc Yc kc0 kc1 kc2 kc3 kc4 kc5 kc6 kc7 kc8
        replace hB := Kept.mk (hB.out.trans ((hb1).mono hB.out.size))
        replace Va := Kept.mk (Va.out.keep (hb1))
        replace Vb := Kept.mk (Vb.out.keep (hb1))
        replace Vc := Kept.mk (Vc.out.keep (hb1))
        clear hb1
        have hss : (s == s) = true := by simp
        obtain ⟨qc, rc, xc, yc, kc0, kc1, kc2, kc3, kc4, kc5, kc6, kc7, kc8⟩ := Vc.out.open_
        have Xc := Kept.mk xc
        have Yc := Kept.mk yc
        clear xc yc
        go_wp2_with fail
        ((with_reducible refine (g_check E 0 _ _ Xc.out FE.out (chk_ok HP.out.1)).mono ?_); rintro e W8 ⟨rfl, hb1⟩)
        clear Xc Yc kc0 kc1 kc2 kc3 kc4 kc5 kc6 kc7 kc8
        replace hB := Kept.mk (hB.out.trans ((hb1).mono hB.out.size))
        replace Va := Kept.mk (Va.out.keep (hb1))
        replace Vb := Kept.mk (Vb.out.keep (hb1))
        replace Vc := Kept.mk (Vc.out.keep (hb1))
        clear hb1
        go_wp2
        all_goals go_ret
        all_goals exact ⟨rfl, hB.out⟩
set_option maxRecDepth 100000 in
theorem entryBack_lifted (os : Os) (started : os.Started) (H : Type) (enc : TypeId × Value → H) :
    ReturnsInHanded {} Try.checked os 3 .any (Rows.entryBackSpec.pre6 enc Try.prog Try.f3 Rows.entryBackRow.domain false) (Rows.entryBackSpec.post enc Try.prog Try.f3 false true false false) := by
  refine returnsInHanded_of_change (C := Try.checked) (by kernel_rfl : ownKnob Try.prog.godebug = none) started (by kernel_rfl) Try.func3
    (ChangeSpec.witness6 (enc := enc) (C := Try.checked) false ⟨#[], #[.agg #[.string ByteArray.empty, .int .i64 0, .int .i64 0, .int .i64 0, .bool false, .string ByteArray.empty, .slice none 0 0, .slice none 0 0, .int .u64 0], .string ByteArray.empty], []⟩ 8 (by kernel_rfl) (by kernel_rfl) (by kernel_rfl) (by kernel_rfl)) ?_
  intro W base args ds gs before hval0 hW hcnd _
  have hval : ∀ (j : Nat) t v, Try.f3.params[j]? = some t → args[j]? = some v → Value.okWide Try.prog W .any base t v := hval0
  have hW' := hW
  obtain ⟨p, q, hA0, hV, rfl, hfz, hnd⟩ := hW
  have hA : DataW.TrodAll enc Try.prog W 0 (fun _ => true) true Try.f3.params.toList args.toList ds p := hA0
  rw [Try.params3] at hA hval
  obtain ⟨v0, vs0, d0, ds0, p0, q0, hargs, rfl, rfl, h0, r0⟩ := trodAll_cons hA
  obtain ⟨v1, vs1, d1, ds1, p1, q1, rfl, rfl, rfl, h1, r1⟩ := trodAll_cons r0
  obtain ⟨rfl, rfl, rfl⟩ := trodAll_nil r1
  obtain rfl : args = #[v0, v1] := by cases args; simp_all
  obtain ⟨rfl, rfl⟩ := trodVars_none hV
  obtain ⟨F0, fl0, w0⟩ := open_en (hval 0 27 v0 rfl rfl) h0
  have lt0 : ∀ x ∈ p0, x.block < W.heap.size := fun x hx => by obtain ⟨fuel, hf⟩ := h0; exact DataW.trod_lt fuel _ _ _ hf x hx
  obtain ⟨a1, rfl, rfl, rfl, w1⟩ := open_string Try.underlying9 (hval 1 9 v1 rfl rfl) h1
  clear hA0 hval0
  simp only [List.append_nil] at hW'
  refine (entryBack_walk F0 v0 a1 w0 w1 W fl0).mono fun e W' ⟨he, bel⟩ => ?_
  subst he
  exact ⟨_, rfl, _, _, _, [], _, [], hW', trodAll_mk1 (shut_bool Try.underlying4 _), (trodAll_cons_mk (Below.trod (by kernel_rfl) (by kernel_rfl) (of_decide_eq_true (by kernel_rfl)) h0 bel lt0) (trodAll_cons_mk (shut_string Try.underlying9 w1) trodAll_mk0)), rfl, bel.frame _, fun h => by cases h⟩
/-- THE STATEMENT. -/
theorem entryBack_proved : Rows.EntryBackSaid :=
  OpenClaim.holds_of_wide 3 Try.f3 rfl rfl rfl rfl rfl rfl rfl ⟨rfl, rfl, rfl, rfl, rfl⟩ rfl rfl rfl rfl rfl (by kernel_rfl) Try.func3 (by kernel_rfl)
    (of_decide_eq_true (by kernel_rfl)) (by unfold Func.isWrapper; first | (rw [if_pos (by decide +kernel)]; kernel_rfl) | (rw [if_neg (by decide +kernel)]; exact ⟨rfl, rfl⟩))
    (fun os started H enc _ => entryBack_lifted os started H enc)
#print axioms entryBack_proved
end Go.Proofs.Ytebjljiklacolaa
