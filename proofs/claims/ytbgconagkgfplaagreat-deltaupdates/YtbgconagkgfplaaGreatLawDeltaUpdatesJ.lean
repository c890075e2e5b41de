/- The delta of any update of any arena is what the document says (delta.Put, Delete, Add, Set). -/
import Derived.Test.YtbgconagkgfplaaGreatPartH
import Derived.SizedLaws
import Derived.ProofKit
import Derived.OpenShut
import Derived.ShutString
import Derived.ChangeOld
import Derived.Below
namespace Go.Proofs.YtbgconagkgfplaaGreat
open Go.RowKit
open Go.ChangeShapes Go.WideShapes Go.ChangeAt Go.RowKit
open Go.ChangeMaps (open_string shut_string)
set_option linter.unusedVariables false
set_option linter.unusedSimpArgs false
attribute [local irreducible] setN

theorem u64_of {a : Int} (h : (Lit.int .u64 a).wf = true) : ∃ X : UInt64, a = (X.toNat : Int) := by
  have b := wf_u64 h
  refine ⟨UInt64.ofNat a.toNat, ?_⟩
  rw [UInt64.toNat_ofNat_of_lt' (by show a.toNat < 18446744073709551616; omega)]
  omega
theorem gr_put (A : Ar) (node : Int) (key text : List UInt8) (r : Int) (G : En) (v : Value) (w : World) (hv : isAr A v w) (hF : FitA A) (hk : key.length ≤ 1000) (ht : text.length ≤ 1000) (hr : putDE A node key text = r) (hG : putDF A node key text = G) : Calls Tryz.prog 21 #[v, .int .i64 node, .string ⟨key.toArray⟩, .string ⟨text.toArray⟩] w fun e w' => ∃ v', e = .returned (.tuple #[v', .int .i64 r]) ∧ isEn G v' w' ∧ Below w.heap.size w w' := by subst hr hG; exact rputD A node key text v w hv hF hk ht
theorem gr_del (A : Ar) (node : Int) (key : List UInt8) (r : Int) (G : En) (v : Value) (w : World) (hv : isAr A v w) (hF : FitA A) (hk : key.length ≤ 1000) (hr : delDE A node key = r) (hG : delDF A node key = G) : Calls Tryz.prog 23 #[v, .int .i64 node, .string ⟨key.toArray⟩] w fun e w' => ∃ v', e = .returned (.tuple #[v', .int .i64 r]) ∧ isEn G v' w' ∧ Below w.heap.size w w' := by subst hr hG; exact rdelD A node key v w hv hF hk
theorem gr_add (A : Ar) (node : Int) (key : List UInt8) (n : Int) (r : Int) (G : En) (v : Value) (w : World) (hv : isAr A v w) (hF : FitA A) (hk : key.length ≤ 1000) (hr : addDE A node key n = r) (hG : addDF A node key n = G) : Calls Tryz.prog 25 #[v, .int .i64 node, .string ⟨key.toArray⟩, .int .i64 n] w fun e w' => ∃ v', e = .returned (.tuple #[v', .int .i64 r]) ∧ isEn G v' w' ∧ Below w.heap.size w w' := by subst hr hG; exact raddD A node key n v w hv hF hk
theorem gr_set (A : Ar) (key : List UInt8) (flags : UInt64) (r : Int) (G : En) (v : Value) (w : World) (hv : isAr A v w) (hF : FitA A) (hk : key.length ≤ 1000) (hr : setDE A key = r) (hG : setDF A key flags = G) : Calls Tryz.prog 27 #[v, .string ⟨key.toArray⟩, .int .u64 (flags.toNat : Int)] w fun e w' => ∃ v', e = .returned (.tuple #[v', .int .i64 r]) ∧ isEn G v' w' ∧ Below w.heap.size w w' := by subst hr hG; exact rsetD A key flags v w hv hF hk
theorem rsame1 (G : En) (v u : Value) (w : World) (hv : isEn G v w) (hu : isEn G u w) (hF : FitE G) : Calls Tryz.prog 28 #[v, u] w fun e w' => e = .returned (.bool true) ∧ Below w.heap.size w w' := by
  have h := resame_any G G v u w hv hu hF.val hF.val
  rwa [show decide (G = G) = true by simp] at h
theorem put_fit (A : Ar) (node : Int) (key text : List UInt8) : FitE (putDF A node key text) := by
  by_cases h : putDE A node key text = 0
  · exact (put_facts h).1
  · unfold putDF; rw [if_neg h]; exact zeroE_fit
theorem del_fit (A : Ar) (node : Int) (key : List UInt8) : FitE (delDF A node key) := by
  by_cases h : delDE A node key = 0
  · exact (del_facts h).1
  · unfold delDF; rw [if_neg h]; exact zeroE_fit
theorem add_fit (A : Ar) (node : Int) (key : List UInt8) (n : Int) : FitE (addDF A node key n) := by
  by_cases h : addDE A node key n = 0
  · exact (add_facts h).1
  · unfold addDF; rw [if_neg h]; exact zeroE_fit
theorem set_fit (A : Ar) (key : List UInt8) (flags : UInt64) : FitE (setDF A key flags) := by
  by_cases h : setDE A key = 0
  · exact (set_facts flags h).1
  · unfold setDF; rw [if_neg h]; exact zeroE_fit
set_option maxRecDepth 100000 in
set_option maxHeartbeats 4000000 in
theorem deltaUpdates_walk (F0 : Ar) (v0 : Value) (a1 : Int) (a2 a3 : ByteArray) (a4 a5 : Int) (w0 : CameA F0) (w1 : (Lit.int .i64 a1).wf = true) (w2 : a2.size ≤ maxLen) (w3 : a3.size ≤ maxLen) (w4 : (Lit.int .i64 a4).wf = true) (w5 : (Lit.int .u64 a5).wf = true) (w : World) (fl0 : isAr F0 v0 w) :
    Calls Tryz.prog 4 #[v0, .int .i64 a1, .string a2, .string a3, .int .i64 a4, .int .u64 a5] w fun e w' => e = .returned (.bool true) ∧ Below w.heap.size w w' := by
  rw [str_eta a2, str_eta a3]
  generalize a2.data.toList = K
  generalize a3.data.toList = X
  obtain ⟨fl, rfl⟩ := u64_of w5
  obtain ⟨pa, ma, rfl, hpa, hma⟩ := fl0
  obtain ⟨hB, Va⟩ := abox w F0 pa ma hpa hma (w.heap.size) (by simp)
  clear hpa hma
  go_enter Tryz.func4, Tryz.ntmps4
  go_wp2_with fail
  generalize (w.alloc (.cells #[.int .i64 F0.cap, pa, ma] 25)) = W0 at *
  ((with_reducible refine (dworks_any _).mono ?_); rintro e W1 ⟨rfl, hb1⟩)
  replace hB := Kept.mk (hB.out.trans ((hb1).mono hB.out.size))
  replace Va := Kept.mk (Va.out.keep (hb1))
  clear hb1
  obtain ⟨qa, ra, xa, sa, ia, ka0, ka1, ka2⟩ := Va.out.open_
  have Xa := Kept.mk xa
  have Sa := Kept.mk sa
  have Ia := Kept.mk ia
  clear xa sa ia
  go_wp2_with fail
  ((with_reducible refine (afew_any F0 _ _ Xa.out (CameA.keys w0) w0.slots w0.index).mono ?_); rintro e W2 ⟨rfl, hb1⟩)
  clear Xa Sa Ia ka0 ka1 ka2
  replace hB := Kept.mk (hB.out.trans ((hb1).mono hB.out.size))
  replace Va := Kept.mk (Va.out.keep (hb1))
  clear hb1
  cases fa : fewA F0 with
  | false =>
    go_wp2
    all_goals go_ret
    all_goals exact ⟨rfl, hB.out⟩
  | true =>
    have FFa := Kept.mk (fewA_fit fa)
    have KFa := Kept.mk fa
    clear fa
    by_cases h0 : 100 < K.length
    · skip
      have c0 : decide (100 < (K.length : Int)) = true := by simp; omega
      go_wp2
      all_goals go_ret
      all_goals exact ⟨rfl, hB.out⟩
    · skip
      have c0 : decide (100 < (K.length : Int)) = false := by simp; omega
      by_cases h1 : 100 < X.length
      · skip
        have c1 : decide (100 < (X.length : Int)) = true := by simp; omega
        go_wp2
        all_goals go_ret
        all_goals exact ⟨rfl, hB.out⟩
      · skip
        have c1 : decide (100 < (X.length : Int)) = false := by simp; omega
        have g0 : K.length ≤ 1000 := by omega
        have g1 : X.length ≤ 1000 := by omega
        obtain ⟨ep, hep⟩ : ∃ r : Int, putDE F0 a1 K X = r := ⟨_, rfl⟩
        obtain ⟨Gp, hGp⟩ : ∃ r : En, putDF F0 a1 K X = r := ⟨_, rfl⟩
        have Hep := Kept.mk hep
        have HGp := Kept.mk hGp
        have FGp := Kept.mk (show FitE Gp by rw [← hGp]; exact put_fit _ _ _ _)
        clear hep hGp
        obtain ⟨ed, hed⟩ : ∃ r : Int, delDE F0 a1 K = r := ⟨_, rfl⟩
        obtain ⟨Gd, hGd⟩ : ∃ r : En, delDF F0 a1 K = r := ⟨_, rfl⟩
        have Hed := Kept.mk hed
        have HGd := Kept.mk hGd
        have FGd := Kept.mk (show FitE Gd by rw [← hGd]; exact del_fit _ _ _)
        clear hed hGd
        obtain ⟨et, het⟩ : ∃ r : Int, addDE F0 a1 K a4 = r := ⟨_, rfl⟩
        obtain ⟨Gt, hGt⟩ : ∃ r : En, addDF F0 a1 K a4 = r := ⟨_, rfl⟩
        have Het := Kept.mk het
        have HGt := Kept.mk hGt
        have FGt := Kept.mk (show FitE Gt by rw [← hGt]; exact add_fit _ _ _ _)
        clear het hGt
        obtain ⟨es, hes⟩ : ∃ r : Int, setDE F0 K = r := ⟨_, rfl⟩
        obtain ⟨Gs, hGs⟩ : ∃ r : En, setDF F0 K fl = r := ⟨_, rfl⟩
        have Hes := Kept.mk hes
        have HGs := Kept.mk hGs
        have FGs := Kept.mk (show FitE Gs by rw [← hGs]; exact set_fit _ _ _)
        clear hes hGs
        obtain ⟨qa, ra, xa, sa, ia, ka0, ka1, ka2⟩ := Va.out.open_
        have Xa := Kept.mk xa
        have Sa := Kept.mk sa
        have Ia := Kept.mk ia
        clear xa sa ia
        go_wp2_with fail
        clear c0 c1 h0 h1
        ((with_reducible refine (gd_put F0 a1 K X ep Gp _ _ Xa.out FFa.out g0 g1 Hep.out HGp.out).mono ?_); rintro e U ⟨v', rfl, ⟨p', m', rfl, hp', hm'⟩, hb1⟩)
        obtain ⟨K1, K2, K3, K4, K5⟩ := enew U Gp p' m' hp' hm' U.heap.size rfl
        clear hp' hm'
        clear Xa Sa Ia ka0 ka1 ka2
        replace hB := Kept.mk (hB.out.trans ((hb1).mono hB.out.size))
        replace Va := Kept.mk (Va.out.keep (hb1))
        clear hb1
        go_wp2_with (have hz0 := K1; refine wpList_storeN 30 rfl (.tmp 15) (.tmp 57) rfl U.heap.size [.string ⟨Gp.key.toArray⟩, .int .i64 Gp.val.kind, .int .i64 Gp.val.time, .int .i64 Gp.val.node, .bool Gp.val.dead, .string ⟨Gp.val.text.toArray⟩, p', m', .int .u64 (Gp.val.flags.toNat : Int)] size_en rfl rfl K1.out rfl K2.out K5.out ?_; replace hB := Kept.mk (hB.out.trans ((K3.out).mono hB.out.size)); replace Va := Kept.mk (Va.out.keep (K3.out)); have Vp1 := Kept.mk (show VarN _ _ Gp from ⟨_, _, K4.out⟩); clear hz0 K1 K2 K3 K4 K5; generalize setN (U.alloc (.cells #[.string ⟨#[]⟩, .int .i64 0, .int .i64 0, .int .i64 0, .bool false, .string ⟨#[]⟩, .slice none 0 0, .slice none 0 0, .int .u64 0] 30)) U.heap.size 0 [.string ⟨Gp.key.toArray⟩, .int .i64 Gp.val.kind, .int .i64 Gp.val.time, .int .i64 Gp.val.node, .bool Gp.val.dead, .string ⟨Gp.val.text.toArray⟩, p', m', .int .u64 (Gp.val.flags.toNat : Int)] = W3 at *; generalize U.heap.size = gp1 at *; obtain ⟨qa, ra, xa, sa, ia, ka0, ka1, ka2⟩ := Va.out.open_; have Xa := Kept.mk xa; have Sa := Kept.mk sa; have Ia := Kept.mk ia; clear xa sa ia)
        ((with_reducible refine (gr_put F0 a1 K X ep Gp _ _ Xa.out FFa.out g0 g1 Hep.out HGp.out).mono ?_); rintro e U ⟨v', rfl, ⟨p', m', rfl, hp', hm'⟩, hb1⟩)
        obtain ⟨K1, K2, K3, K4, K5⟩ := enew U Gp p' m' hp' hm' U.heap.size rfl
        clear hp' hm'
        clear Xa Sa Ia ka0 ka1 ka2
        replace hB := Kept.mk (hB.out.trans ((hb1).mono hB.out.size))
        replace Va := Kept.mk (Va.out.keep (hb1))
        replace Vp1 := Kept.mk (Vp1.out.keep (hb1))
        clear hb1
        go_wp2_with (have hz0 := K1; refine wpList_storeN 30 rfl (.tmp 17) (.tmp 65) rfl U.heap.size [.string ⟨Gp.key.toArray⟩, .int .i64 Gp.val.kind, .int .i64 Gp.val.time, .int .i64 Gp.val.node, .bool Gp.val.dead, .string ⟨Gp.val.text.toArray⟩, p', m', .int .u64 (Gp.val.flags.toNat : Int)] size_en rfl rfl K1.out rfl K2.out K5.out ?_; replace hB := Kept.mk (hB.out.trans ((K3.out).mono hB.out.size)); replace Va := Kept.mk (Va.out.keep (K3.out)); replace Vp1 := Kept.mk (Vp1.out.keep (K3.out)); have Vp2 := Kept.mk (show VarN _ _ Gp from ⟨_, _, K4.out⟩); clear hz0 K1 K2 K3 K4 K5; generalize setN (U.alloc (.cells #[.string ⟨#[]⟩, .int .i64 0, .int .i64 0, .int .i64 0, .bool false, .string ⟨#[]⟩, .slice none 0 0, .slice none 0 0, .int .u64 0] 30)) U.heap.size 0 [.string ⟨Gp.key.toArray⟩, .int .i64 Gp.val.kind, .int .i64 Gp.val.time, .int .i64 Gp.val.node, .bool Gp.val.dead, .string ⟨Gp.val.text.toArray⟩, p', m', .int .u64 (Gp.val.flags.toNat : Int)] = W4 at *; generalize U.heap.size = gp2 at *; obtain ⟨qa, ra, xa, sa, ia, ka0, ka1, ka2⟩ := Va.out.open_; have Xa := Kept.mk xa; have Sa := Kept.mk sa; have Ia := Kept.mk ia; clear xa sa ia)
        ((with_reducible refine (gd_del F0 a1 K ed Gd _ _ Xa.out FFa.out g0 Hed.out HGd.out).mono ?_); rintro e U ⟨v', rfl, ⟨p', m', rfl, hp', hm'⟩, hb1⟩)
        obtain ⟨K1, K2, K3, K4, K5⟩ := enew U Gd p' m' hp' hm' U.heap.size rfl
        clear hp' hm'
        clear Xa Sa Ia ka0 ka1 ka2
        replace hB := Kept.mk (hB.out.trans ((hb1).mono hB.out.size))
        replace Va := Kept.mk (Va.out.keep (hb1))
        replace Vp1 := Kept.mk (Vp1.out.keep (hb1))
        replace Vp2 := Kept.mk (Vp2.out.keep (hb1))
        clear hb1
        go_wp2_with (have hz0 := K1; refine wpList_storeN 30 rfl (.tmp 19) (.tmp 72) rfl U.heap.size [.string ⟨Gd.key.toArray⟩, .int .i64 Gd.val.kind, .int .i64 Gd.val.time, .int .i64 Gd.val.node, .bool Gd.val.dead, .string ⟨Gd.val.text.toArray⟩, p', m', .int .u64 (Gd.val.flags.toNat : Int)] size_en rfl rfl K1.out rfl K2.out K5.out ?_; replace hB := Kept.mk (hB.out.trans ((K3.out).mono hB.out.size)); replace Va := Kept.mk (Va.out.keep (K3.out)); replace Vp1 := Kept.mk (Vp1.out.keep (K3.out)); replace Vp2 := Kept.mk (Vp2.out.keep (K3.out)); have Vd1 := Kept.mk (show VarN _ _ Gd from ⟨_, _, K4.out⟩); clear hz0 K1 K2 K3 K4 K5; generalize setN (U.alloc (.cells #[.string ⟨#[]⟩, .int .i64 0, .int .i64 0, .int .i64 0, .bool false, .string ⟨#[]⟩, .slice none 0 0, .slice none 0 0, .int .u64 0] 30)) U.heap.size 0 [.string ⟨Gd.key.toArray⟩, .int .i64 Gd.val.kind, .int .i64 Gd.val.time, .int .i64 Gd.val.node, .bool Gd.val.dead, .string ⟨Gd.val.text.toArray⟩, p', m', .int .u64 (Gd.val.flags.toNat : Int)] = W5 at *; generalize U.heap.size = gd1 at *; obtain ⟨qa, ra, xa, sa, ia, ka0, ka1, ka2⟩ := Va.out.open_; have Xa := Kept.mk xa; have Sa := Kept.mk sa; have Ia := Kept.mk ia; clear xa sa ia)
        ((with_reducible refine (gr_del F0 a1 K ed Gd _ _ Xa.out FFa.out g0 Hed.out HGd.out).mono ?_); rintro e U ⟨v', rfl, ⟨p', m', rfl, hp', hm'⟩, hb1⟩)
        obtain ⟨K1, K2, K3, K4, K5⟩ := enew U Gd p' m' hp' hm' U.heap.size rfl
        clear hp' hm'
        clear Xa Sa Ia ka0 ka1 ka2
        replace hB := Kept.mk (hB.out.trans ((hb1).mono hB.out.size))
        replace Va := Kept.mk (Va.out.keep (hb1))
        replace Vp1 := Kept.mk (Vp1.out.keep (hb1))
        replace Vp2 := Kept.mk (Vp2.out.keep (hb1))
        replace Vd1 := Kept.mk (Vd1.out.keep (hb1))
        clear hb1
        go_wp2_with (have hz0 := K1; refine wpList_storeN 30 rfl (.tmp 21) (.tmp 79) rfl U.heap.size [.string ⟨Gd.key.toArray⟩, .int .i64 Gd.val.kind, .int .i64 Gd.val.time, .int .i64 Gd.val.node, .bool Gd.val.dead, .string ⟨Gd.val.text.toArray⟩, p', m', .int .u64 (Gd.val.flags.toNat : Int)] size_en rfl rfl K1.out rfl K2.out K5.out ?_; replace hB := Kept.mk (hB.out.trans ((K3.out).mono hB.out.size)); replace Va := Kept.mk (Va.out.keep (K3.out)); replace Vp1 := Kept.mk (Vp1.out.keep (K3.out)); replace Vp2 := Kept.mk (Vp2.out.keep (K3.out)); replace Vd1 := Kept.mk (Vd1.out.keep (K3.out)); have Vd2 := Kept.mk (show VarN _ _ Gd from ⟨_, _, K4.out⟩); clear hz0 K1 K2 K3 K4 K5; generalize setN (U.alloc (.cells #[.string ⟨#[]⟩, .int .i64 0, .int .i64 0, .int .i64 0, .bool false, .string ⟨#[]⟩, .slice none 0 0, .slice none 0 0, .int .u64 0] 30)) U.heap.size 0 [.string ⟨Gd.key.toArray⟩, .int .i64 Gd.val.kind, .int .i64 Gd.val.time, .int .i64 Gd.val.node, .bool Gd.val.dead, .string ⟨Gd.val.text.toArray⟩, p', m', .int .u64 (Gd.val.flags.toNat : Int)] = W6 at *; generalize U.heap.size = gd2 at *; obtain ⟨qa, ra, xa, sa, ia, ka0, ka1, ka2⟩ := Va.out.open_; have Xa := Kept.mk xa; have Sa := Kept.mk sa; have Ia := Kept.mk ia; clear xa sa ia)
        ((with_reducible refine (gd_add F0 a1 K a4 et Gt _ _ Xa.out FFa.out g0 Het.out HGt.out).mono ?_); rintro e U ⟨v', rfl, ⟨p', m', rfl, hp', hm'⟩, hb1⟩)
        obtain ⟨K1, K2, K3, K4, K5⟩ := enew U Gt p' m' hp' hm' U.heap.size rfl
        clear hp' hm'
        clear Xa Sa Ia ka0 ka1 ka2
        replace hB := Kept.mk (hB.out.trans ((hb1).mono hB.out.size))
        replace Va := Kept.mk (Va.out.keep (hb1))
        replace Vp1 := Kept.mk (Vp1.out.keep (hb1))
        replace Vp2 := Kept.mk (Vp2.out.keep (hb1))
        replace Vd1 := Kept.mk (Vd1.out.keep (hb1))
        replace Vd2 := Kept.mk (Vd2.out.keep (hb1))
        clear hb1
        go_wp2_with (have hz0 := K1; refine wpList_storeN 30 rfl (.tmp 23) (.tmp 87) rfl U.heap.size [.string ⟨Gt.key.toArray⟩, .int .i64 Gt.val.kind, .int .i64 Gt.val.time, .int .i64 Gt.val.node, .bool Gt.val.dead, .string ⟨Gt.val.text.toArray⟩, p', m', .int .u64 (Gt.val.flags.toNat : Int)] size_en rfl rfl K1.out rfl K2.out K5.out ?_; replace hB := Kept.mk (hB.out.trans ((K3.out).mono hB.out.size)); replace Va := Kept.mk (Va.out.keep (K3.out)); replace Vp1 := Kept.mk (Vp1.out.keep (K3.out)); replace Vp2 := Kept.mk (Vp2.out.keep (K3.out)); replace Vd1 := Kept.mk (Vd1.out.keep (K3.out)); replace Vd2 := Kept.mk (Vd2.out.keep (K3.out)); have Vt1 := Kept.mk (show VarN _ _ Gt from ⟨_, _, K4.out⟩); clear hz0 K1 K2 K3 K4 K5; generalize setN (U.alloc (.cells #[.string ⟨#[]⟩, .int .i64 0, .int .i64 0, .int .i64 0, .bool false, .string ⟨#[]⟩, .slice none 0 0, .slice none 0 0, .int .u64 0] 30)) U.heap.size 0 [.string ⟨Gt.key.toArray⟩, .int .i64 Gt.val.kind, .int .i64 Gt.val.time, .int .i64 Gt.val.node, .bool Gt.val.dead, .string ⟨Gt.val.text.toArray⟩, p', m', .int .u64 (Gt.val.flags.toNat : Int)] = W7 at *; generalize U.heap.size = gt1 at *; obtain ⟨qa, ra, xa, sa, ia, ka0, ka1, ka2⟩ := Va.out.open_; have Xa := Kept.mk xa; have Sa := Kept.mk sa; have Ia := Kept.mk ia; clear xa sa ia)
        ((with_reducible refine (gr_add F0 a1 K a4 et Gt _ _ Xa.out FFa.out g0 Het.out HGt.out).mono ?_); rintro e U ⟨v', rfl, ⟨p', m', rfl, hp', hm'⟩, hb1⟩)
        obtain ⟨K1, K2, K3, K4, K5⟩ := enew U Gt p' m' hp' hm' U.heap.size rfl
        clear hp' hm'
        clear Xa Sa Ia ka0 ka1 ka2
        replace hB := Kept.mk (hB.out.trans ((hb1).mono hB.out.size))
        replace Va := Kept.mk (Va.out.keep (hb1))
        replace Vp1 := Kept.mk (Vp1.out.keep (hb1))
        replace Vp2 := Kept.mk (Vp2.out.keep (hb1))
        replace Vd1 := Kept.mk (Vd1.out.keep (hb1))
        replace Vd2 := Kept.mk (Vd2.out.keep (hb1))
        replace Vt1 := Kept.mk (Vt1.out.keep (hb1))
        clear hb1
        go_wp2_with (have hz0 := K1; refine wpList_storeN 30 rfl (.tmp 25) (.tmp 95) rfl U.heap.size [.string ⟨Gt.key.toArray⟩, .int .i64 Gt.val.kind, .int .i64 Gt.val.time, .int .i64 Gt.val.node, .bool Gt.val.dead, .string ⟨Gt.val.text.toArray⟩, p', m', .int .u64 (Gt.val.flags.toNat : Int)] size_en rfl rfl K1.out rfl K2.out K5.out ?_; replace hB := Kept.mk (hB.out.trans ((K3.out).mono hB.out.size)); replace Va := Kept.mk (Va.out.keep (K3.out)); replace Vp1 := Kept.mk (Vp1.out.keep (K3.out)); replace Vp2 := Kept.mk (Vp2.out.keep (K3.out)); replace Vd1 := Kept.mk (Vd1.out.keep (K3.out)); replace Vd2 := Kept.mk (Vd2.out.keep (K3.out)); replace Vt1 := Kept.mk (Vt1.out.keep (K3.out)); have Vt2 := Kept.mk (show VarN _ _ Gt from ⟨_, _, K4.out⟩); clear hz0 K1 K2 K3 K4 K5; generalize setN (U.alloc (.cells #[.string ⟨#[]⟩, .int .i64 0, .int .i64 0, .int .i64 0, .bool false, .string ⟨#[]⟩, .slice none 0 0, .slice none 0 0, .int .u64 0] 30)) U.heap.size 0 [.string ⟨Gt.key.toArray⟩, .int .i64 Gt.val.kind, .int .i64 Gt.val.time, .int .i64 Gt.val.node, .bool Gt.val.dead, .string ⟨Gt.val.text.toArray⟩, p', m', .int .u64 (Gt.val.flags.toNat : Int)] = W8 at *; generalize U.heap.size = gt2 at *; obtain ⟨qa, ra, xa, sa, ia, ka0, ka1, ka2⟩ := Va.out.open_; have Xa := Kept.mk xa; have Sa := Kept.mk sa; have Ia := Kept.mk ia; clear xa sa ia)
        ((with_reducible refine (gd_set F0 K fl es Gs _ _ Xa.out FFa.out g0 Hes.out HGs.out).mono ?_); rintro e U ⟨v', rfl, ⟨p', m', rfl, hp', hm'⟩, hb1⟩)
        obtain ⟨K1, K2, K3, K4, K5⟩ := enew U Gs p' m' hp' hm' U.heap.size rfl
        clear hp' hm'
        clear Xa Sa Ia ka0 ka1 ka2
        replace hB := Kept.mk (hB.out.trans ((hb1).mono hB.out.size))
        replace Va := Kept.mk (Va.out.keep (hb1))
        replace Vp1 := Kept.mk (Vp1.out.keep (hb1))
        replace Vp2 := Kept.mk (Vp2.out.keep (hb1))
        replace Vd1 := Kept.mk (Vd1.out.keep (hb1))
        replace Vd2 := Kept.mk (Vd2.out.keep (hb1))
        replace Vt1 := Kept.mk (Vt1.out.keep (hb1))
        replace Vt2 := Kept.mk (Vt2.out.keep (hb1))
        clear hb1
        go_wp2_with (have hz0 := K1; refine wpList_storeN 30 rfl (.tmp 27) (.tmp 102) rfl U.heap.size [.string ⟨Gs.key.toArray⟩, .int .i64 Gs.val.kind, .int .i64 Gs.val.time, .int .i64 Gs.val.node, .bool Gs.val.dead, .string ⟨Gs.val.text.toArray⟩, p', m', .int .u64 (Gs.val.flags.toNat : Int)] size_en rfl rfl K1.out rfl K2.out K5.out ?_; replace hB := Kept.mk (hB.out.trans ((K3.out).mono hB.out.size)); replace Va := Kept.mk (Va.out.keep (K3.out)); replace Vp1 := Kept.mk (Vp1.out.keep (K3.out)); replace Vp2 := Kept.mk (Vp2.out.keep (K3.out)); replace Vd1 := Kept.mk (Vd1.out.keep (K3.out)); replace Vd2 := Kept.mk (Vd2.out.keep (K3.out)); replace Vt1 := Kept.mk (Vt1.out.keep (K3.out)); replace Vt2 := Kept.mk (Vt2.out.keep (K3.out)); have Vs1 := Kept.mk (show VarN _ _ Gs from ⟨_, _, K4.out⟩); clear hz0 K1 K2 K3 K4 K5; generalize setN (U.alloc (.cells #[.string ⟨#[]⟩, .int .i64 0, .int .i64 0, .int .i64 0, .bool false, .string ⟨#[]⟩, .slice none 0 0, .slice none 0 0, .int .u64 0] 30)) U.heap.size 0 [.string ⟨Gs.key.toArray⟩, .int .i64 Gs.val.kind, .int .i64 Gs.val.time, .int .i64 Gs.val.node, .bool Gs.val.dead, .string ⟨Gs.val.text.toArray⟩, p', m', .int .u64 (Gs.val.flags.toNat : Int)] = W9 at *; generalize U.heap.size = gs1 at *; obtain ⟨qa, ra, xa, sa, ia, ka0, ka1, ka2⟩ := Va.out.open_; have Xa := Kept.mk xa; have Sa := Kept.mk sa; have Ia := Kept.mk ia; clear xa sa ia)
        ((with_reducible refine (gr_set F0 K fl es Gs _ _ Xa.out FFa.out g0 Hes.out HGs.out).mono ?_); rintro e U ⟨v', rfl, ⟨p', m', rfl, hp', hm'⟩, hb1⟩)
        obtain ⟨K1, K2, K3, K4, K5⟩ := enew U Gs p' m' hp' hm' U.heap.size rfl
        clear hp' hm'
        clear Xa Sa Ia ka0 ka1 ka2
        replace hB := Kept.mk (hB.out.trans ((hb1).mono hB.out.size))
        replace Va := Kept.mk (Va.out.keep (hb1))
        replace Vp1 := Kept.mk (Vp1.out.keep (hb1))
        replace Vp2 := Kept.mk (Vp2.out.keep (hb1))
        replace Vd1 := Kept.mk (Vd1.out.keep (hb1))
        replace Vd2 := Kept.mk (Vd2.out.keep (hb1))
        replace Vt1 := Kept.mk (Vt1.out.keep (hb1))
        replace Vt2 := Kept.mk (Vt2.out.keep (hb1))
        replace Vs1 := Kept.mk (Vs1.out.keep (hb1))
        clear hb1
        go_wp2_with (have hz0 := K1; refine wpList_storeN 30 rfl (.tmp 29) (.tmp 109) rfl U.heap.size [.string ⟨Gs.key.toArray⟩, .int .i64 Gs.val.kind, .int .i64 Gs.val.time, .int .i64 Gs.val.node, .bool Gs.val.dead, .string ⟨Gs.val.text.toArray⟩, p', m', .int .u64 (Gs.val.flags.toNat : Int)] size_en rfl rfl K1.out rfl K2.out K5.out ?_; replace hB := Kept.mk (hB.out.trans ((K3.out).mono hB.out.size)); replace Va := Kept.mk (Va.out.keep (K3.out)); replace Vp1 := Kept.mk (Vp1.out.keep (K3.out)); replace Vp2 := Kept.mk (Vp2.out.keep (K3.out)); replace Vd1 := Kept.mk (Vd1.out.keep (K3.out)); replace Vd2 := Kept.mk (Vd2.out.keep (K3.out)); replace Vt1 := Kept.mk (Vt1.out.keep (K3.out)); replace Vt2 := Kept.mk (Vt2.out.keep (K3.out)); replace Vs1 := Kept.mk (Vs1.out.keep (K3.out)); have Vs2 := Kept.mk (show VarN _ _ Gs from ⟨_, _, K4.out⟩); clear hz0 K1 K2 K3 K4 K5; generalize setN (U.alloc (.cells #[.string ⟨#[]⟩, .int .i64 0, .int .i64 0, .int .i64 0, .bool false, .string ⟨#[]⟩, .slice none 0 0, .slice none 0 0, .int .u64 0] 30)) U.heap.size 0 [.string ⟨Gs.key.toArray⟩, .int .i64 Gs.val.kind, .int .i64 Gs.val.time, .int .i64 Gs.val.node, .bool Gs.val.dead, .string ⟨Gs.val.text.toArray⟩, p', m', .int .u64 (Gs.val.flags.toNat : Int)] = W10 at *; generalize U.heap.size = gs2 at *; obtain ⟨qp1, rp1, xp1, yp1, kp10, kp11, kp12, kp13, kp14, kp15, kp16, kp17, kp18⟩ := Vp1.out.open_; have Xp1 := Kept.mk xp1; have Yp1 := Kept.mk yp1; clear xp1 yp1; obtain ⟨qp2, rp2, xp2, yp2, kp20, kp21, kp22, kp23, kp24, kp25, kp26, kp27, kp28⟩ := Vp2.out.open_; have Xp2 := Kept.mk xp2; have Yp2 := Kept.mk yp2; clear xp2 yp2)
        ((with_reducible refine (rsame1 Gp _ _ _ Xp1.out Xp2.out FGp.out).mono ?_); rintro e W11 ⟨rfl, hb1⟩)
        clear Xp1 Yp1 kp10 kp11 kp12 kp13 kp14 kp15 kp16 kp17 kp18
        clear Xp2 Yp2 kp20 kp21 kp22 kp23 kp24 kp25 kp26 kp27 kp28
        replace hB := Kept.mk (hB.out.trans ((hb1).mono hB.out.size))
        replace Va := Kept.mk (Va.out.keep (hb1))
        replace Vp1 := Kept.mk (Vp1.out.keep (hb1))
        replace Vp2 := Kept.mk (Vp2.out.keep (hb1))
        replace Vd1 := Kept.mk (Vd1.out.keep (hb1))
        replace Vd2 := Kept.mk (Vd2.out.keep (hb1))
        replace Vt1 := Kept.mk (Vt1.out.keep (hb1))
        replace Vt2 := Kept.mk (Vt2.out.keep (hb1))
        replace Vs1 := Kept.mk (Vs1.out.keep (hb1))
        replace Vs2 := Kept.mk (Vs2.out.keep (hb1))
        clear hb1
        obtain ⟨qd1, rd1, xd1, yd1, kd10, kd11, kd12, kd13, kd14, kd15, kd16, kd17, kd18⟩ := Vd1.out.open_
        have Xd1 := Kept.mk xd1
        have Yd1 := Kept.mk yd1
        clear xd1 yd1
        obtain ⟨qd2, rd2, xd2, yd2, kd20, kd21, kd22, kd23, kd24, kd25, kd26, kd27, kd28⟩ := Vd2.out.open_
        have Xd2 := Kept.mk xd2
        have Yd2 := Kept.mk yd2
        clear xd2 yd2
        go_wp2_with fail
        ((with_reducible refine (rsame1 Gd _ _ _ Xd1.out Xd2.out FGd.out).mono ?_); rintro e W12 ⟨rfl, hb1⟩)
        clear Xd1 Yd1 kd10 kd11 kd12 kd13 kd14 kd15 kd16 kd17 kd18
        clear Xd2 Yd2 kd20 kd21 kd22 kd23 kd24 kd25 kd26 kd27 kd28
        replace hB := Kept.mk (hB.out.trans ((hb1).mono hB.out.size))
        replace Va := Kept.mk (Va.out.keep (hb1))
        replace Vp1 := Kept.mk (Vp1.out.keep (hb1))
        replace Vp2 := Kept.mk (Vp2.out.keep (hb1))
        replace Vd1 := Kept.mk (Vd1.out.keep (hb1))
        replace Vd2 := Kept.mk (Vd2.out.keep (hb1))
        replace Vt1 := Kept.mk (Vt1.out.keep (hb1))
        replace Vt2 := Kept.mk (Vt2.out.keep (hb1))
        replace Vs1 := Kept.mk (Vs1.out.keep (hb1))
        replace Vs2 := Kept.mk (Vs2.out.keep (hb1))
        clear hb1
        obtain ⟨qt1, rt1, xt1, yt1, kt10, kt11, kt12, kt13, kt14, kt15, kt16, kt17, kt18⟩ := Vt1.out.open_
        have Xt1 := Kept.mk xt1
        have Yt1 := Kept.mk yt1
        clear xt1 yt1
        obtain ⟨qt2, rt2, xt2, yt2, kt20, kt21, kt22, kt23, kt24, kt25, kt26, kt27, kt28⟩ := Vt2.out.open_
        have Xt2 := Kept.mk xt2
        have Yt2 := Kept.mk yt2
        clear xt2 yt2
        go_wp2_with fail
        ((with_reducible refine (rsame1 Gt _ _ _ Xt1.out Xt2.out FGt.out).mono ?_); rintro e W13 ⟨rfl, hb1⟩)
        clear Xt1 Yt1 kt10 kt11 kt12 kt13 kt14 kt15 kt16 kt17 kt18
        clear Xt2 Yt2 kt20 kt21 kt22 kt23 kt24 kt25 kt26 kt27 kt28
        replace hB := Kept.mk (hB.out.trans ((hb1).mono hB.out.size))
        replace Va := Kept.mk (Va.out.keep (hb1))
        replace Vp1 := Kept.mk (Vp1.out.keep (hb1))
        replace Vp2 := Kept.mk (Vp2.out.keep (hb1))
        replace Vd1 := Kept.mk (Vd1.out.keep (hb1))
        replace Vd2 := Kept.mk (Vd2.out.keep (hb1))
        replace Vt1 := Kept.mk (Vt1.out.keep (hb1))
        replace Vt2 := Kept.mk (Vt2.out.keep (hb1))
        replace Vs1 := Kept.mk (Vs1.out.keep (hb1))
        replace Vs2 := Kept.mk (Vs2.out.keep (hb1))
        clear hb1
        obtain ⟨qs1, rs1, xs1, ys1, ks10, ks11, ks12, ks13, ks14, ks15, ks16, ks17, ks18⟩ := Vs1.out.open_
        have Xs1 := Kept.mk xs1
        have Ys1 := Kept.mk ys1
        clear xs1 ys1
        obtain ⟨qs2, rs2, xs2, ys2, ks20, ks21, ks22, ks23, ks24, ks25, ks26, ks27, ks28⟩ := Vs2.out.open_
        have Xs2 := Kept.mk xs2
        have Ys2 := Kept.mk ys2
        clear xs2 ys2
        go_wp2_with fail
        ((with_reducible refine (rsame1 Gs _ _ _ Xs1.out Xs2.out FGs.out).mono ?_); rintro e W14 ⟨rfl, hb1⟩)
        clear Xs1 Ys1 ks10 ks11 ks12 ks13 ks14 ks15 ks16 ks17 ks18
        clear Xs2 Ys2 ks20 ks21 ks22 ks23 ks24 ks25 ks26 ks27 ks28
        replace hB := Kept.mk (hB.out.trans ((hb1).mono hB.out.size))
        replace Va := Kept.mk (Va.out.keep (hb1))
        replace Vp1 := Kept.mk (Vp1.out.keep (hb1))
        replace Vp2 := Kept.mk (Vp2.out.keep (hb1))
        replace Vd1 := Kept.mk (Vd1.out.keep (hb1))
        replace Vd2 := Kept.mk (Vd2.out.keep (hb1))
        replace Vt1 := Kept.mk (Vt1.out.keep (hb1))
        replace Vt2 := Kept.mk (Vt2.out.keep (hb1))
        replace Vs1 := Kept.mk (Vs1.out.keep (hb1))
        replace Vs2 := Kept.mk (Vs2.out.keep (hb1))
        clear hb1
        go_wp2
        all_goals go_ret
        all_goals exact ⟨rfl, hB.out⟩
set_option maxRecDepth 100000 in
theorem deltaUpdates_lifted (os : Os) (started : os.Started) (H : Type) (enc : TypeId × Value → H) :
    ReturnsInHanded {} Tryz.checked os 4 .any (Rows.deltaUpdatesSpec.pre6 enc Tryz.prog Tryz.f4 Rows.deltaUpdatesRow.domain false) (Rows.deltaUpdatesSpec.post enc Tryz.prog Tryz.f4 false true false false) := by
  refine returnsInHanded_of_change (C := Tryz.checked) (by kernel_rfl : ownKnob Tryz.prog.godebug = none) started (by kernel_rfl) Tryz.func4
    (ChangeSpec.witness6 (enc := enc) (C := Tryz.checked) false ⟨#[], #[.agg #[.int .i64 0, .slice none 0 0, .slice none 0 0], .int .i64 0, .string ByteArray.empty, .string ByteArray.empty, .int .i64 0, .int .u64 0], []⟩ 8 (by kernel_rfl) (by kernel_rfl) (by kernel_rfl) (by kernel_rfl)) ?_
  intro W base args ds gs before hval0 hW hcnd _
  have hval : ∀ (j : Nat) t v, Tryz.f4.params[j]? = some t → args[j]? = some v → Value.okWide Tryz.prog W .any base t v := hval0
  have hW' := hW
  obtain ⟨p, q, hA0, hV, rfl, hfz, hnd⟩ := hW
  have hA : DataW.TrodAll enc Tryz.prog W 0 (fun _ => true) true Tryz.f4.params.toList args.toList ds p := hA0
  rw [Tryz.params4] at hA hval
  obtain ⟨v0, vs0, d0, ds0, p0, q0, hargs, rfl, rfl, h0, r0⟩ := trodAll_cons hA
  obtain ⟨v1, vs1, d1, ds1, p1, q1, rfl, rfl, rfl, h1, r1⟩ := trodAll_cons r0
  obtain ⟨v2, vs2, d2, ds2, p2, q2, rfl, rfl, rfl, h2, r2⟩ := trodAll_cons r1
  obtain ⟨v3, vs3, d3, ds3, p3, q3, rfl, rfl, rfl, h3, r3⟩ := trodAll_cons r2
  obtain ⟨v4, vs4, d4, ds4, p4, q4, rfl, rfl, rfl, h4, r4⟩ := trodAll_cons r3
  obtain ⟨v5, vs5, d5, ds5, p5, q5, rfl, rfl, rfl, h5, r5⟩ := trodAll_cons r4
  obtain ⟨rfl, rfl, rfl⟩ := trodAll_nil r5
  obtain rfl : args = #[v0, v1, v2, v3, v4, v5] := by cases args; simp_all
  obtain ⟨rfl, rfl⟩ := trodVars_none hV
  obtain ⟨F0, fl0, w0⟩ := open_ar (hval 0 25 v0 rfl rfl) h0
  have lt0 : ∀ x ∈ p0, x.block < W.heap.size := fun x hx => by obtain ⟨fuel, hf⟩ := h0; exact DataW.trod_lt fuel _ _ _ hf x hx
  obtain ⟨a1, rfl, rfl, rfl, w1⟩ := open_int Tryz.underlying3 (hval 1 3 v1 rfl rfl) h1
  obtain ⟨a2, rfl, rfl, rfl, w2⟩ := open_string Tryz.underlying9 (hval 2 9 v2 rfl rfl) h2
  obtain ⟨a3, rfl, rfl, rfl, w3⟩ := open_string Tryz.underlying9 (hval 3 9 v3 rfl rfl) h3
  obtain ⟨a4, rfl, rfl, rfl, w4⟩ := open_int Tryz.underlying3 (hval 4 3 v4 rfl rfl) h4
  obtain ⟨a5, rfl, rfl, rfl, w5⟩ := open_int Tryz.underlying26 (hval 5 26 v5 rfl rfl) h5
  clear hA0 hval0
  simp only [List.append_nil] at hW'
  refine (deltaUpdates_walk F0 v0 a1 a2 a3 a4 a5 w0 w1 w2 w3 w4 w5 W fl0).mono fun e W' ⟨he, bel⟩ => ?_
  subst he
  exact ⟨_, rfl, _, _, _, [], _, [], hW', trodAll_mk1 (shut_bool Tryz.underlying4 _), (trodAll_cons_mk (Below.trod (by kernel_rfl) (by kernel_rfl) (of_decide_eq_true (by kernel_rfl)) h0 bel lt0) (trodAll_cons_mk (shut_int Tryz.underlying3 w1) (trodAll_cons_mk (shut_string Tryz.underlying9 w2) (trodAll_cons_mk (shut_string Tryz.underlying9 w3) (trodAll_cons_mk (shut_int Tryz.underlying3 w4) (trodAll_cons_mk (shut_int Tryz.underlying26 w5) trodAll_mk0)))))), rfl, bel.frame _, fun h => by cases h⟩
/-- THE STATEMENT. -/
theorem deltaUpdates_proved : Rows.DeltaUpdatesSaid :=
  OpenClaim.holds_of_wide 4 Tryz.f4 rfl rfl rfl rfl rfl rfl rfl ⟨rfl, rfl, rfl, rfl, rfl⟩ rfl rfl rfl rfl rfl (by kernel_rfl) Tryz.func4 (by kernel_rfl)
    (of_decide_eq_true (by kernel_rfl)) (by unfold Func.isWrapper; first | (rw [if_pos (by decide +kernel)]; kernel_rfl) | (rw [if_neg (by decide +kernel)]; exact ⟨rfl, rfl⟩))
    (fun os started H enc _ => deltaUpdates_lifted os started H enc)
#print axioms deltaUpdates_proved
end Go.Proofs.YtbgconagkgfplaaGreat
