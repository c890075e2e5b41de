/- An update that is joined is what is read then, and is joined without an error (delta.Put, Delete, Add, Set; arena.Join; delta.Text, Sum, Flags). -/
import Derived.Test.YtbgconagkgfplaaGreatPartG
import Derived.SizedLaws
import Derived.ProofKit
import Derived.OpenShut
import Derived.ShutString
import Derived.ChangeOld
import Derived.Below
namespace Go.Proofs.YtbgconagkgfplaaGreat
open Go.RowKit
open Go.ChangeShapes Go.WideShapes Go.ChangeAt Go.RowKit
open Go.ChangeMaps (open_string shut_string)
set_option linter.unusedVariables false
set_option linter.unusedSimpArgs false
attribute [local irreducible] setN

theorem u64_of {a : Int} (h : (Lit.int .u64 a).wf = true) : ∃ X : UInt64, a = (X.toNat : Int) := by
  have b := wf_u64 h
  refine ⟨UInt64.ofNat a.toNat, ?_⟩
  rw [UInt64.toNat_ofNat_of_lt' (by show a.toNat < 18446744073709551616; omega)]
  omega
set_option maxRecDepth 100000 in
set_option maxHeartbeats 4000000 in
theorem deltaWrites_walk (F0 : Ar) (v0 : Value) (a1 : Int) (a2 a3 : ByteArray) (a4 a5 : Int) (w0 : CameA F0) (w1 : (Lit.int .i64 a1).wf = true) (w2 : a2.size ≤ maxLen) (w3 : a3.size ≤ maxLen) (w4 : (Lit.int .i64 a4).wf = true) (w5 : (Lit.int .u64 a5).wf = true) (w : World) (fl0 : isAr F0 v0 w) :
    Calls Tryz.prog 6 #[v0, .int .i64 a1, .string a2, .string a3, .int .i64 a4, .int .u64 a5] w fun e w' => e = .returned (.bool true) ∧ Below w.heap.size w w' := by
  rw [str_eta a2, str_eta a3]
  generalize a2.data.toList = K
  generalize a3.data.toList = X
  obtain ⟨fl, rfl⟩ := u64_of w5
  obtain ⟨pa, ma, rfl, hpa, hma⟩ := fl0
  obtain ⟨hB, Va⟩ := abox w F0 pa ma hpa hma (w.heap.size) (by simp)
  clear hpa hma
  go_enter Tryz.func6, Tryz.ntmps6
  go_wp2_with fail
  generalize (w.alloc (.cells #[.int .i64 F0.cap, pa, ma] 25)) = W0 at *
  ((with_reducible refine (dworks_any _).mono ?_); rintro e W1 ⟨rfl, hb1⟩)
  replace hB := Kept.mk (hB.out.trans ((hb1).mono hB.out.size))
  replace Va := Kept.mk (Va.out.keep (hb1))
  clear hb1
  obtain ⟨qa, ra, xa, sa, ia, ka0, ka1, ka2⟩ := Va.out.open_
  have Xa := Kept.mk xa
  have Sa := Kept.mk sa
  have Ia := Kept.mk ia
  clear xa sa ia
  go_wp2_with fail
  ((with_reducible refine (afew_any F0 _ _ Xa.out (CameA.keys w0) w0.slots w0.index).mono ?_); rintro e W2 ⟨rfl, hb1⟩)
  clear Xa Sa Ia ka0 ka1 ka2
  replace hB := Kept.mk (hB.out.trans ((hb1).mono hB.out.size))
  replace Va := Kept.mk (Va.out.keep (hb1))
  clear hb1
  cases fa : fewA F0 with
  | false =>
    go_wp2
    all_goals go_ret
    all_goals exact ⟨rfl, hB.out⟩
  | true =>
    have FFa := Kept.mk (fewA_fit fa)
    have KFa := Kept.mk fa
    clear fa
    by_cases h0 : 100 < K.length
    · skip
      have c0 : decide (100 < (K.length : Int)) = true := by simp; omega
      go_wp2
      all_goals go_ret
      all_goals exact ⟨rfl, hB.out⟩
    · skip
      have c0 : decide (100 < (K.length : Int)) = false := by simp; omega
      by_cases h1 : 100 < X.length
      · skip
        have c1 : decide (100 < (X.length : Int)) = true := by simp; omega
        go_wp2
        all_goals go_ret
        all_goals exact ⟨rfl, hB.out⟩
      · skip
        have c1 : decide (100 < (X.length : Int)) = false := by simp; omega
        have g0 : K.length ≤ 1000 := by omega
        have g1 : X.length ≤ 1000 := by omega
        obtain ⟨ep, hep⟩ : ∃ r : Int, putDE F0 a1 K X = r := ⟨_, rfl⟩
        obtain ⟨Gp, hGp⟩ : ∃ r : En, putDF F0 a1 K X = r := ⟨_, rfl⟩
        have Hep := Kept.mk hep
        have HGp := Kept.mk hGp
        clear hep hGp
        obtain ⟨ed, hed⟩ : ∃ r : Int, delDE F0 a1 K = r := ⟨_, rfl⟩
        obtain ⟨Gd, hGd⟩ : ∃ r : En, delDF F0 a1 K = r := ⟨_, rfl⟩
        have Hed := Kept.mk hed
        have HGd := Kept.mk hGd
        clear hed hGd
        obtain ⟨et, het⟩ : ∃ r : Int, addDE F0 a1 K a4 = r := ⟨_, rfl⟩
        obtain ⟨Gt, hGt⟩ : ∃ r : En, addDF F0 a1 K a4 = r := ⟨_, rfl⟩
        have Het := Kept.mk het
        have HGt := Kept.mk hGt
        clear het hGt
        obtain ⟨es, hes⟩ : ∃ r : Int, setDE F0 K = r := ⟨_, rfl⟩
        obtain ⟨Gs, hGs⟩ : ∃ r : En, setDF F0 K fl = r := ⟨_, rfl⟩
        have Hes := Kept.mk hes
        have HGs := Kept.mk hGs
        clear hes hGs
        obtain ⟨qa, ra, xa, sa, ia, ka0, ka1, ka2⟩ := Va.out.open_
        have Xa := Kept.mk xa
        have Sa := Kept.mk sa
        have Ia := Kept.mk ia
        clear xa sa ia
        go_wp2_with fail
        clear c0 c1 h0 h1
        by_cases h0 : ep = 0
        · skip
          subst h0
          obtain ⟨f1, f2, f3, f4, f5, f6⟩ := put_facts Hep.out
          rw [HGp.out] at f1 f2 f3 f4 f5 f6
          have FG := Kept.mk f1
          have E0 := Kept.mk f4
          have N6 := Kept.mk f6
          have N5 := Kept.mk f5
          obtain ⟨B, hB0⟩ : ∃ B, joinAF F0 Gp = B := ⟨_, rfl⟩
          have HB0 := Kept.mk hB0
          rw [hB0] at f2 N6 N5
          have FB := Kept.mk f2
          have B0 := Kept.mk f3
          clear hB0 f1 f2 f4 f6 f3 f5
          ((with_reducible refine (gd_put F0 a1 K X 0 Gp _ _ Xa.out FFa.out g0 g1 Hep.out HGp.out).mono ?_); rintro e U ⟨v', rfl, ⟨p', m', rfl, hp', hm'⟩, hb1⟩)
          obtain ⟨K1, K2, K3, K4, K5⟩ := enew U Gp p' m' hp' hm' U.heap.size rfl
          clear hp' hm'
          clear Xa Sa Ia ka0 ka1 ka2
          replace hB := Kept.mk (hB.out.trans ((hb1).mono hB.out.size))
          replace Va := Kept.mk (Va.out.keep (hb1))
          clear hb1
          go_wp2_with (have hz0 := K1; refine wpList_storeN 30 rfl (.tmp 15) (.tmp 71) rfl U.heap.size [.string ⟨Gp.key.toArray⟩, .int .i64 Gp.val.kind, .int .i64 Gp.val.time, .int .i64 Gp.val.node, .bool Gp.val.dead, .string ⟨Gp.val.text.toArray⟩, p', m', .int .u64 (Gp.val.flags.toNat : Int)] size_en rfl rfl K1.out rfl K2.out K5.out ?_; replace hB := Kept.mk (hB.out.trans ((K3.out).mono hB.out.size)); replace Va := Kept.mk (Va.out.keep (K3.out)); have Vx := Kept.mk (show VarN _ _ Gp from ⟨_, _, K4.out⟩); clear hz0 K1 K2 K3 K4 K5; generalize setN (U.alloc (.cells #[.string ⟨#[]⟩, .int .i64 0, .int .i64 0, .int .i64 0, .bool false, .string ⟨#[]⟩, .slice none 0 0, .slice none 0 0, .int .u64 0] 30)) U.heap.size 0 [.string ⟨Gp.key.toArray⟩, .int .i64 Gp.val.kind, .int .i64 Gp.val.time, .int .i64 Gp.val.node, .bool Gp.val.dead, .string ⟨Gp.val.text.toArray⟩, p', m', .int .u64 (Gp.val.flags.toNat : Int)] = W3 at *; generalize U.heap.size = gx at *; obtain ⟨qa, ra, xa, sa, ia, ka0, ka1, ka2⟩ := Va.out.open_; have Xa := Kept.mk xa; have Sa := Kept.mk sa; have Ia := Kept.mk ia; clear xa sa ia; obtain ⟨qx, rx, xx, yx, kx0, kx1, kx2, kx3, kx4, kx5, kx6, kx7, kx8⟩ := Vx.out.open_; have Xx := Kept.mk xx; have Yx := Kept.mk yx; clear xx yx)
          ((with_reducible refine (ga_join F0 Gp B true 0 _ _ _ Xa.out Xx.out FFa.out FG.out HB0.out B0.out E0.out).mono ?_); rintro e U ⟨v', rfl, ⟨p', m', rfl, hp', hm'⟩, hb1⟩)
          obtain ⟨K1, K2, K3, K4, K5⟩ := anew U B p' m' hp' hm' U.heap.size rfl
          clear hp' hm'
          clear Xa Sa Ia ka0 ka1 ka2
          clear Xx Yx kx0 kx1 kx2 kx3 kx4 kx5 kx6 kx7 kx8
          replace hB := Kept.mk (hB.out.trans ((hb1).mono hB.out.size))
          replace Va := Kept.mk (Va.out.keep (hb1))
          replace Vx := Kept.mk (Vx.out.keep (hb1))
          clear hb1
          go_wp2_with (have hz0 := K1; refine wpList_storeN 25 rfl (.tmp 17) (.tmp 79) rfl U.heap.size [.int .i64 B.cap, p', m'] size_ar rfl rfl K1.out rfl K2.out K5.out ?_; replace hB := Kept.mk (hB.out.trans ((K3.out).mono hB.out.size)); replace Va := Kept.mk (Va.out.keep (K3.out)); replace Vx := Kept.mk (Vx.out.keep (K3.out)); have Vb := Kept.mk K4.out; clear hz0 K1 K2 K3 K4 K5; generalize setN (U.alloc (.cells #[.int .i64 0, .slice none 0 0, .slice none 0 0] 25)) U.heap.size 0 [.int .i64 B.cap, p', m'] = W4 at *; generalize U.heap.size = gb at *; obtain ⟨qb, rb, xb, sb, ib, kb0, kb1, kb2⟩ := Vb.out.open_; have Xb := Kept.mk xb; have Sb := Kept.mk sb; have Ib := Kept.mk ib; clear xb sb ib)
          ((with_reducible refine (gd_text B K X true _ _ Xb.out FB.out N5.out N6.out).mono ?_); rintro e W5 ⟨rfl, hb1⟩)
          clear Xb Sb Ib kb0 kb1 kb2
          replace hB := Kept.mk (hB.out.trans ((hb1).mono hB.out.size))
          replace Va := Kept.mk (Va.out.keep (hb1))
          replace Vx := Kept.mk (Vx.out.keep (hb1))
          replace Vb := Kept.mk (Vb.out.keep (hb1))
          clear hb1
          clear Vx Vb FG E0 N6 FB B0 HB0 N5
          obtain ⟨qa, ra, xa, sa, ia, ka0, ka1, ka2⟩ := Va.out.open_
          have Xa := Kept.mk xa
          have Sa := Kept.mk sa
          have Ia := Kept.mk ia
          clear xa sa ia
          go_wp2_with fail
          by_cases h0 : ed = 0
          · skip
            subst h0
            obtain ⟨f1, f2, f3, f4, f6⟩ := del_facts Hed.out
            rw [HGd.out] at f1 f2 f3 f4 f6
            have FG := Kept.mk f1
            have E0 := Kept.mk f4
            have N6 := Kept.mk f6
            obtain ⟨B, hB0⟩ : ∃ B, joinAF F0 Gd = B := ⟨_, rfl⟩
            have HB0 := Kept.mk hB0
            rw [hB0] at f2 N6
            have FB := Kept.mk f2
            have B0 := Kept.mk f3
            clear hB0 f1 f2 f4 f6 f3
            ((with_reducible refine (gd_del F0 a1 K 0 Gd _ _ Xa.out FFa.out g0 Hed.out HGd.out).mono ?_); rintro e U ⟨v', rfl, ⟨p', m', rfl, hp', hm'⟩, hb1⟩)
            obtain ⟨K1, K2, K3, K4, K5⟩ := enew U Gd p' m' hp' hm' U.heap.size rfl
            clear hp' hm'
            clear Xa Sa Ia ka0 ka1 ka2
            replace hB := Kept.mk (hB.out.trans ((hb1).mono hB.out.size))
            replace Va := Kept.mk (Va.out.keep (hb1))
            clear hb1
            go_wp2_with (have hz0 := K1; refine wpList_storeN 30 rfl (.tmp 22) (.tmp 108) rfl U.heap.size [.string ⟨Gd.key.toArray⟩, .int .i64 Gd.val.kind, .int .i64 Gd.val.time, .int .i64 Gd.val.node, .bool Gd.val.dead, .string ⟨Gd.val.text.toArray⟩, p', m', .int .u64 (Gd.val.flags.toNat : Int)] size_en rfl rfl K1.out rfl K2.out K5.out ?_; replace hB := Kept.mk (hB.out.trans ((K3.out).mono hB.out.size)); replace Va := Kept.mk (Va.out.keep (K3.out)); have Vx := Kept.mk (show VarN _ _ Gd from ⟨_, _, K4.out⟩); clear hz0 K1 K2 K3 K4 K5; generalize setN (U.alloc (.cells #[.string ⟨#[]⟩, .int .i64 0, .int .i64 0, .int .i64 0, .bool false, .string ⟨#[]⟩, .slice none 0 0, .slice none 0 0, .int .u64 0] 30)) U.heap.size 0 [.string ⟨Gd.key.toArray⟩, .int .i64 Gd.val.kind, .int .i64 Gd.val.time, .int .i64 Gd.val.node, .bool Gd.val.dead, .string ⟨Gd.val.text.toArray⟩, p', m', .int .u64 (Gd.val.flags.toNat : Int)] = W6 at *; generalize U.heap.size = gx at *; obtain ⟨qa, ra, xa, sa, ia, ka0, ka1, ka2⟩ := Va.out.open_; have Xa := Kept.mk xa; have Sa := Kept.mk sa; have Ia := Kept.mk ia; clear xa sa ia; obtain ⟨qx, rx, xx, yx, kx0, kx1, kx2, kx3, kx4, kx5, kx6, kx7, kx8⟩ := Vx.out.open_; have Xx := Kept.mk xx; have Yx := Kept.mk yx; clear xx yx)
            ((with_reducible refine (ga_join F0 Gd B true 0 _ _ _ Xa.out Xx.out FFa.out FG.out HB0.out B0.out E0.out).mono ?_); rintro e U ⟨v', rfl, ⟨p', m', rfl, hp', hm'⟩, hb1⟩)
            obtain ⟨K1, K2, K3, K4, K5⟩ := anew U B p' m' hp' hm' U.heap.size rfl
            clear hp' hm'
            clear Xa Sa Ia ka0 ka1 ka2
            clear Xx Yx kx0 kx1 kx2 kx3 kx4 kx5 kx6 kx7 kx8
            replace hB := Kept.mk (hB.out.trans ((hb1).mono hB.out.size))
            replace Va := Kept.mk (Va.out.keep (hb1))
            replace Vx := Kept.mk (Vx.out.keep (hb1))
            clear hb1
            go_wp2_with (have hz0 := K1; refine wpList_storeN 25 rfl (.tmp 24) (.tmp 116) rfl U.heap.size [.int .i64 B.cap, p', m'] size_ar rfl rfl K1.out rfl K2.out K5.out ?_; replace hB := Kept.mk (hB.out.trans ((K3.out).mono hB.out.size)); replace Va := Kept.mk (Va.out.keep (K3.out)); replace Vx := Kept.mk (Vx.out.keep (K3.out)); have Vb := Kept.mk K4.out; clear hz0 K1 K2 K3 K4 K5; generalize setN (U.alloc (.cells #[.int .i64 0, .slice none 0 0, .slice none 0 0] 25)) U.heap.size 0 [.int .i64 B.cap, p', m'] = W7 at *; generalize U.heap.size = gb at *; obtain ⟨qb, rb, xb, sb, ib, kb0, kb1, kb2⟩ := Vb.out.open_; have Xb := Kept.mk xb; have Sb := Kept.mk sb; have Ib := Kept.mk ib; clear xb sb ib)
            ((with_reducible refine (gd_text B K _ false _ _ Xb.out FB.out rfl N6.out).mono ?_); rintro e W8 ⟨rfl, hb1⟩)
            clear Xb Sb Ib kb0 kb1 kb2
            replace hB := Kept.mk (hB.out.trans ((hb1).mono hB.out.size))
            replace Va := Kept.mk (Va.out.keep (hb1))
            replace Vx := Kept.mk (Vx.out.keep (hb1))
            replace Vb := Kept.mk (Vb.out.keep (hb1))
            clear hb1
            clear Vx Vb FG E0 N6 FB B0 HB0
            obtain ⟨qa, ra, xa, sa, ia, ka0, ka1, ka2⟩ := Va.out.open_
            have Xa := Kept.mk xa
            have Sa := Kept.mk sa
            have Ia := Kept.mk ia
            clear xa sa ia
            go_wp2_with fail
            by_cases h0 : et = 0
            · skip
              subst h0
              obtain ⟨f1, f2, f3, f4, f5, f6, n1, n2⟩ := add_facts Het.out
              have hsb := sumT_bound F0 K
              obtain ⟨T, hT⟩ : ∃ T, sumT F0 K = T := ⟨_, rfl⟩
              obtain ⟨z, hz⟩ : ∃ z, heldB F0 2 K = z := ⟨_, rfl⟩
              rw [hT] at f5 hsb
              have HT := Kept.mk hT
              have HZ := Kept.mk hz
              clear hT hz
              rw [HGt.out] at f1 f2 f3 f4 f5 f6
              have FG := Kept.mk f1
              have E0 := Kept.mk f4
              have N6 := Kept.mk f6
              have N5 := Kept.mk f5
              obtain ⟨B, hB0⟩ : ∃ B, joinAF F0 Gt = B := ⟨_, rfl⟩
              have HB0 := Kept.mk hB0
              rw [hB0] at f2 N6 N5
              have FB := Kept.mk f2
              have B0 := Kept.mk f3
              clear hB0 f1 f2 f4 f6 f3 f5
              ((with_reducible refine (gd_add F0 a1 K a4 0 Gt _ _ Xa.out FFa.out g0 Het.out HGt.out).mono ?_); rintro e U ⟨v', rfl, ⟨p', m', rfl, hp', hm'⟩, hb1⟩)
              obtain ⟨K1, K2, K3, K4, K5⟩ := enew U Gt p' m' hp' hm' U.heap.size rfl
              clear hp' hm'
              clear Xa Sa Ia ka0 ka1 ka2
              replace hB := Kept.mk (hB.out.trans ((hb1).mono hB.out.size))
              replace Va := Kept.mk (Va.out.keep (hb1))
              clear hb1
              go_wp2_with (have hz0 := K1; refine wpList_storeN 30 rfl (.tmp 29) (.tmp 140) rfl U.heap.size [.string ⟨Gt.key.toArray⟩, .int .i64 Gt.val.kind, .int .i64 Gt.val.time, .int .i64 Gt.val.node, .bool Gt.val.dead, .string ⟨Gt.val.text.toArray⟩, p', m', .int .u64 (Gt.val.flags.toNat : Int)] size_en rfl rfl K1.out rfl K2.out K5.out ?_; replace hB := Kept.mk (hB.out.trans ((K3.out).mono hB.out.size)); replace Va := Kept.mk (Va.out.keep (K3.out)); have Vx := Kept.mk (show VarN _ _ Gt from ⟨_, _, K4.out⟩); clear hz0 K1 K2 K3 K4 K5; generalize setN (U.alloc (.cells #[.string ⟨#[]⟩, .int .i64 0, .int .i64 0, .int .i64 0, .bool false, .string ⟨#[]⟩, .slice none 0 0, .slice none 0 0, .int .u64 0] 30)) U.heap.size 0 [.string ⟨Gt.key.toArray⟩, .int .i64 Gt.val.kind, .int .i64 Gt.val.time, .int .i64 Gt.val.node, .bool Gt.val.dead, .string ⟨Gt.val.text.toArray⟩, p', m', .int .u64 (Gt.val.flags.toNat : Int)] = W9 at *; generalize U.heap.size = gx at *; obtain ⟨qa, ra, xa, sa, ia, ka0, ka1, ka2⟩ := Va.out.open_; have Xa := Kept.mk xa; have Sa := Kept.mk sa; have Ia := Kept.mk ia; clear xa sa ia; obtain ⟨qx, rx, xx, yx, kx0, kx1, kx2, kx3, kx4, kx5, kx6, kx7, kx8⟩ := Vx.out.open_; have Xx := Kept.mk xx; have Yx := Kept.mk yx; clear xx yx)
              ((with_reducible refine (ga_join F0 Gt B true 0 _ _ _ Xa.out Xx.out FFa.out FG.out HB0.out B0.out E0.out).mono ?_); rintro e U ⟨v', rfl, ⟨p', m', rfl, hp', hm'⟩, hb1⟩)
              obtain ⟨K1, K2, K3, K4, K5⟩ := anew U B p' m' hp' hm' U.heap.size rfl
              clear hp' hm'
              clear Xa Sa Ia ka0 ka1 ka2
              clear Xx Yx kx0 kx1 kx2 kx3 kx4 kx5 kx6 kx7 kx8
              replace hB := Kept.mk (hB.out.trans ((hb1).mono hB.out.size))
              replace Va := Kept.mk (Va.out.keep (hb1))
              replace Vx := Kept.mk (Vx.out.keep (hb1))
              clear hb1
              go_wp2_with (have hz0 := K1; refine wpList_storeN 25 rfl (.tmp 31) (.tmp 148) rfl U.heap.size [.int .i64 B.cap, p', m'] size_ar rfl rfl K1.out rfl K2.out K5.out ?_; replace hB := Kept.mk (hB.out.trans ((K3.out).mono hB.out.size)); replace Va := Kept.mk (Va.out.keep (K3.out)); replace Vx := Kept.mk (Vx.out.keep (K3.out)); have Vb := Kept.mk K4.out; clear hz0 K1 K2 K3 K4 K5; generalize setN (U.alloc (.cells #[.int .i64 0, .slice none 0 0, .slice none 0 0] 25)) U.heap.size 0 [.int .i64 B.cap, p', m'] = W10 at *; generalize U.heap.size = gb at *; obtain ⟨qa, ra, xa, sa, ia, ka0, ka1, ka2⟩ := Va.out.open_; have Xa := Kept.mk xa; have Sa := Kept.mk sa; have Ia := Kept.mk ia; clear xa sa ia)
              ((with_reducible refine (gd_sum F0 K T z _ _ Xa.out FFa.out HT.out HZ.out).mono ?_); rintro e W11 ⟨rfl, hb1⟩)
              clear Xa Sa Ia ka0 ka1 ka2
              replace hB := Kept.mk (hB.out.trans ((hb1).mono hB.out.size))
              replace Va := Kept.mk (Va.out.keep (hb1))
              replace Vx := Kept.mk (Vx.out.keep (hb1))
              replace Vb := Kept.mk (Vb.out.keep (hb1))
              clear hb1
              obtain ⟨qb, rb, xb, sb, ib, kb0, kb1, kb2⟩ := Vb.out.open_
              have Xb := Kept.mk xb
              have Sb := Kept.mk sb
              have Ib := Kept.mk ib
              clear xb sb ib
              go_wp2_with fail
              ((with_reducible refine (gd_sum B K (T + a4) true _ _ Xb.out FB.out N5.out N6.out).mono ?_); rintro e W12 ⟨rfl, hb1⟩)
              clear Xb Sb Ib kb0 kb1 kb2
              replace hB := Kept.mk (hB.out.trans ((hb1).mono hB.out.size))
              replace Va := Kept.mk (Va.out.keep (hb1))
              replace Vx := Kept.mk (Vx.out.keep (hb1))
              replace Vb := Kept.mk (Vb.out.keep (hb1))
              clear hb1
              clear Vx Vb FG E0 N6 FB B0 HB0 N5
              obtain ⟨qa, ra, xa, sa, ia, ka0, ka1, ka2⟩ := Va.out.open_
              have Xa := Kept.mk xa
              have Sa := Kept.mk sa
              have Ia := Kept.mk ia
              clear xa sa ia
              go_wp2_with fail
              clear n1 n2 hsb HT HZ
              by_cases h0 : es = 0
              · skip
                subst h0
                obtain ⟨f1, f2, f4, f5, f6⟩ := set_facts fl Hes.out
                obtain ⟨T, hT⟩ : ∃ T, flagT F0 K = T := ⟨_, rfl⟩
                obtain ⟨z, hz⟩ : ∃ z, heldB F0 3 K = z := ⟨_, rfl⟩
                rw [hT] at f5
                obtain ⟨Y, hY⟩ : ∃ Y, T ||| fl = Y := ⟨_, rfl⟩
                rw [hY] at f5
                have hor : bits .or .u64 (T.toNat : Int) (fl.toNat : Int) = (Y.toNat : Int) := by rw [or_u64, hY]
                have HT := Kept.mk hT
                have HZ := Kept.mk hz
                clear hT hz hY
                rw [HGs.out] at f1 f2 f4 f5 f6
                have FG := Kept.mk f1
                have E0 := Kept.mk f4
                have N6 := Kept.mk f6
                have N5 := Kept.mk f5
                obtain ⟨B, hB0⟩ : ∃ B, joinAF F0 Gs = B := ⟨_, rfl⟩
                have HB0 := Kept.mk hB0
                rw [hB0] at f2 N6 N5
                have FB := Kept.mk f2
                obtain ⟨jb, hjb⟩ : ∃ jb, joinAB F0 Gs = jb := ⟨_, rfl⟩
                have B0 := Kept.mk hjb
                clear hjb
                clear hB0 f1 f2 f4 f6 f5
                ((with_reducible refine (gd_set F0 K fl 0 Gs _ _ Xa.out FFa.out g0 Hes.out HGs.out).mono ?_); rintro e U ⟨v', rfl, ⟨p', m', rfl, hp', hm'⟩, hb1⟩)
                obtain ⟨K1, K2, K3, K4, K5⟩ := enew U Gs p' m' hp' hm' U.heap.size rfl
                clear hp' hm'
                clear Xa Sa Ia ka0 ka1 ka2
                replace hB := Kept.mk (hB.out.trans ((hb1).mono hB.out.size))
                replace Va := Kept.mk (Va.out.keep (hb1))
                clear hb1
                go_wp2_with (have hz0 := K1; refine wpList_storeN 30 rfl (.tmp 38) (.tmp 185) rfl U.heap.size [.string ⟨Gs.key.toArray⟩, .int .i64 Gs.val.kind, .int .i64 Gs.val.time, .int .i64 Gs.val.node, .bool Gs.val.dead, .string ⟨Gs.val.text.toArray⟩, p', m', .int .u64 (Gs.val.flags.toNat : Int)] size_en rfl rfl K1.out rfl K2.out K5.out ?_; replace hB := Kept.mk (hB.out.trans ((K3.out).mono hB.out.size)); replace Va := Kept.mk (Va.out.keep (K3.out)); have Vx := Kept.mk (show VarN _ _ Gs from ⟨_, _, K4.out⟩); clear hz0 K1 K2 K3 K4 K5; generalize setN (U.alloc (.cells #[.string ⟨#[]⟩, .int .i64 0, .int .i64 0, .int .i64 0, .bool false, .string ⟨#[]⟩, .slice none 0 0, .slice none 0 0, .int .u64 0] 30)) U.heap.size 0 [.string ⟨Gs.key.toArray⟩, .int .i64 Gs.val.kind, .int .i64 Gs.val.time, .int .i64 Gs.val.node, .bool Gs.val.dead, .string ⟨Gs.val.text.toArray⟩, p', m', .int .u64 (Gs.val.flags.toNat : Int)] = W13 at *; generalize U.heap.size = gx at *; obtain ⟨qa, ra, xa, sa, ia, ka0, ka1, ka2⟩ := Va.out.open_; have Xa := Kept.mk xa; have Sa := Kept.mk sa; have Ia := Kept.mk ia; clear xa sa ia; obtain ⟨qx, rx, xx, yx, kx0, kx1, kx2, kx3, kx4, kx5, kx6, kx7, kx8⟩ := Vx.out.open_; have Xx := Kept.mk xx; have Yx := Kept.mk yx; clear xx yx)
                ((with_reducible refine (ga_join F0 Gs B jb 0 _ _ _ Xa.out Xx.out FFa.out FG.out HB0.out B0.out E0.out).mono ?_); rintro e U ⟨v', rfl, ⟨p', m', rfl, hp', hm'⟩, hb1⟩)
                obtain ⟨K1, K2, K3, K4, K5⟩ := anew U B p' m' hp' hm' U.heap.size rfl
                clear hp' hm'
                clear Xa Sa Ia ka0 ka1 ka2
                clear Xx Yx kx0 kx1 kx2 kx3 kx4 kx5 kx6 kx7 kx8
                replace hB := Kept.mk (hB.out.trans ((hb1).mono hB.out.size))
                replace Va := Kept.mk (Va.out.keep (hb1))
                replace Vx := Kept.mk (Vx.out.keep (hb1))
                clear hb1
                go_wp2_with (have hz0 := K1; refine wpList_storeN 25 rfl (.tmp 40) (.tmp 193) rfl U.heap.size [.int .i64 B.cap, p', m'] size_ar rfl rfl K1.out rfl K2.out K5.out ?_; replace hB := Kept.mk (hB.out.trans ((K3.out).mono hB.out.size)); replace Va := Kept.mk (Va.out.keep (K3.out)); replace Vx := Kept.mk (Vx.out.keep (K3.out)); have Vb := Kept.mk K4.out; clear hz0 K1 K2 K3 K4 K5; generalize setN (U.alloc (.cells #[.int .i64 0, .slice none 0 0, .slice none 0 0] 25)) U.heap.size 0 [.int .i64 B.cap, p', m'] = W14 at *; generalize U.heap.size = gb at *; obtain ⟨qa, ra, xa, sa, ia, ka0, ka1, ka2⟩ := Va.out.open_; have Xa := Kept.mk xa; have Sa := Kept.mk sa; have Ia := Kept.mk ia; clear xa sa ia)
                ((with_reducible refine (gd_flags F0 K T z _ _ Xa.out FFa.out HT.out HZ.out).mono ?_); rintro e W15 ⟨rfl, hb1⟩)
                clear Xa Sa Ia ka0 ka1 ka2
                replace hB := Kept.mk (hB.out.trans ((hb1).mono hB.out.size))
                replace Va := Kept.mk (Va.out.keep (hb1))
                replace Vx := Kept.mk (Vx.out.keep (hb1))
                replace Vb := Kept.mk (Vb.out.keep (hb1))
                clear hb1
                obtain ⟨qb, rb, xb, sb, ib, kb0, kb1, kb2⟩ := Vb.out.open_
                have Xb := Kept.mk xb
                have Sb := Kept.mk sb
                have Ib := Kept.mk ib
                clear xb sb ib
                go_wp2_with fail
                ((with_reducible refine (gd_flags B K Y true _ _ Xb.out FB.out N5.out N6.out).mono ?_); rintro e W16 ⟨rfl, hb1⟩)
                clear Xb Sb Ib kb0 kb1 kb2
                replace hB := Kept.mk (hB.out.trans ((hb1).mono hB.out.size))
                replace Va := Kept.mk (Va.out.keep (hb1))
                replace Vx := Kept.mk (Vx.out.keep (hb1))
                replace Vb := Kept.mk (Vb.out.keep (hb1))
                clear hb1
                clear Vx Vb FG E0 N6 FB B0 HB0 N5
                go_wp2
                all_goals go_ret
                all_goals exact ⟨rfl, hB.out⟩
              · skip
                ((with_reducible refine (gd_set F0 K fl es Gs _ _ Xa.out FFa.out g0 Hes.out HGs.out).mono ?_); rintro e U ⟨v', rfl, ⟨p', m', rfl, hp', hm'⟩, hb1⟩)
                obtain ⟨K1, K2, K3, K4, K5⟩ := enew U Gs p' m' hp' hm' U.heap.size rfl
                clear hp' hm'
                clear Xa Sa Ia ka0 ka1 ka2
                replace hB := Kept.mk (hB.out.trans ((hb1).mono hB.out.size))
                replace Va := Kept.mk (Va.out.keep (hb1))
                clear hb1
                go_wp2_with (have hz0 := K1; refine wpList_storeN 30 rfl (.tmp 38) (.tmp 185) rfl U.heap.size [.string ⟨Gs.key.toArray⟩, .int .i64 Gs.val.kind, .int .i64 Gs.val.time, .int .i64 Gs.val.node, .bool Gs.val.dead, .string ⟨Gs.val.text.toArray⟩, p', m', .int .u64 (Gs.val.flags.toNat : Int)] size_en rfl rfl K1.out rfl K2.out K5.out ?_; replace hB := Kept.mk (hB.out.trans ((K3.out).mono hB.out.size)); replace Va := Kept.mk (Va.out.keep (K3.out)); have Vx := Kept.mk (show VarN _ _ Gs from ⟨_, _, K4.out⟩); clear hz0 K1 K2 K3 K4 K5; generalize setN (U.alloc (.cells #[.string ⟨#[]⟩, .int .i64 0, .int .i64 0, .int .i64 0, .bool false, .string ⟨#[]⟩, .slice none 0 0, .slice none 0 0, .int .u64 0] 30)) U.heap.size 0 [.string ⟨Gs.key.toArray⟩, .int .i64 Gs.val.kind, .int .i64 Gs.val.time, .int .i64 Gs.val.node, .bool Gs.val.dead, .string ⟨Gs.val.text.toArray⟩, p', m', .int .u64 (Gs.val.flags.toNat : Int)] = W13 at *; generalize U.heap.size = gx at *; obtain ⟨qa, ra, xa, sa, ia, ka0, ka1, ka2⟩ := Va.out.open_; have Xa := Kept.mk xa; have Sa := Kept.mk sa; have Ia := Kept.mk ia; clear xa sa ia)
                clear Vx h0
                go_wp2
                all_goals go_ret
                all_goals exact ⟨rfl, hB.out⟩
            · skip
              ((with_reducible refine (gd_add F0 a1 K a4 et Gt _ _ Xa.out FFa.out g0 Het.out HGt.out).mono ?_); rintro e U ⟨v', rfl, ⟨p', m', rfl, hp', hm'⟩, hb1⟩)
              obtain ⟨K1, K2, K3, K4, K5⟩ := enew U Gt p' m' hp' hm' U.heap.size rfl
              clear hp' hm'
              clear Xa Sa Ia ka0 ka1 ka2
              replace hB := Kept.mk (hB.out.trans ((hb1).mono hB.out.size))
              replace Va := Kept.mk (Va.out.keep (hb1))
              clear hb1
              go_wp2_with (have hz0 := K1; refine wpList_storeN 30 rfl (.tmp 29) (.tmp 140) rfl U.heap.size [.string ⟨Gt.key.toArray⟩, .int .i64 Gt.val.kind, .int .i64 Gt.val.time, .int .i64 Gt.val.node, .bool Gt.val.dead, .string ⟨Gt.val.text.toArray⟩, p', m', .int .u64 (Gt.val.flags.toNat : Int)] size_en rfl rfl K1.out rfl K2.out K5.out ?_; replace hB := Kept.mk (hB.out.trans ((K3.out).mono hB.out.size)); replace Va := Kept.mk (Va.out.keep (K3.out)); have Vx := Kept.mk (show VarN _ _ Gt from ⟨_, _, K4.out⟩); clear hz0 K1 K2 K3 K4 K5; generalize setN (U.alloc (.cells #[.string ⟨#[]⟩, .int .i64 0, .int .i64 0, .int .i64 0, .bool false, .string ⟨#[]⟩, .slice none 0 0, .slice none 0 0, .int .u64 0] 30)) U.heap.size 0 [.string ⟨Gt.key.toArray⟩, .int .i64 Gt.val.kind, .int .i64 Gt.val.time, .int .i64 Gt.val.node, .bool Gt.val.dead, .string ⟨Gt.val.text.toArray⟩, p', m', .int .u64 (Gt.val.flags.toNat : Int)] = W9 at *; generalize U.heap.size = gx at *; obtain ⟨qa, ra, xa, sa, ia, ka0, ka1, ka2⟩ := Va.out.open_; have Xa := Kept.mk xa; have Sa := Kept.mk sa; have Ia := Kept.mk ia; clear xa sa ia)
              clear Vx h0
              by_cases h0 : es = 0
              · skip
                subst h0
                obtain ⟨f1, f2, f4, f5, f6⟩ := set_facts fl Hes.out
                obtain ⟨T, hT⟩ : ∃ T, flagT F0 K = T := ⟨_, rfl⟩
                obtain ⟨z, hz⟩ : ∃ z, heldB F0 3 K = z := ⟨_, rfl⟩
                rw [hT] at f5
                obtain ⟨Y, hY⟩ : ∃ Y, T ||| fl = Y := ⟨_, rfl⟩
                rw [hY] at f5
                have hor : bits .or .u64 (T.toNat : Int) (fl.toNat : Int) = (Y.toNat : Int) := by rw [or_u64, hY]
                have HT := Kept.mk hT
                have HZ := Kept.mk hz
                clear hT hz hY
                rw [HGs.out] at f1 f2 f4 f5 f6
                have FG := Kept.mk f1
                have E0 := Kept.mk f4
                have N6 := Kept.mk f6
                have N5 := Kept.mk f5
                obtain ⟨B, hB0⟩ : ∃ B, joinAF F0 Gs = B := ⟨_, rfl⟩
                have HB0 := Kept.mk hB0
                rw [hB0] at f2 N6 N5
                have FB := Kept.mk f2
                obtain ⟨jb, hjb⟩ : ∃ jb, joinAB F0 Gs = jb := ⟨_, rfl⟩
                have B0 := Kept.mk hjb
                clear hjb
                clear hB0 f1 f2 f4 f6 f5
                ((with_reducible refine (gd_set F0 K fl 0 Gs _ _ Xa.out FFa.out g0 Hes.out HGs.out).mono ?_); rintro e U ⟨v', rfl, ⟨p', m', rfl, hp', hm'⟩, hb1⟩)
                obtain ⟨K1, K2, K3, K4, K5⟩ := enew U Gs p' m' hp' hm' U.heap.size rfl
                clear hp' hm'
                clear Xa Sa Ia ka0 ka1 ka2
                replace hB := Kept.mk (hB.out.trans ((hb1).mono hB.out.size))
                replace Va := Kept.mk (Va.out.keep (hb1))
                clear hb1
                go_wp2_with (have hz0 := K1; refine wpList_storeN 30 rfl (.tmp 38) (.tmp 185) rfl U.heap.size [.string ⟨Gs.key.toArray⟩, .int .i64 Gs.val.kind, .int .i64 Gs.val.time, .int .i64 Gs.val.node, .bool Gs.val.dead, .string ⟨Gs.val.text.toArray⟩, p', m', .int .u64 (Gs.val.flags.toNat : Int)] size_en rfl rfl K1.out rfl K2.out K5.out ?_; replace hB := Kept.mk (hB.out.trans ((K3.out).mono hB.out.size)); replace Va := Kept.mk (Va.out.keep (K3.out)); have Vx := Kept.mk (show VarN _ _ Gs from ⟨_, _, K4.out⟩); clear hz0 K1 K2 K3 K4 K5; generalize setN (U.alloc (.cells #[.string ⟨#[]⟩, .int .i64 0, .int .i64 0, .int .i64 0, .bool false, .string ⟨#[]⟩, .slice none 0 0, .slice none 0 0, .int .u64 0] 30)) U.heap.size 0 [.string ⟨Gs.key.toArray⟩, .int .i64 Gs.val.kind, .int .i64 Gs.val.time, .int .i64 Gs.val.node, .bool Gs.val.dead, .string ⟨Gs.val.text.toArray⟩, p', m', .int .u64 (Gs.val.flags.toNat : Int)] = W10 at *; generalize U.heap.size = gx at *; obtain ⟨qa, ra, xa, sa, ia, ka0, ka1, ka2⟩ := Va.out.open_; have Xa := Kept.mk xa; have Sa := Kept.mk sa; have Ia := Kept.mk ia; clear xa sa ia; obtain ⟨qx, rx, xx, yx, kx0, kx1, kx2, kx3, kx4, kx5, kx6, kx7, kx8⟩ := Vx.out.open_; have Xx := Kept.mk xx; have Yx := Kept.mk yx; clear xx yx)
                ((with_reducible refine (ga_join F0 Gs B jb 0 _ _ _ Xa.out Xx.out FFa.out FG.out HB0.out B0.out E0.out).mono ?_); rintro e U ⟨v', rfl, ⟨p', m', rfl, hp', hm'⟩, hb1⟩)
                obtain ⟨K1, K2, K3, K4, K5⟩ := anew U B p' m' hp' hm' U.heap.size rfl
                clear hp' hm'
                clear Xa Sa Ia ka0 ka1 ka2
                clear Xx Yx kx0 kx1 kx2 kx3 kx4 kx5 kx6 kx7 kx8
                replace hB := Kept.mk (hB.out.trans ((hb1).mono hB.out.size))
                replace Va := Kept.mk (Va.out.keep (hb1))
                replace Vx := Kept.mk (Vx.out.keep (hb1))
                clear hb1
                go_wp2_with (have hz0 := K1; refine wpList_storeN 25 rfl (.tmp 40) (.tmp 193) rfl U.heap.size [.int .i64 B.cap, p', m'] size_ar rfl rfl K1.out rfl K2.out K5.out ?_; replace hB := Kept.mk (hB.out.trans ((K3.out).mono hB.out.size)); replace Va := Kept.mk (Va.out.keep (K3.out)); replace Vx := Kept.mk (Vx.out.keep (K3.out)); have Vb := Kept.mk K4.out; clear hz0 K1 K2 K3 K4 K5; generalize setN (U.alloc (.cells #[.int .i64 0, .slice none 0 0, .slice none 0 0] 25)) U.heap.size 0 [.int .i64 B.cap, p', m'] = W11 at *; generalize U.heap.size = gb at *; obtain ⟨qa, ra, xa, sa, ia, ka0, ka1, ka2⟩ := Va.out.open_; have Xa := Kept.mk xa; have Sa := Kept.mk sa; have Ia := Kept.mk ia; clear xa sa ia)
                ((with_reducible refine (gd_flags F0 K T z _ _ Xa.out FFa.out HT.out HZ.out).mono ?_); rintro e W12 ⟨rfl, hb1⟩)
                clear Xa Sa Ia ka0 ka1 ka2
                replace hB := Kept.mk (hB.out.trans ((hb1).mono hB.out.size))
                replace Va := Kept.mk (Va.out.keep (hb1))
                replace Vx := Kept.mk (Vx.out.keep (hb1))
                replace Vb := Kept.mk (Vb.out.keep (hb1))
                clear hb1
                obtain ⟨qb, rb, xb, sb, ib, kb0, kb1, kb2⟩ := Vb.out.open_
                have Xb := Kept.mk xb
                have Sb := Kept.mk sb
                have Ib := Kept.mk ib
                clear xb sb ib
                go_wp2_with fail
                ((with_reducible refine (gd_flags B K Y true _ _ Xb.out FB.out N5.out N6.out).mono ?_); rintro e W13 ⟨rfl, hb1⟩)
                clear Xb Sb Ib kb0 kb1 kb2
                replace hB := Kept.mk (hB.out.trans ((hb1).mono hB.out.size))
                replace Va := Kept.mk (Va.out.keep (hb1))
                replace Vx := Kept.mk (Vx.out.keep (hb1))
                replace Vb := Kept.mk (Vb.out.keep (hb1))
                clear hb1
                clear Vx Vb FG E0 N6 FB B0 HB0 N5
                go_wp2
                all_goals go_ret
                all_goals exact ⟨rfl, hB.out⟩
              · skip
                ((with_reducible refine (gd_set F0 K fl es Gs _ _ Xa.out FFa.out g0 Hes.out HGs.out).mono ?_); rintro e U ⟨v', rfl, ⟨p', m', rfl, hp', hm'⟩, hb1⟩)
                obtain ⟨K1, K2, K3, K4, K5⟩ := enew U Gs p' m' hp' hm' U.heap.size rfl
                clear hp' hm'
                clear Xa Sa Ia ka0 ka1 ka2
                replace hB := Kept.mk (hB.out.trans ((hb1).mono hB.out.size))
                replace Va := Kept.mk (Va.out.keep (hb1))
                clear hb1
                go_wp2_with (have hz0 := K1; refine wpList_storeN 30 rfl (.tmp 38) (.tmp 185) rfl U.heap.size [.string ⟨Gs.key.toArray⟩, .int .i64 Gs.val.kind, .int .i64 Gs.val.time, .int .i64 Gs.val.node, .bool Gs.val.dead, .string ⟨Gs.val.text.toArray⟩, p', m', .int .u64 (Gs.val.flags.toNat : Int)] size_en rfl rfl K1.out rfl K2.out K5.out ?_; replace hB := Kept.mk (hB.out.trans ((K3.out).mono hB.out.size)); replace Va := Kept.mk (Va.out.keep (K3.out)); have Vx := Kept.mk (show VarN _ _ Gs from ⟨_, _, K4.out⟩); clear hz0 K1 K2 K3 K4 K5; generalize setN (U.alloc (.cells #[.string ⟨#[]⟩, .int .i64 0, .int .i64 0, .int .i64 0, .bool false, .string ⟨#[]⟩, .slice none 0 0, .slice none 0 0, .int .u64 0] 30)) U.heap.size 0 [.string ⟨Gs.key.toArray⟩, .int .i64 Gs.val.kind, .int .i64 Gs.val.time, .int .i64 Gs.val.node, .bool Gs.val.dead, .string ⟨Gs.val.text.toArray⟩, p', m', .int .u64 (Gs.val.flags.toNat : Int)] = W10 at *; generalize U.heap.size = gx at *; obtain ⟨qa, ra, xa, sa, ia, ka0, ka1, ka2⟩ := Va.out.open_; have Xa := Kept.mk xa; have Sa := Kept.mk sa; have Ia := Kept.mk ia; clear xa sa ia)
                clear Vx h0
                go_wp2
                all_goals go_ret
                all_goals exact ⟨rfl, hB.out⟩
          · skip
            ((with_reducible refine (gd_del F0 a1 K ed Gd _ _ Xa.out FFa.out g0 Hed.out HGd.out).mono ?_); rintro e U ⟨v', rfl, ⟨p', m', rfl, hp', hm'⟩, hb1⟩)
            obtain ⟨K1, K2, K3, K4, K5⟩ := enew U Gd p' m' hp' hm' U.heap.size rfl
            clear hp' hm'
            clear Xa Sa Ia ka0 ka1 ka2
            replace hB := Kept.mk (hB.out.trans ((hb1).mono hB.out.size))
            replace Va := Kept.mk (Va.out.keep (hb1))
            clear hb1
            go_wp2_with (have hz0 := K1; refine wpList_storeN 30 rfl (.tmp 22) (.tmp 108) rfl U.heap.size [.string ⟨Gd.key.toArray⟩, .int .i64 Gd.val.kind, .int .i64 Gd.val.time, .int .i64 Gd.val.node, .bool Gd.val.dead, .string ⟨Gd.val.text.toArray⟩, p', m', .int .u64 (Gd.val.flags.toNat : Int)] size_en rfl rfl K1.out rfl K2.out K5.out ?_; replace hB := Kept.mk (hB.out.trans ((K3.out).mono hB.out.size)); replace Va := Kept.mk (Va.out.keep (K3.out)); have Vx := Kept.mk (show VarN _ _ Gd from ⟨_, _, K4.out⟩); clear hz0 K1 K2 K3 K4 K5; generalize setN (U.alloc (.cells #[.string ⟨#[]⟩, .int .i64 0, .int .i64 0, .int .i64 0, .bool false, .string ⟨#[]⟩, .slice none 0 0, .slice none 0 0, .int .u64 0] 30)) U.heap.size 0 [.string ⟨Gd.key.toArray⟩, .int .i64 Gd.val.kind, .int .i64 Gd.val.time, .int .i64 Gd.val.node, .bool Gd.val.dead, .string ⟨Gd.val.text.toArray⟩, p', m', .int .u64 (Gd.val.flags.toNat : Int)] = W6 at *; generalize U.heap.size = gx at *; obtain ⟨qa, ra, xa, sa, ia, ka0, ka1, ka2⟩ := Va.out.open_; have Xa := Kept.mk xa; have Sa := Kept.mk sa; have Ia := Kept.mk ia; clear xa sa ia)
            clear Vx h0
            by_cases h0 : et = 0
            · skip
              subst h0
              obtain ⟨f1, f2, f3, f4, f5, f6, n1, n2⟩ := add_facts Het.out
              have hsb := sumT_bound F0 K
              obtain ⟨T, hT⟩ : ∃ T, sumT F0 K = T := ⟨_, rfl⟩
              obtain ⟨z, hz⟩ : ∃ z, heldB F0 2 K = z := ⟨_, rfl⟩
              rw [hT] at f5 hsb
              have HT := Kept.mk hT
              have HZ := Kept.mk hz
              clear hT hz
              rw [HGt.out] at f1 f2 f3 f4 f5 f6
              have FG := Kept.mk f1
              have E0 := Kept.mk f4
              have N6 := Kept.mk f6
              have N5 := Kept.mk f5
              obtain ⟨B, hB0⟩ : ∃ B, joinAF F0 Gt = B := ⟨_, rfl⟩
              have HB0 := Kept.mk hB0
              rw [hB0] at f2 N6 N5
              have FB := Kept.mk f2
              have B0 := Kept.mk f3
              clear hB0 f1 f2 f4 f6 f3 f5
              ((with_reducible refine (gd_add F0 a1 K a4 0 Gt _ _ Xa.out FFa.out g0 Het.out HGt.out).mono ?_); rintro e U ⟨v', rfl, ⟨p', m', rfl, hp', hm'⟩, hb1⟩)
              obtain ⟨K1, K2, K3, K4, K5⟩ := enew U Gt p' m' hp' hm' U.heap.size rfl
              clear hp' hm'
              clear Xa Sa Ia ka0 ka1 ka2
              replace hB := Kept.mk (hB.out.trans ((hb1).mono hB.out.size))
              replace Va := Kept.mk (Va.out.keep (hb1))
              clear hb1
              go_wp2_with (have hz0 := K1; refine wpList_storeN 30 rfl (.tmp 29) (.tmp 140) rfl U.heap.size [.string ⟨Gt.key.toArray⟩, .int .i64 Gt.val.kind, .int .i64 Gt.val.time, .int .i64 Gt.val.node, .bool Gt.val.dead, .string ⟨Gt.val.text.toArray⟩, p', m', .int .u64 (Gt.val.flags.toNat : Int)] size_en rfl rfl K1.out rfl K2.out K5.out ?_; replace hB := Kept.mk (hB.out.trans ((K3.out).mono hB.out.size)); replace Va := Kept.mk (Va.out.keep (K3.out)); have Vx := Kept.mk (show VarN _ _ Gt from ⟨_, _, K4.out⟩); clear hz0 K1 K2 K3 K4 K5; generalize setN (U.alloc (.cells #[.string ⟨#[]⟩, .int .i64 0, .int .i64 0, .int .i64 0, .bool false, .string ⟨#[]⟩, .slice none 0 0, .slice none 0 0, .int .u64 0] 30)) U.heap.size 0 [.string ⟨Gt.key.toArray⟩, .int .i64 Gt.val.kind, .int .i64 Gt.val.time, .int .i64 Gt.val.node, .bool Gt.val.dead, .string ⟨Gt.val.text.toArray⟩, p', m', .int .u64 (Gt.val.flags.toNat : Int)] = W7 at *; generalize U.heap.size = gx at *; obtain ⟨qa, ra, xa, sa, ia, ka0, ka1, ka2⟩ := Va.out.open_; have Xa := Kept.mk xa; have Sa := Kept.mk sa; have Ia := Kept.mk ia; clear xa sa ia; obtain ⟨qx, rx, xx, yx, kx0, kx1, kx2, kx3, kx4, kx5, kx6, kx7, kx8⟩ := Vx.out.open_; have Xx := Kept.mk xx; have Yx := Kept.mk yx; clear xx yx)
              ((with_reducible refine (ga_join F0 Gt B true 0 _ _ _ Xa.out Xx.out FFa.out FG.out HB0.out B0.out E0.out).mono ?_); rintro e U ⟨v', rfl, ⟨p', m', rfl, hp', hm'⟩, hb1⟩)
              obtain ⟨K1, K2, K3, K4, K5⟩ := anew U B p' m' hp' hm' U.heap.size rfl
              clear hp' hm'
              clear Xa Sa Ia ka0 ka1 ka2
              clear Xx Yx kx0 kx1 kx2 kx3 kx4 kx5 kx6 kx7 kx8
              replace hB := Kept.mk (hB.out.trans ((hb1).mono hB.out.size))
              replace Va := Kept.mk (Va.out.keep (hb1))
              replace Vx := Kept.mk (Vx.out.keep (hb1))
              clear hb1
              go_wp2_with (have hz0 := K1; refine wpList_storeN 25 rfl (.tmp 31) (.tmp 148) rfl U.heap.size [.int .i64 B.cap, p', m'] size_ar rfl rfl K1.out rfl K2.out K5.out ?_; replace hB := Kept.mk (hB.out.trans ((K3.out).mono hB.out.size)); replace Va := Kept.mk (Va.out.keep (K3.out)); replace Vx := Kept.mk (Vx.out.keep (K3.out)); have Vb := Kept.mk K4.out; clear hz0 K1 K2 K3 K4 K5; generalize setN (U.alloc (.cells #[.int .i64 0, .slice none 0 0, .slice none 0 0] 25)) U.heap.size 0 [.int .i64 B.cap, p', m'] = W8 at *; generalize U.heap.size = gb at *; obtain ⟨qa, ra, xa, sa, ia, ka0, ka1, ka2⟩ := Va.out.open_; have Xa := Kept.mk xa; have Sa := Kept.mk sa; have Ia := Kept.mk ia; clear xa sa ia)
              ((with_reducible refine (gd_sum F0 K T z _ _ Xa.out FFa.out HT.out HZ.out).mono ?_); rintro e W9 ⟨rfl, hb1⟩)
              clear Xa Sa Ia ka0 ka1 ka2
              replace hB := Kept.mk (hB.out.trans ((hb1).mono hB.out.size))
              replace Va := Kept.mk (Va.out.keep (hb1))
              replace Vx := Kept.mk (Vx.out.keep (hb1))
              replace Vb := Kept.mk (Vb.out.keep (hb1))
              clear hb1
              obtain ⟨qb, rb, xb, sb, ib, kb0, kb1, kb2⟩ := Vb.out.open_
              have Xb := Kept.mk xb
              have Sb := Kept.mk sb
              have Ib := Kept.mk ib
              clear xb sb ib
              go_wp2_with fail
              ((with_reducible refine (gd_sum B K (T + a4) true _ _ Xb.out FB.out N5.out N6.out).mono ?_); rintro e W10 ⟨rfl, hb1⟩)
              clear Xb Sb Ib kb0 kb1 kb2
              replace hB := Kept.mk (hB.out.trans ((hb1).mono hB.out.size))
              replace Va := Kept.mk (Va.out.keep (hb1))
              replace Vx := Kept.mk (Vx.out.keep (hb1))
              replace Vb := Kept.mk (Vb.out.keep (hb1))
              clear hb1
              clear Vx Vb FG E0 N6 FB B0 HB0 N5
              obtain ⟨qa, ra, xa, sa, ia, ka0, ka1, ka2⟩ := Va.out.open_
              have Xa := Kept.mk xa
              have Sa := Kept.mk sa
              have Ia := Kept.mk ia
              clear xa sa ia
              go_wp2_with fail
              clear n1 n2 hsb HT HZ
              by_cases h0 : es = 0
              · skip
                subst h0
                obtain ⟨f1, f2, f4, f5, f6⟩ := set_facts fl Hes.out
                obtain ⟨T, hT⟩ : ∃ T, flagT F0 K = T := ⟨_, rfl⟩
                obtain ⟨z, hz⟩ : ∃ z, heldB F0 3 K = z := ⟨_, rfl⟩
                rw [hT] at f5
                obtain ⟨Y, hY⟩ : ∃ Y, T ||| fl = Y := ⟨_, rfl⟩
                rw [hY] at f5
                have hor : bits .or .u64 (T.toNat : Int) (fl.toNat : Int) = (Y.toNat : Int) := by rw [or_u64, hY]
                have HT := Kept.mk hT
                have HZ := Kept.mk hz
                clear hT hz hY
                rw [HGs.out] at f1 f2 f4 f5 f6
                have FG := Kept.mk f1
                have E0 := Kept.mk f4
                have N6 := Kept.mk f6
                have N5 := Kept.mk f5
                obtain ⟨B, hB0⟩ : ∃ B, joinAF F0 Gs = B := ⟨_, rfl⟩
                have HB0 := Kept.mk hB0
                rw [hB0] at f2 N6 N5
                have FB := Kept.mk f2
                obtain ⟨jb, hjb⟩ : ∃ jb, joinAB F0 Gs = jb := ⟨_, rfl⟩
                have B0 := Kept.mk hjb
                clear hjb
                clear hB0 f1 f2 f4 f6 f5
                ((with_reducible refine (gd_set F0 K fl 0 Gs _ _ Xa.out FFa.out g0 Hes.out HGs.out).mono ?_); rintro e U ⟨v', rfl, ⟨p', m', rfl, hp', hm'⟩, hb1⟩)
                obtain ⟨K1, K2, K3, K4, K5⟩ := enew U Gs p' m' hp' hm' U.heap.size rfl
                clear hp' hm'
                clear Xa Sa Ia ka0 ka1 ka2
                replace hB := Kept.mk (hB.out.trans ((hb1).mono hB.out.size))
                replace Va := Kept.mk (Va.out.keep (hb1))
                clear hb1
                go_wp2_with (have hz0 := K1; refine wpList_storeN 30 rfl (.tmp 38) (.tmp 185) rfl U.heap.size [.string ⟨Gs.key.toArray⟩, .int .i64 Gs.val.kind, .int .i64 Gs.val.time, .int .i64 Gs.val.node, .bool Gs.val.dead, .string ⟨Gs.val.text.toArray⟩, p', m', .int .u64 (Gs.val.flags.toNat : Int)] size_en rfl rfl K1.out rfl K2.out K5.out ?_; replace hB := Kept.mk (hB.out.trans ((K3.out).mono hB.out.size)); replace Va := Kept.mk (Va.out.keep (K3.out)); have Vx := Kept.mk (show VarN _ _ Gs from ⟨_, _, K4.out⟩); clear hz0 K1 K2 K3 K4 K5; generalize setN (U.alloc (.cells #[.string ⟨#[]⟩, .int .i64 0, .int .i64 0, .int .i64 0, .bool false, .string ⟨#[]⟩, .slice none 0 0, .slice none 0 0, .int .u64 0] 30)) U.heap.size 0 [.string ⟨Gs.key.toArray⟩, .int .i64 Gs.val.kind, .int .i64 Gs.val.time, .int .i64 Gs.val.node, .bool Gs.val.dead, .string ⟨Gs.val.text.toArray⟩, p', m', .int .u64 (Gs.val.flags.toNat : Int)] = W11 at *; generalize U.heap.size = gx at *; obtain ⟨qa, ra, xa, sa, ia, ka0, ka1, ka2⟩ := Va.out.open_; have Xa := Kept.mk xa; have Sa := Kept.mk sa; have Ia := Kept.mk ia; clear xa sa ia; obtain ⟨qx, rx, xx, yx, kx0, kx1, kx2, kx3, kx4, kx5, kx6, kx7, kx8⟩ := Vx.out.open_; have Xx := Kept.mk xx; have Yx := Kept.mk yx; clear xx yx)
                ((with_reducible refine (ga_join F0 Gs B jb 0 _ _ _ Xa.out Xx.out FFa.out FG.out HB0.out B0.out E0.out).mono ?_); rintro e U ⟨v', rfl, ⟨p', m', rfl, hp', hm'⟩, hb1⟩)
                obtain ⟨K1, K2, K3, K4, K5⟩ := anew U B p' m' hp' hm' U.heap.size rfl
                clear hp' hm'
                clear Xa Sa Ia ka0 ka1 ka2
                clear Xx Yx kx0 kx1 kx2 kx3 kx4 kx5 kx6 kx7 kx8
                replace hB := Kept.mk (hB.out.trans ((hb1).mono hB.out.size))
                replace Va := Kept.mk (Va.out.keep (hb1))
                replace Vx := Kept.mk (Vx.out.keep (hb1))
                clear hb1
                go_wp2_with (have hz0 := K1; refine wpList_storeN 25 rfl (.tmp 40) (.tmp 193) rfl U.heap.size [.int .i64 B.cap, p', m'] size_ar rfl rfl K1.out rfl K2.out K5.out ?_; replace hB := Kept.mk (hB.out.trans ((K3.out).mono hB.out.size)); replace Va := Kept.mk (Va.out.keep (K3.out)); replace Vx := Kept.mk (Vx.out.keep (K3.out)); have Vb := Kept.mk K4.out; clear hz0 K1 K2 K3 K4 K5; generalize setN (U.alloc (.cells #[.int .i64 0, .slice none 0 0, .slice none 0 0] 25)) U.heap.size 0 [.int .i64 B.cap, p', m'] = W12 at *; generalize U.heap.size = gb at *; obtain ⟨qa, ra, xa, sa, ia, ka0, ka1, ka2⟩ := Va.out.open_; have Xa := Kept.mk xa; have Sa := Kept.mk sa; have Ia := Kept.mk ia; clear xa sa ia)
                ((with_reducible refine (gd_flags F0 K T z _ _ Xa.out FFa.out HT.out HZ.out).mono ?_); rintro e W13 ⟨rfl, hb1⟩)
                clear Xa Sa Ia ka0 ka1 ka2
                replace hB := Kept.mk (hB.out.trans ((hb1).mono hB.out.size))
                replace Va := Kept.mk (Va.out.keep (hb1))
                replace Vx := Kept.mk (Vx.out.keep (hb1))
                replace Vb := Kept.mk (Vb.out.keep (hb1))
                clear hb1
                obtain ⟨qb, rb, xb, sb, ib, kb0, kb1, kb2⟩ := Vb.out.open_
                have Xb := Kept.mk xb
                have Sb := Kept.mk sb
                have Ib := Kept.mk ib
                clear xb sb ib
                go_wp2_with fail
                ((with_reducible refine (gd_flags B K Y true _ _ Xb.out FB.out N5.out N6.out).mono ?_); rintro e W14 ⟨rfl, hb1⟩)
                clear Xb Sb Ib kb0 kb1 kb2
                replace hB := Kept.mk (hB.out.trans ((hb1).mono hB.out.size))
                replace Va := Kept.mk (Va.out.keep (hb1))
                replace Vx := Kept.mk (Vx.out.keep (hb1))
                replace Vb := Kept.mk (Vb.out.keep (hb1))
                clear hb1
                clear Vx Vb FG E0 N6 FB B0 HB0 N5
                go_wp2
                all_goals go_ret
                all_goals exact ⟨rfl, hB.out⟩
              · skip
                ((with_reducible refine (gd_set F0 K fl es Gs _ _ Xa.out FFa.out g0 Hes.out HGs.out).mono ?_); rintro e U ⟨v', rfl, ⟨p', m', rfl, hp', hm'⟩, hb1⟩)
                obtain ⟨K1, K2, K3, K4, K5⟩ := enew U Gs p' m' hp' hm' U.heap.size rfl
                clear hp' hm'
                clear Xa Sa Ia ka0 ka1 ka2
                replace hB := Kept.mk (hB.out.trans ((hb1).mono hB.out.size))
                replace Va := Kept.mk (Va.out.keep (hb1))
                clear hb1
                go_wp2_with (have hz0 := K1; refine wpList_storeN 30 rfl (.tmp 38) (.tmp 185) rfl U.heap.size [.string ⟨Gs.key.toArray⟩, .int .i64 Gs.val.kind, .int .i64 Gs.val.time, .int .i64 Gs.val.node, .bool Gs.val.dead, .string ⟨Gs.val.text.toArray⟩, p', m', .int .u64 (Gs.val.flags.toNat : Int)] size_en rfl rfl K1.out rfl K2.out K5.out ?_; replace hB := Kept.mk (hB.out.trans ((K3.out).mono hB.out.size)); replace Va := Kept.mk (Va.out.keep (K3.out)); have Vx := Kept.mk (show VarN _ _ Gs from ⟨_, _, K4.out⟩); clear hz0 K1 K2 K3 K4 K5; generalize setN (U.alloc (.cells #[.string ⟨#[]⟩, .int .i64 0, .int .i64 0, .int .i64 0, .bool false, .string ⟨#[]⟩, .slice none 0 0, .slice none 0 0, .int .u64 0] 30)) U.heap.size 0 [.string ⟨Gs.key.toArray⟩, .int .i64 Gs.val.kind, .int .i64 Gs.val.time, .int .i64 Gs.val.node, .bool Gs.val.dead, .string ⟨Gs.val.text.toArray⟩, p', m', .int .u64 (Gs.val.flags.toNat : Int)] = W11 at *; generalize U.heap.size = gx at *; obtain ⟨qa, ra, xa, sa, ia, ka0, ka1, ka2⟩ := Va.out.open_; have Xa := Kept.mk xa; have Sa := Kept.mk sa; have Ia := Kept.mk ia; clear xa sa ia)
                clear Vx h0
                go_wp2
                all_goals go_ret
                all_goals exact ⟨rfl, hB.out⟩
            · skip
              ((with_reducible refine (gd_add F0 a1 K a4 et Gt _ _ Xa.out FFa.out g0 Het.out HGt.out).mono ?_); rintro e U ⟨v', rfl, ⟨p', m', rfl, hp', hm'⟩, hb1⟩)
              obtain ⟨K1, K2, K3, K4, K5⟩ := enew U Gt p' m' hp' hm' U.heap.size rfl
              clear hp' hm'
              clear Xa Sa Ia ka0 ka1 ka2
              replace hB := Kept.mk (hB.out.trans ((hb1).mono hB.out.size))
              replace Va := Kept.mk (Va.out.keep (hb1))
              clear hb1
              go_wp2_with (have hz0 := K1; refine wpList_storeN 30 rfl (.tmp 29) (.tmp 140) rfl U.heap.size [.string ⟨Gt.key.toArray⟩, .int .i64 Gt.val.kind, .int .i64 Gt.val.time, .int .i64 Gt.val.node, .bool Gt.val.dead, .string ⟨Gt.val.text.toArray⟩, p', m', .int .u64 (Gt.val.flags.toNat : Int)] size_en rfl rfl K1.out rfl K2.out K5.out ?_; replace hB := Kept.mk (hB.out.trans ((K3.out).mono hB.out.size)); replace Va := Kept.mk (Va.out.keep (K3.out)); have Vx := Kept.mk (show VarN _ _ Gt from ⟨_, _, K4.out⟩); clear hz0 K1 K2 K3 K4 K5; generalize setN (U.alloc (.cells #[.string ⟨#[]⟩, .int .i64 0, .int .i64 0, .int .i64 0, .bool false, .string ⟨#[]⟩, .slice none 0 0, .slice none 0 0, .int .u64 0] 30)) U.heap.size 0 [.string ⟨Gt.key.toArray⟩, .int .i64 Gt.val.kind, .int .i64 Gt.val.time, .int .i64 Gt.val.node, .bool Gt.val.dead, .string ⟨Gt.val.text.toArray⟩, p', m', .int .u64 (Gt.val.flags.toNat : Int)] = W7 at *; generalize U.heap.size = gx at *; obtain ⟨qa, ra, xa, sa, ia, ka0, ka1, ka2⟩ := Va.out.open_; have Xa := Kept.mk xa; have Sa := Kept.mk sa; have Ia := Kept.mk ia; clear xa sa ia)
              clear Vx h0
              by_cases h0 : es = 0
              · skip
                subst h0
                obtain ⟨f1, f2, f4, f5, f6⟩ := set_facts fl Hes.out
                obtain ⟨T, hT⟩ : ∃ T, flagT F0 K = T := ⟨_, rfl⟩
                obtain ⟨z, hz⟩ : ∃ z, heldB F0 3 K = z := ⟨_, rfl⟩
                rw [hT] at f5
                obtain ⟨Y, hY⟩ : ∃ Y, T ||| fl = Y := ⟨_, rfl⟩
                rw [hY] at f5
                have hor : bits .or .u64 (T.toNat : Int) (fl.toNat : Int) = (Y.toNat : Int) := by rw [or_u64, hY]
                have HT := Kept.mk hT
                have HZ := Kept.mk hz
                clear hT hz hY
                rw [HGs.out] at f1 f2 f4 f5 f6
                have FG := Kept.mk f1
                have E0 := Kept.mk f4
                have N6 := Kept.mk f6
                have N5 := Kept.mk f5
                obtain ⟨B, hB0⟩ : ∃ B, joinAF F0 Gs = B := ⟨_, rfl⟩
                have HB0 := Kept.mk hB0
                rw [hB0] at f2 N6 N5
                have FB := Kept.mk f2
                obtain ⟨jb, hjb⟩ : ∃ jb, joinAB F0 Gs = jb := ⟨_, rfl⟩
                have B0 := Kept.mk hjb
                clear hjb
                clear hB0 f1 f2 f4 f6 f5
                ((with_reducible refine (gd_set F0 K fl 0 Gs _ _ Xa.out FFa.out g0 Hes.out HGs.out).mono ?_); rintro e U ⟨v', rfl, ⟨p', m', rfl, hp', hm'⟩, hb1⟩)
                obtain ⟨K1, K2, K3, K4, K5⟩ := enew U Gs p' m' hp' hm' U.heap.size rfl
                clear hp' hm'
                clear Xa Sa Ia ka0 ka1 ka2
                replace hB := Kept.mk (hB.out.trans ((hb1).mono hB.out.size))
                replace Va := Kept.mk (Va.out.keep (hb1))
                clear hb1
                go_wp2_with (have hz0 := K1; refine wpList_storeN 30 rfl (.tmp 38) (.tmp 185) rfl U.heap.size [.string ⟨Gs.key.toArray⟩, .int .i64 Gs.val.kind, .int .i64 Gs.val.time, .int .i64 Gs.val.node, .bool Gs.val.dead, .string ⟨Gs.val.text.toArray⟩, p', m', .int .u64 (Gs.val.flags.toNat : Int)] size_en rfl rfl K1.out rfl K2.out K5.out ?_; replace hB := Kept.mk (hB.out.trans ((K3.out).mono hB.out.size)); replace Va := Kept.mk (Va.out.keep (K3.out)); have Vx := Kept.mk (show VarN _ _ Gs from ⟨_, _, K4.out⟩); clear hz0 K1 K2 K3 K4 K5; generalize setN (U.alloc (.cells #[.string ⟨#[]⟩, .int .i64 0, .int .i64 0, .int .i64 0, .bool false, .string ⟨#[]⟩, .slice none 0 0, .slice none 0 0, .int .u64 0] 30)) U.heap.size 0 [.string ⟨Gs.key.toArray⟩, .int .i64 Gs.val.kind, .int .i64 Gs.val.time, .int .i64 Gs.val.node, .bool Gs.val.dead, .string ⟨Gs.val.text.toArray⟩, p', m', .int .u64 (Gs.val.flags.toNat : Int)] = W8 at *; generalize U.heap.size = gx at *; obtain ⟨qa, ra, xa, sa, ia, ka0, ka1, ka2⟩ := Va.out.open_; have Xa := Kept.mk xa; have Sa := Kept.mk sa; have Ia := Kept.mk ia; clear xa sa ia; obtain ⟨qx, rx, xx, yx, kx0, kx1, kx2, kx3, kx4, kx5, kx6, kx7, kx8⟩ := Vx.out.open_; have Xx := Kept.mk xx; have Yx := Kept.mk yx; clear xx yx)
                ((with_reducible refine (ga_join F0 Gs B jb 0 _ _ _ Xa.out Xx.out FFa.out FG.out HB0.out B0.out E0.out).mono ?_); rintro e U ⟨v', rfl, ⟨p', m', rfl, hp', hm'⟩, hb1⟩)
                obtain ⟨K1, K2, K3, K4, K5⟩ := anew U B p' m' hp' hm' U.heap.size rfl
                clear hp' hm'
                clear Xa Sa Ia ka0 ka1 ka2
                clear Xx Yx kx0 kx1 kx2 kx3 kx4 kx5 kx6 kx7 kx8
                replace hB := Kept.mk (hB.out.trans ((hb1).mono hB.out.size))
                replace Va := Kept.mk (Va.out.keep (hb1))
                replace Vx := Kept.mk (Vx.out.keep (hb1))
                clear hb1
                go_wp2_with (have hz0 := K1; refine wpList_storeN 25 rfl (.tmp 40) (.tmp 193) rfl U.heap.size [.int .i64 B.cap, p', m'] size_ar rfl rfl K1.out rfl K2.out K5.out ?_; replace hB := Kept.mk (hB.out.trans ((K3.out).mono hB.out.size)); replace Va := Kept.mk (Va.out.keep (K3.out)); replace Vx := Kept.mk (Vx.out.keep (K3.out)); have Vb := Kept.mk K4.out; clear hz0 K1 K2 K3 K4 K5; generalize setN (U.alloc (.cells #[.int .i64 0, .slice none 0 0, .slice none 0 0] 25)) U.heap.size 0 [.int .i64 B.cap, p', m'] = W9 at *; generalize U.heap.size = gb at *; obtain ⟨qa, ra, xa, sa, ia, ka0, ka1, ka2⟩ := Va.out.open_; have Xa := Kept.mk xa; have Sa := Kept.mk sa; have Ia := Kept.mk ia; clear xa sa ia)
                ((with_reducible refine (gd_flags F0 K T z _ _ Xa.out FFa.out HT.out HZ.out).mono ?_); rintro e W10 ⟨rfl, hb1⟩)
                clear Xa Sa Ia ka0 ka1 ka2
                replace hB := Kept.mk (hB.out.trans ((hb1).mono hB.out.size))
                replace Va := Kept.mk (Va.out.keep (hb1))
                replace Vx := Kept.mk (Vx.out.keep (hb1))
                replace Vb := Kept.mk (Vb.out.keep (hb1))
                clear hb1
                obtain ⟨qb, rb, xb, sb, ib, kb0, kb1, kb2⟩ := Vb.out.open_
                have Xb := Kept.mk xb
                have Sb := Kept.mk sb
                have Ib := Kept.mk ib
                clear xb sb ib
                go_wp2_with fail
                ((with_reducible refine (gd_flags B K Y true _ _ Xb.out FB.out N5.out N6.out).mono ?_); rintro e W11 ⟨rfl, hb1⟩)
                clear Xb Sb Ib kb0 kb1 kb2
                replace hB := Kept.mk (hB.out.trans ((hb1).mono hB.out.size))
                replace Va := Kept.mk (Va.out.keep (hb1))
                replace Vx := Kept.mk (Vx.out.keep (hb1))
                replace Vb := Kept.mk (Vb.out.keep (hb1))
                clear hb1
                clear Vx Vb FG E0 N6 FB B0 HB0 N5
                go_wp2
                all_goals go_ret
                all_goals exact ⟨rfl, hB.out⟩
              · skip
                ((with_reducible refine (gd_set F0 K fl es Gs _ _ Xa.out FFa.out g0 Hes.out HGs.out).mono ?_); rintro e U ⟨v', rfl, ⟨p', m', rfl, hp', hm'⟩, hb1⟩)
                obtain ⟨K1, K2, K3, K4, K5⟩ := enew U Gs p' m' hp' hm' U.heap.size rfl
                clear hp' hm'
                clear Xa Sa Ia ka0 ka1 ka2
                replace hB := Kept.mk (hB.out.trans ((hb1).mono hB.out.size))
                replace Va := Kept.mk (Va.out.keep (hb1))
                clear hb1
                go_wp2_with (have hz0 := K1; refine wpList_storeN 30 rfl (.tmp 38) (.tmp 185) rfl U.heap.size [.string ⟨Gs.key.toArray⟩, .int .i64 Gs.val.kind, .int .i64 Gs.val.time, .int .i64 Gs.val.node, .bool Gs.val.dead, .string ⟨Gs.val.text.toArray⟩, p', m', .int .u64 (Gs.val.flags.toNat : Int)] size_en rfl rfl K1.out rfl K2.out K5.out ?_; replace hB := Kept.mk (hB.out.trans ((K3.out).mono hB.out.size)); replace Va := Kept.mk (Va.out.keep (K3.out)); have Vx := Kept.mk (show VarN _ _ Gs from ⟨_, _, K4.out⟩); clear hz0 K1 K2 K3 K4 K5; generalize setN (U.alloc (.cells #[.string ⟨#[]⟩, .int .i64 0, .int .i64 0, .int .i64 0, .bool false, .string ⟨#[]⟩, .slice none 0 0, .slice none 0 0, .int .u64 0] 30)) U.heap.size 0 [.string ⟨Gs.key.toArray⟩, .int .i64 Gs.val.kind, .int .i64 Gs.val.time, .int .i64 Gs.val.node, .bool Gs.val.dead, .string ⟨Gs.val.text.toArray⟩, p', m', .int .u64 (Gs.val.flags.toNat : Int)] = W8 at *; generalize U.heap.size = gx at *; obtain ⟨qa, ra, xa, sa, ia, ka0, ka1, ka2⟩ := Va.out.open_; have Xa := Kept.mk xa; have Sa := Kept.mk sa; have Ia := Kept.mk ia; clear xa sa ia)
                clear Vx h0
                go_wp2
                all_goals go_ret
                all_goals exact ⟨rfl, hB.out⟩
        · skip
          ((with_reducible refine (gd_put F0 a1 K X ep Gp _ _ Xa.out FFa.out g0 g1 Hep.out HGp.out).mono ?_); rintro e U ⟨v', rfl, ⟨p', m', rfl, hp', hm'⟩, hb1⟩)
          obtain ⟨K1, K2, K3, K4, K5⟩ := enew U Gp p' m' hp' hm' U.heap.size rfl
          clear hp' hm'
          clear Xa Sa Ia ka0 ka1 ka2
          replace hB := Kept.mk (hB.out.trans ((hb1).mono hB.out.size))
          replace Va := Kept.mk (Va.out.keep (hb1))
          clear hb1
          go_wp2_with (have hz0 := K1; refine wpList_storeN 30 rfl (.tmp 15) (.tmp 71) rfl U.heap.size [.string ⟨Gp.key.toArray⟩, .int .i64 Gp.val.kind, .int .i64 Gp.val.time, .int .i64 Gp.val.node, .bool Gp.val.dead, .string ⟨Gp.val.text.toArray⟩, p', m', .int .u64 (Gp.val.flags.toNat : Int)] size_en rfl rfl K1.out rfl K2.out K5.out ?_; replace hB := Kept.mk (hB.out.trans ((K3.out).mono hB.out.size)); replace Va := Kept.mk (Va.out.keep (K3.out)); have Vx := Kept.mk (show VarN _ _ Gp from ⟨_, _, K4.out⟩); clear hz0 K1 K2 K3 K4 K5; generalize setN (U.alloc (.cells #[.string ⟨#[]⟩, .int .i64 0, .int .i64 0, .int .i64 0, .bool false, .string ⟨#[]⟩, .slice none 0 0, .slice none 0 0, .int .u64 0] 30)) U.heap.size 0 [.string ⟨Gp.key.toArray⟩, .int .i64 Gp.val.kind, .int .i64 Gp.val.time, .int .i64 Gp.val.node, .bool Gp.val.dead, .string ⟨Gp.val.text.toArray⟩, p', m', .int .u64 (Gp.val.flags.toNat : Int)] = W3 at *; generalize U.heap.size = gx at *; obtain ⟨qa, ra, xa, sa, ia, ka0, ka1, ka2⟩ := Va.out.open_; have Xa := Kept.mk xa; have Sa := Kept.mk sa; have Ia := Kept.mk ia; clear xa sa ia)
          clear Vx h0
          by_cases h0 : ed = 0
          · skip
            subst h0
            obtain ⟨f1, f2, f3, f4, f6⟩ := del_facts Hed.out
            rw [HGd.out] at f1 f2 f3 f4 f6
            have FG := Kept.mk f1
            have E0 := Kept.mk f4
            have N6 := Kept.mk f6
            obtain ⟨B, hB0⟩ : ∃ B, joinAF F0 Gd = B := ⟨_, rfl⟩
            have HB0 := Kept.mk hB0
            rw [hB0] at f2 N6
            have FB := Kept.mk f2
            have B0 := Kept.mk f3
            clear hB0 f1 f2 f4 f6 f3
            ((with_reducible refine (gd_del F0 a1 K 0 Gd _ _ Xa.out FFa.out g0 Hed.out HGd.out).mono ?_); rintro e U ⟨v', rfl, ⟨p', m', rfl, hp', hm'⟩, hb1⟩)
            obtain ⟨K1, K2, K3, K4, K5⟩ := enew U Gd p' m' hp' hm' U.heap.size rfl
            clear hp' hm'
            clear Xa Sa Ia ka0 ka1 ka2
            replace hB := Kept.mk (hB.out.trans ((hb1).mono hB.out.size))
            replace Va := Kept.mk (Va.out.keep (hb1))
            clear hb1
            go_wp2_with (have hz0 := K1; refine wpList_storeN 30 rfl (.tmp 22) (.tmp 108) rfl U.heap.size [.string ⟨Gd.key.toArray⟩, .int .i64 Gd.val.kind, .int .i64 Gd.val.time, .int .i64 Gd.val.node, .bool Gd.val.dead, .string ⟨Gd.val.text.toArray⟩, p', m', .int .u64 (Gd.val.flags.toNat : Int)] size_en rfl rfl K1.out rfl K2.out K5.out ?_; replace hB := Kept.mk (hB.out.trans ((K3.out).mono hB.out.size)); replace Va := Kept.mk (Va.out.keep (K3.out)); have Vx := Kept.mk (show VarN _ _ Gd from ⟨_, _, K4.out⟩); clear hz0 K1 K2 K3 K4 K5; generalize setN (U.alloc (.cells #[.string ⟨#[]⟩, .int .i64 0, .int .i64 0, .int .i64 0, .bool false, .string ⟨#[]⟩, .slice none 0 0, .slice none 0 0, .int .u64 0] 30)) U.heap.size 0 [.string ⟨Gd.key.toArray⟩, .int .i64 Gd.val.kind, .int .i64 Gd.val.time, .int .i64 Gd.val.node, .bool Gd.val.dead, .string ⟨Gd.val.text.toArray⟩, p', m', .int .u64 (Gd.val.flags.toNat : Int)] = W4 at *; generalize U.heap.size = gx at *; obtain ⟨qa, ra, xa, sa, ia, ka0, ka1, ka2⟩ := Va.out.open_; have Xa := Kept.mk xa; have Sa := Kept.mk sa; have Ia := Kept.mk ia; clear xa sa ia; obtain ⟨qx, rx, xx, yx, kx0, kx1, kx2, kx3, kx4, kx5, kx6, kx7, kx8⟩ := Vx.out.open_; have Xx := Kept.mk xx; have Yx := Kept.mk yx; clear xx yx)
            ((with_reducible refine (ga_join F0 Gd B true 0 _ _ _ Xa.out Xx.out FFa.out FG.out HB0.out B0.out E0.out).mono ?_); rintro e U ⟨v', rfl, ⟨p', m', rfl, hp', hm'⟩, hb1⟩)
            obtain ⟨K1, K2, K3, K4, K5⟩ := anew U B p' m' hp' hm' U.heap.size rfl
            clear hp' hm'
            clear Xa Sa Ia ka0 ka1 ka2
            clear Xx Yx kx0 kx1 kx2 kx3 kx4 kx5 kx6 kx7 kx8
            replace hB := Kept.mk (hB.out.trans ((hb1).mono hB.out.size))
            replace Va := Kept.mk (Va.out.keep (hb1))
            replace Vx := Kept.mk (Vx.out.keep (hb1))
            clear hb1
            go_wp2_with (have hz0 := K1; refine wpList_storeN 25 rfl (.tmp 24) (.tmp 116) rfl U.heap.size [.int .i64 B.cap, p', m'] size_ar rfl rfl K1.out rfl K2.out K5.out ?_; replace hB := Kept.mk (hB.out.trans ((K3.out).mono hB.out.size)); replace Va := Kept.mk (Va.out.keep (K3.out)); replace Vx := Kept.mk (Vx.out.keep (K3.out)); have Vb := Kept.mk K4.out; clear hz0 K1 K2 K3 K4 K5; generalize setN (U.alloc (.cells #[.int .i64 0, .slice none 0 0, .slice none 0 0] 25)) U.heap.size 0 [.int .i64 B.cap, p', m'] = W5 at *; generalize U.heap.size = gb at *; obtain ⟨qb, rb, xb, sb, ib, kb0, kb1, kb2⟩ := Vb.out.open_; have Xb := Kept.mk xb; have Sb := Kept.mk sb; have Ib := Kept.mk ib; clear xb sb ib)
            ((with_reducible refine (gd_text B K _ false _ _ Xb.out FB.out rfl N6.out).mono ?_); rintro e W6 ⟨rfl, hb1⟩)
            clear Xb Sb Ib kb0 kb1 kb2
            replace hB := Kept.mk (hB.out.trans ((hb1).mono hB.out.size))
            replace Va := Kept.mk (Va.out.keep (hb1))
            replace Vx := Kept.mk (Vx.out.keep (hb1))
            replace Vb := Kept.mk (Vb.out.keep (hb1))
            clear hb1
            clear Vx Vb FG E0 N6 FB B0 HB0
            obtain ⟨qa, ra, xa, sa, ia, ka0, ka1, ka2⟩ := Va.out.open_
            have Xa := Kept.mk xa
            have Sa := Kept.mk sa
            have Ia := Kept.mk ia
            clear xa sa ia
            go_wp2_with fail
            by_cases h0 : et = 0
            · skip
              subst h0
              obtain ⟨f1, f2, f3, f4, f5, f6, n1, n2⟩ := add_facts Het.out
              have hsb := sumT_bound F0 K
              obtain ⟨T, hT⟩ : ∃ T, sumT F0 K = T := ⟨_, rfl⟩
              obtain ⟨z, hz⟩ : ∃ z, heldB F0 2 K = z := ⟨_, rfl⟩
              rw [hT] at f5 hsb
              have HT := Kept.mk hT
              have HZ := Kept.mk hz
              clear hT hz
              rw [HGt.out] at f1 f2 f3 f4 f5 f6
              have FG := Kept.mk f1
              have E0 := Kept.mk f4
              have N6 := Kept.mk f6
              have N5 := Kept.mk f5
              obtain ⟨B, hB0⟩ : ∃ B, joinAF F0 Gt = B := ⟨_, rfl⟩
              have HB0 := Kept.mk hB0
              rw [hB0] at f2 N6 N5
              have FB := Kept.mk f2
              have B0 := Kept.mk f3
              clear hB0 f1 f2 f4 f6 f3 f5
              ((with_reducible refine (gd_add F0 a1 K a4 0 Gt _ _ Xa.out FFa.out g0 Het.out HGt.out).mono ?_); rintro e U ⟨v', rfl, ⟨p', m', rfl, hp', hm'⟩, hb1⟩)
              obtain ⟨K1, K2, K3, K4, K5⟩ := enew U Gt p' m' hp' hm' U.heap.size rfl
              clear hp' hm'
              clear Xa Sa Ia ka0 ka1 ka2
              replace hB := Kept.mk (hB.out.trans ((hb1).mono hB.out.size))
              replace Va := Kept.mk (Va.out.keep (hb1))
              clear hb1
              go_wp2_with (have hz0 := K1; refine wpList_storeN 30 rfl (.tmp 29) (.tmp 140) rfl U.heap.size [.string ⟨Gt.key.toArray⟩, .int .i64 Gt.val.kind, .int .i64 Gt.val.time, .int .i64 Gt.val.node, .bool Gt.val.dead, .string ⟨Gt.val.text.toArray⟩, p', m', .int .u64 (Gt.val.flags.toNat : Int)] size_en rfl rfl K1.out rfl K2.out K5.out ?_; replace hB := Kept.mk (hB.out.trans ((K3.out).mono hB.out.size)); replace Va := Kept.mk (Va.out.keep (K3.out)); have Vx := Kept.mk (show VarN _ _ Gt from ⟨_, _, K4.out⟩); clear hz0 K1 K2 K3 K4 K5; generalize setN (U.alloc (.cells #[.string ⟨#[]⟩, .int .i64 0, .int .i64 0, .int .i64 0, .bool false, .string ⟨#[]⟩, .slice none 0 0, .slice none 0 0, .int .u64 0] 30)) U.heap.size 0 [.string ⟨Gt.key.toArray⟩, .int .i64 Gt.val.kind, .int .i64 Gt.val.time, .int .i64 Gt.val.node, .bool Gt.val.dead, .string ⟨Gt.val.text.toArray⟩, p', m', .int .u64 (Gt.val.flags.toNat : Int)] = W7 at *; generalize U.heap.size = gx at *; obtain ⟨qa, ra, xa, sa, ia, ka0, ka1, ka2⟩ := Va.out.open_; have Xa := Kept.mk xa; have Sa := Kept.mk sa; have Ia := Kept.mk ia; clear xa sa ia; obtain ⟨qx, rx, xx, yx, kx0, kx1, kx2, kx3, kx4, kx5, kx6, kx7, kx8⟩ := Vx.out.open_; have Xx := Kept.mk xx; have Yx := Kept.mk yx; clear xx yx)
              ((with_reducible refine (ga_join F0 Gt B true 0 _ _ _ Xa.out Xx.out FFa.out FG.out HB0.out B0.out E0.out).mono ?_); rintro e U ⟨v', rfl, ⟨p', m', rfl, hp', hm'⟩, hb1⟩)
              obtain ⟨K1, K2, K3, K4, K5⟩ := anew U B p' m' hp' hm' U.heap.size rfl
              clear hp' hm'
              clear Xa Sa Ia ka0 ka1 ka2
              clear Xx Yx kx0 kx1 kx2 kx3 kx4 kx5 kx6 kx7 kx8
              replace hB := Kept.mk (hB.out.trans ((hb1).mono hB.out.size))
              replace Va := Kept.mk (Va.out.keep (hb1))
              replace Vx := Kept.mk (Vx.out.keep (hb1))
              clear hb1
              go_wp2_with (have hz0 := K1; refine wpList_storeN 25 rfl (.tmp 31) (.tmp 148) rfl U.heap.size [.int .i64 B.cap, p', m'] size_ar rfl rfl K1.out rfl K2.out K5.out ?_; replace hB := Kept.mk (hB.out.trans ((K3.out).mono hB.out.size)); replace Va := Kept.mk (Va.out.keep (K3.out)); replace Vx := Kept.mk (Vx.out.keep (K3.out)); have Vb := Kept.mk K4.out; clear hz0 K1 K2 K3 K4 K5; generalize setN (U.alloc (.cells #[.int .i64 0, .slice none 0 0, .slice none 0 0] 25)) U.heap.size 0 [.int .i64 B.cap, p', m'] = W8 at *; generalize U.heap.size = gb at *; obtain ⟨qa, ra, xa, sa, ia, ka0, ka1, ka2⟩ := Va.out.open_; have Xa := Kept.mk xa; have Sa := Kept.mk sa; have Ia := Kept.mk ia; clear xa sa ia)
              ((with_reducible refine (gd_sum F0 K T z _ _ Xa.out FFa.out HT.out HZ.out).mono ?_); rintro e W9 ⟨rfl, hb1⟩)
              clear Xa Sa Ia ka0 ka1 ka2
              replace hB := Kept.mk (hB.out.trans ((hb1).mono hB.out.size))
              replace Va := Kept.mk (Va.out.keep (hb1))
              replace Vx := Kept.mk (Vx.out.keep (hb1))
              replace Vb := Kept.mk (Vb.out.keep (hb1))
              clear hb1
              obtain ⟨qb, rb, xb, sb, ib, kb0, kb1, kb2⟩ := Vb.out.open_
              have Xb := Kept.mk xb
              have Sb := Kept.mk sb
              have Ib := Kept.mk ib
              clear xb sb ib
              go_wp2_with fail
              ((with_reducible refine (gd_sum B K (T + a4) true _ _ Xb.out FB.out N5.out N6.out).mono ?_); rintro e W10 ⟨rfl, hb1⟩)
              clear Xb Sb Ib kb0 kb1 kb2
              replace hB := Kept.mk (hB.out.trans ((hb1).mono hB.out.size))
              replace Va := Kept.mk (Va.out.keep (hb1))
              replace Vx := Kept.mk (Vx.out.keep (hb1))
              replace Vb := Kept.mk (Vb.out.keep (hb1))
              clear hb1
              clear Vx Vb FG E0 N6 FB B0 HB0 N5
              obtain ⟨qa, ra, xa, sa, ia, ka0, ka1, ka2⟩ := Va.out.open_
              have Xa := Kept.mk xa
              have Sa := Kept.mk sa
              have Ia := Kept.mk ia
              clear xa sa ia
              go_wp2_with fail
              clear n1 n2 hsb HT HZ
              by_cases h0 : es = 0
              · skip
                subst h0
                obtain ⟨f1, f2, f4, f5, f6⟩ := set_facts fl Hes.out
                obtain ⟨T, hT⟩ : ∃ T, flagT F0 K = T := ⟨_, rfl⟩
                obtain ⟨z, hz⟩ : ∃ z, heldB F0 3 K = z := ⟨_, rfl⟩
                rw [hT] at f5
                obtain ⟨Y, hY⟩ : ∃ Y, T ||| fl = Y := ⟨_, rfl⟩
                rw [hY] at f5
                have hor : bits .or .u64 (T.toNat : Int) (fl.toNat : Int) = (Y.toNat : Int) := by rw [or_u64, hY]
                have HT := Kept.mk hT
                have HZ := Kept.mk hz
                clear hT hz hY
                rw [HGs.out] at f1 f2 f4 f5 f6
                have FG := Kept.mk f1
                have E0 := Kept.mk f4
                have N6 := Kept.mk f6
                have N5 := Kept.mk f5
                obtain ⟨B, hB0⟩ : ∃ B, joinAF F0 Gs = B := ⟨_, rfl⟩
                have HB0 := Kept.mk hB0
                rw [hB0] at f2 N6 N5
                have FB := Kept.mk f2
                obtain ⟨jb, hjb⟩ : ∃ jb, joinAB F0 Gs = jb := ⟨_, rfl⟩
                have B0 := Kept.mk hjb
                clear hjb
                clear hB0 f1 f2 f4 f6 f5
                ((with_reducible refine (gd_set F0 K fl 0 Gs _ _ Xa.out FFa.out g0 Hes.out HGs.out).mono ?_); rintro e U ⟨v', rfl, ⟨p', m', rfl, hp', hm'⟩, hb1⟩)
                obtain ⟨K1, K2, K3, K4, K5⟩ := enew U Gs p' m' hp' hm' U.heap.size rfl
                clear hp' hm'
                clear Xa Sa Ia ka0 ka1 ka2
                replace hB := Kept.mk (hB.out.trans ((hb1).mono hB.out.size))
                replace Va := Kept.mk (Va.out.keep (hb1))
                clear hb1
                go_wp2_with (have hz0 := K1; refine wpList_storeN 30 rfl (.tmp 38) (.tmp 185) rfl U.heap.size [.string ⟨Gs.key.toArray⟩, .int .i64 Gs.val.kind, .int .i64 Gs.val.time, .int .i64 Gs.val.node, .bool Gs.val.dead, .string ⟨Gs.val.text.toArray⟩, p', m', .int .u64 (Gs.val.flags.toNat : Int)] size_en rfl rfl K1.out rfl K2.out K5.out ?_; replace hB := Kept.mk (hB.out.trans ((K3.out).mono hB.out.size)); replace Va := Kept.mk (Va.out.keep (K3.out)); have Vx := Kept.mk (show VarN _ _ Gs from ⟨_, _, K4.out⟩); clear hz0 K1 K2 K3 K4 K5; generalize setN (U.alloc (.cells #[.string ⟨#[]⟩, .int .i64 0, .int .i64 0, .int .i64 0, .bool false, .string ⟨#[]⟩, .slice none 0 0, .slice none 0 0, .int .u64 0] 30)) U.heap.size 0 [.string ⟨Gs.key.toArray⟩, .int .i64 Gs.val.kind, .int .i64 Gs.val.time, .int .i64 Gs.val.node, .bool Gs.val.dead, .string ⟨Gs.val.text.toArray⟩, p', m', .int .u64 (Gs.val.flags.toNat : Int)] = W11 at *; generalize U.heap.size = gx at *; obtain ⟨qa, ra, xa, sa, ia, ka0, ka1, ka2⟩ := Va.out.open_; have Xa := Kept.mk xa; have Sa := Kept.mk sa; have Ia := Kept.mk ia; clear xa sa ia; obtain ⟨qx, rx, xx, yx, kx0, kx1, kx2, kx3, kx4, kx5, kx6, kx7, kx8⟩ := Vx.out.open_; have Xx := Kept.mk xx; have Yx := Kept.mk yx; clear xx yx)
                ((with_reducible refine (ga_join F0 Gs B jb 0 _ _ _ Xa.out Xx.out FFa.out FG.out HB0.out B0.out E0.out).mono ?_); rintro e U ⟨v', rfl, ⟨p', m', rfl, hp', hm'⟩, hb1⟩)
                obtain ⟨K1, K2, K3, K4, K5⟩ := anew U B p' m' hp' hm' U.heap.size rfl
                clear hp' hm'
                clear Xa Sa Ia ka0 ka1 ka2
                clear Xx Yx kx0 kx1 kx2 kx3 kx4 kx5 kx6 kx7 kx8
                replace hB := Kept.mk (hB.out.trans ((hb1).mono hB.out.size))
                replace Va := Kept.mk (Va.out.keep (hb1))
                replace Vx := Kept.mk (Vx.out.keep (hb1))
                clear hb1
                go_wp2_with (have hz0 := K1; refine wpList_storeN 25 rfl (.tmp 40) (.tmp 193) rfl U.heap.size [.int .i64 B.cap, p', m'] size_ar rfl rfl K1.out rfl K2.out K5.out ?_; replace hB := Kept.mk (hB.out.trans ((K3.out).mono hB.out.size)); replace Va := Kept.mk (Va.out.keep (K3.out)); replace Vx := Kept.mk (Vx.out.keep (K3.out)); have Vb := Kept.mk K4.out; clear hz0 K1 K2 K3 K4 K5; generalize setN (U.alloc (.cells #[.int .i64 0, .slice none 0 0, .slice none 0 0] 25)) U.heap.size 0 [.int .i64 B.cap, p', m'] = W12 at *; generalize U.heap.size = gb at *; obtain ⟨qa, ra, xa, sa, ia, ka0, ka1, ka2⟩ := Va.out.open_; have Xa := Kept.mk xa; have Sa := Kept.mk sa; have Ia := Kept.mk ia; clear xa sa ia)
                ((with_reducible refine (gd_flags F0 K T z _ _ Xa.out FFa.out HT.out HZ.out).mono ?_); rintro e W13 ⟨rfl, hb1⟩)
                clear Xa Sa Ia ka0 ka1 ka2
                replace hB := Kept.mk (hB.out.trans ((hb1).mono hB.out.size))
                replace Va := Kept.mk (Va.out.keep (hb1))
                replace Vx := Kept.mk (Vx.out.keep (hb1))
                replace Vb := Kept.mk (Vb.out.keep (hb1))
                clear hb1
                obtain ⟨qb, rb, xb, sb, ib, kb0, kb1, kb2⟩ := Vb.out.open_
                have Xb := Kept.mk xb
                have Sb := Kept.mk sb
                have Ib := Kept.mk ib
                clear xb sb ib
                go_wp2_with fail
                ((with_reducible refine (gd_flags B K Y true _ _ Xb.out FB.out N5.out N6.out).mono ?_); rintro e W14 ⟨rfl, hb1⟩)
                clear Xb Sb Ib kb0 kb1 kb2
                replace hB := Kept.mk (hB.out.trans ((hb1).mono hB.out.size))
                replace Va := Kept.mk (Va.out.keep (hb1))
                replace Vx := Kept.mk (Vx.out.keep (hb1))
                replace Vb := Kept.mk (Vb.out.keep (hb1))
                clear hb1
                clear Vx Vb FG E0 N6 FB B0 HB0 N5
                go_wp2
                all_goals go_ret
                all_goals exact ⟨rfl, hB.out⟩
              · skip
                ((with_reducible refine (gd_set F0 K fl es Gs _ _ Xa.out FFa.out g0 Hes.out HGs.out).mono ?_); rintro e U ⟨v', rfl, ⟨p', m', rfl, hp', hm'⟩, hb1⟩)
                obtain ⟨K1, K2, K3, K4, K5⟩ := enew U Gs p' m' hp' hm' U.heap.size rfl
                clear hp' hm'
                clear Xa Sa Ia ka0 ka1 ka2
                replace hB := Kept.mk (hB.out.trans ((hb1).mono hB.out.size))
                replace Va := Kept.mk (Va.out.keep (hb1))
                clear hb1
                go_wp2_with (have hz0 := K1; refine wpList_storeN 30 rfl (.tmp 38) (.tmp 185) rfl U.heap.size [.string ⟨Gs.key.toArray⟩, .int .i64 Gs.val.kind, .int .i64 Gs.val.time, .int .i64 Gs.val.node, .bool Gs.val.dead, .string ⟨Gs.val.text.toArray⟩, p', m', .int .u64 (Gs.val.flags.toNat : Int)] size_en rfl rfl K1.out rfl K2.out K5.out ?_; replace hB := Kept.mk (hB.out.trans ((K3.out).mono hB.out.size)); replace Va := Kept.mk (Va.out.keep (K3.out)); have Vx := Kept.mk (show VarN _ _ Gs from ⟨_, _, K4.out⟩); clear hz0 K1 K2 K3 K4 K5; generalize setN (U.alloc (.cells #[.string ⟨#[]⟩, .int .i64 0, .int .i64 0, .int .i64 0, .bool false, .string ⟨#[]⟩, .slice none 0 0, .slice none 0 0, .int .u64 0] 30)) U.heap.size 0 [.string ⟨Gs.key.toArray⟩, .int .i64 Gs.val.kind, .int .i64 Gs.val.time, .int .i64 Gs.val.node, .bool Gs.val.dead, .string ⟨Gs.val.text.toArray⟩, p', m', .int .u64 (Gs.val.flags.toNat : Int)] = W11 at *; generalize U.heap.size = gx at *; obtain ⟨qa, ra, xa, sa, ia, ka0, ka1, ka2⟩ := Va.out.open_; have Xa := Kept.mk xa; have Sa := Kept.mk sa; have Ia := Kept.mk ia; clear xa sa ia)
                clear Vx h0
                go_wp2
                all_goals go_ret
                all_goals exact ⟨rfl, hB.out⟩
            · skip
              ((with_reducible refine (gd_add F0 a1 K a4 et Gt _ _ Xa.out FFa.out g0 Het.out HGt.out).mono ?_); rintro e U ⟨v', rfl, ⟨p', m', rfl, hp', hm'⟩, hb1⟩)
              obtain ⟨K1, K2, K3, K4, K5⟩ := enew U Gt p' m' hp' hm' U.heap.size rfl
              clear hp' hm'
              clear Xa Sa Ia ka0 ka1 ka2
              replace hB := Kept.mk (hB.out.trans ((hb1).mono hB.out.size))
              replace Va := Kept.mk (Va.out.keep (hb1))
              clear hb1
              go_wp2_with (have hz0 := K1; refine wpList_storeN 30 rfl (.tmp 29) (.tmp 140) rfl U.heap.size [.string ⟨Gt.key.toArray⟩, .int .i64 Gt.val.kind, .int .i64 Gt.val.time, .int .i64 Gt.val.node, .bool Gt.val.dead, .string ⟨Gt.val.text.toArray⟩, p', m', .int .u64 (Gt.val.flags.toNat : Int)] size_en rfl rfl K1.out rfl K2.out K5.out ?_; replace hB := Kept.mk (hB.out.trans ((K3.out).mono hB.out.size)); replace Va := Kept.mk (Va.out.keep (K3.out)); have Vx := Kept.mk (show VarN _ _ Gt from ⟨_, _, K4.out⟩); clear hz0 K1 K2 K3 K4 K5; generalize setN (U.alloc (.cells #[.string ⟨#[]⟩, .int .i64 0, .int .i64 0, .int .i64 0, .bool false, .string ⟨#[]⟩, .slice none 0 0, .slice none 0 0, .int .u64 0] 30)) U.heap.size 0 [.string ⟨Gt.key.toArray⟩, .int .i64 Gt.val.kind, .int .i64 Gt.val.time, .int .i64 Gt.val.node, .bool Gt.val.dead, .string ⟨Gt.val.text.toArray⟩, p', m', .int .u64 (Gt.val.flags.toNat : Int)] = W7 at *; generalize U.heap.size = gx at *; obtain ⟨qa, ra, xa, sa, ia, ka0, ka1, ka2⟩ := Va.out.open_; have Xa := Kept.mk xa; have Sa := Kept.mk sa; have Ia := Kept.mk ia; clear xa sa ia)
              clear Vx h0
              by_cases h0 : es = 0
              · skip
                subst h0
                obtain ⟨f1, f2, f4, f5, f6⟩ := set_facts fl Hes.out
                obtain ⟨T, hT⟩ : ∃ T, flagT F0 K = T := ⟨_, rfl⟩
                obtain ⟨z, hz⟩ : ∃ z, heldB F0 3 K = z := ⟨_, rfl⟩
                rw [hT] at f5
                obtain ⟨Y, hY⟩ : ∃ Y, T ||| fl = Y := ⟨_, rfl⟩
                rw [hY] at f5
                have hor : bits .or .u64 (T.toNat : Int) (fl.toNat : Int) = (Y.toNat : Int) := by rw [or_u64, hY]
                have HT := Kept.mk hT
                have HZ := Kept.mk hz
                clear hT hz hY
                rw [HGs.out] at f1 f2 f4 f5 f6
                have FG := Kept.mk f1
                have E0 := Kept.mk f4
                have N6 := Kept.mk f6
                have N5 := Kept.mk f5
                obtain ⟨B, hB0⟩ : ∃ B, joinAF F0 Gs = B := ⟨_, rfl⟩
                have HB0 := Kept.mk hB0
                rw [hB0] at f2 N6 N5
                have FB := Kept.mk f2
                obtain ⟨jb, hjb⟩ : ∃ jb, joinAB F0 Gs = jb := ⟨_, rfl⟩
                have B0 := Kept.mk hjb
                clear hjb
                clear hB0 f1 f2 f4 f6 f5
                ((with_reducible refine (gd_set F0 K fl 0 Gs _ _ Xa.out FFa.out g0 Hes.out HGs.out).mono ?_); rintro e U ⟨v', rfl, ⟨p', m', rfl, hp', hm'⟩, hb1⟩)
                obtain ⟨K1, K2, K3, K4, K5⟩ := enew U Gs p' m' hp' hm' U.heap.size rfl
                clear hp' hm'
                clear Xa Sa Ia ka0 ka1 ka2
                replace hB := Kept.mk (hB.out.trans ((hb1).mono hB.out.size))
                replace Va := Kept.mk (Va.out.keep (hb1))
                clear hb1
                go_wp2_with (have hz0 := K1; refine wpList_storeN 30 rfl (.tmp 38) (.tmp 185) rfl U.heap.size [.string ⟨Gs.key.toArray⟩, .int .i64 Gs.val.kind, .int .i64 Gs.val.time, .int .i64 Gs.val.node, .bool Gs.val.dead, .string ⟨Gs.val.text.toArray⟩, p', m', .int .u64 (Gs.val.flags.toNat : Int)] size_en rfl rfl K1.out rfl K2.out K5.out ?_; replace hB := Kept.mk (hB.out.trans ((K3.out).mono hB.out.size)); replace Va := Kept.mk (Va.out.keep (K3.out)); have Vx := Kept.mk (show VarN _ _ Gs from ⟨_, _, K4.out⟩); clear hz0 K1 K2 K3 K4 K5; generalize setN (U.alloc (.cells #[.string ⟨#[]⟩, .int .i64 0, .int .i64 0, .int .i64 0, .bool false, .string ⟨#[]⟩, .slice none 0 0, .slice none 0 0, .int .u64 0] 30)) U.heap.size 0 [.string ⟨Gs.key.toArray⟩, .int .i64 Gs.val.kind, .int .i64 Gs.val.time, .int .i64 Gs.val.node, .bool Gs.val.dead, .string ⟨Gs.val.text.toArray⟩, p', m', .int .u64 (Gs.val.flags.toNat : Int)] = W8 at *; generalize U.heap.size = gx at *; obtain ⟨qa, ra, xa, sa, ia, ka0, ka1, ka2⟩ := Va.out.open_; have Xa := Kept.mk xa; have Sa := Kept.mk sa; have Ia := Kept.mk ia; clear xa sa ia; obtain ⟨qx, rx, xx, yx, kx0, kx1, kx2, kx3, kx4, kx5, kx6, kx7, kx8⟩ := Vx.out.open_; have Xx := Kept.mk xx; have Yx := Kept.mk yx; clear xx yx)
                ((with_reducible refine (ga_join F0 Gs B jb 0 _ _ _ Xa.out Xx.out FFa.out FG.out HB0.out B0.out E0.out).mono ?_); rintro e U ⟨v', rfl, ⟨p', m', rfl, hp', hm'⟩, hb1⟩)
                obtain ⟨K1, K2, K3, K4, K5⟩ := anew U B p' m' hp' hm' U.heap.size rfl
                clear hp' hm'
                clear Xa Sa Ia ka0 ka1 ka2
                clear Xx Yx kx0 kx1 kx2 kx3 kx4 kx5 kx6 kx7 kx8
                replace hB := Kept.mk (hB.out.trans ((hb1).mono hB.out.size))
                replace Va := Kept.mk (Va.out.keep (hb1))
                replace Vx := Kept.mk (Vx.out.keep (hb1))
                clear hb1
                go_wp2_with (have hz0 := K1; refine wpList_storeN 25 rfl (.tmp 40) (.tmp 193) rfl U.heap.size [.int .i64 B.cap, p', m'] size_ar rfl rfl K1.out rfl K2.out K5.out ?_; replace hB := Kept.mk (hB.out.trans ((K3.out).mono hB.out.size)); replace Va := Kept.mk (Va.out.keep (K3.out)); replace Vx := Kept.mk (Vx.out.keep (K3.out)); have Vb := Kept.mk K4.out; clear hz0 K1 K2 K3 K4 K5; generalize setN (U.alloc (.cells #[.int .i64 0, .slice none 0 0, .slice none 0 0] 25)) U.heap.size 0 [.int .i64 B.cap, p', m'] = W9 at *; generalize U.heap.size = gb at *; obtain ⟨qa, ra, xa, sa, ia, ka0, ka1, ka2⟩ := Va.out.open_; have Xa := Kept.mk xa; have Sa := Kept.mk sa; have Ia := Kept.mk ia; clear xa sa ia)
                ((with_reducible refine (gd_flags F0 K T z _ _ Xa.out FFa.out HT.out HZ.out).mono ?_); rintro e W10 ⟨rfl, hb1⟩)
                clear Xa Sa Ia ka0 ka1 ka2
                replace hB := Kept.mk (hB.out.trans ((hb1).mono hB.out.size))
                replace Va := Kept.mk (Va.out.keep (hb1))
                replace Vx := Kept.mk (Vx.out.keep (hb1))
                replace Vb := Kept.mk (Vb.out.keep (hb1))
                clear hb1
                obtain ⟨qb, rb, xb, sb, ib, kb0, kb1, kb2⟩ := Vb.out.open_
                have Xb := Kept.mk xb
                have Sb := Kept.mk sb
                have Ib := Kept.mk ib
                clear xb sb ib
                go_wp2_with fail
                ((with_reducible refine (gd_flags B K Y true _ _ Xb.out FB.out N5.out N6.out).mono ?_); rintro e W11 ⟨rfl, hb1⟩)
                clear Xb Sb Ib kb0 kb1 kb2
                replace hB := Kept.mk (hB.out.trans ((hb1).mono hB.out.size))
                replace Va := Kept.mk (Va.out.keep (hb1))
                replace Vx := Kept.mk (Vx.out.keep (hb1))
                replace Vb := Kept.mk (Vb.out.keep (hb1))
                clear hb1
                clear Vx Vb FG E0 N6 FB B0 HB0 N5
                go_wp2
                all_goals go_ret
                all_goals exact ⟨rfl, hB.out⟩
              · skip
                ((with_reducible refine (gd_set F0 K fl es Gs _ _ Xa.out FFa.out g0 Hes.out HGs.out).mono ?_); rintro e U ⟨v', rfl, ⟨p', m', rfl, hp', hm'⟩, hb1⟩)
                obtain ⟨K1, K2, K3, K4, K5⟩ := enew U Gs p' m' hp' hm' U.heap.size rfl
                clear hp' hm'
                clear Xa Sa Ia ka0 ka1 ka2
                replace hB := Kept.mk (hB.out.trans ((hb1).mono hB.out.size))
                replace Va := Kept.mk (Va.out.keep (hb1))
                clear hb1
                go_wp2_with (have hz0 := K1; refine wpList_storeN 30 rfl (.tmp 38) (.tmp 185) rfl U.heap.size [.string ⟨Gs.key.toArray⟩, .int .i64 Gs.val.kind, .int .i64 Gs.val.time, .int .i64 Gs.val.node, .bool Gs.val.dead, .string ⟨Gs.val.text.toArray⟩, p', m', .int .u64 (Gs.val.flags.toNat : Int)] size_en rfl rfl K1.out rfl K2.out K5.out ?_; replace hB := Kept.mk (hB.out.trans ((K3.out).mono hB.out.size)); replace Va := Kept.mk (Va.out.keep (K3.out)); have Vx := Kept.mk (show VarN _ _ Gs from ⟨_, _, K4.out⟩); clear hz0 K1 K2 K3 K4 K5; generalize setN (U.alloc (.cells #[.string ⟨#[]⟩, .int .i64 0, .int .i64 0, .int .i64 0, .bool false, .string ⟨#[]⟩, .slice none 0 0, .slice none 0 0, .int .u64 0] 30)) U.heap.size 0 [.string ⟨Gs.key.toArray⟩, .int .i64 Gs.val.kind, .int .i64 Gs.val.time, .int .i64 Gs.val.node, .bool Gs.val.dead, .string ⟨Gs.val.text.toArray⟩, p', m', .int .u64 (Gs.val.flags.toNat : Int)] = W8 at *; generalize U.heap.size = gx at *; obtain ⟨qa, ra, xa, sa, ia, ka0, ka1, ka2⟩ := Va.out.open_; have Xa := Kept.mk xa; have Sa := Kept.mk sa; have Ia := Kept.mk ia; clear xa sa ia)
                clear Vx h0
                go_wp2
                all_goals go_ret
                all_goals exact ⟨rfl, hB.out⟩
          · skip
            ((with_reducible refine (gd_del F0 a1 K ed Gd _ _ Xa.out FFa.out g0 Hed.out HGd.out).mono ?_); rintro e U ⟨v', rfl, ⟨p', m', rfl, hp', hm'⟩, hb1⟩)
            obtain ⟨K1, K2, K3, K4, K5⟩ := enew U Gd p' m' hp' hm' U.heap.size rfl
            clear hp' hm'
            clear Xa Sa Ia ka0 ka1 ka2
            replace hB := Kept.mk (hB.out.trans ((hb1).mono hB.out.size))
            replace Va := Kept.mk (Va.out.keep (hb1))
            clear hb1
            go_wp2_with (have hz0 := K1; refine wpList_storeN 30 rfl (.tmp 22) (.tmp 108) rfl U.heap.size [.string ⟨Gd.key.toArray⟩, .int .i64 Gd.val.kind, .int .i64 Gd.val.time, .int .i64 Gd.val.node, .bool Gd.val.dead, .string ⟨Gd.val.text.toArray⟩, p', m', .int .u64 (Gd.val.flags.toNat : Int)] size_en rfl rfl K1.out rfl K2.out K5.out ?_; replace hB := Kept.mk (hB.out.trans ((K3.out).mono hB.out.size)); replace Va := Kept.mk (Va.out.keep (K3.out)); have Vx := Kept.mk (show VarN _ _ Gd from ⟨_, _, K4.out⟩); clear hz0 K1 K2 K3 K4 K5; generalize setN (U.alloc (.cells #[.string ⟨#[]⟩, .int .i64 0, .int .i64 0, .int .i64 0, .bool false, .string ⟨#[]⟩, .slice none 0 0, .slice none 0 0, .int .u64 0] 30)) U.heap.size 0 [.string ⟨Gd.key.toArray⟩, .int .i64 Gd.val.kind, .int .i64 Gd.val.time, .int .i64 Gd.val.node, .bool Gd.val.dead, .string ⟨Gd.val.text.toArray⟩, p', m', .int .u64 (Gd.val.flags.toNat : Int)] = W4 at *; generalize U.heap.size = gx at *; obtain ⟨qa, ra, xa, sa, ia, ka0, ka1, ka2⟩ := Va.out.open_; have Xa := Kept.mk xa; have Sa := Kept.mk sa; have Ia := Kept.mk ia; clear xa sa ia)
            clear Vx h0
            by_cases h0 : et = 0
            · skip
              subst h0
              obtain ⟨f1, f2, f3, f4, f5, f6, n1, n2⟩ := add_facts Het.out
              have hsb := sumT_bound F0 K
              obtain ⟨T, hT⟩ : ∃ T, sumT F0 K = T := ⟨_, rfl⟩
              obtain ⟨z, hz⟩ : ∃ z, heldB F0 2 K = z := ⟨_, rfl⟩
              rw [hT] at f5 hsb
              have HT := Kept.mk hT
              have HZ := Kept.mk hz
              clear hT hz
              rw [HGt.out] at f1 f2 f3 f4 f5 f6
              have FG := Kept.mk f1
              have E0 := Kept.mk f4
              have N6 := Kept.mk f6
              have N5 := Kept.mk f5
              obtain ⟨B, hB0⟩ : ∃ B, joinAF F0 Gt = B := ⟨_, rfl⟩
              have HB0 := Kept.mk hB0
              rw [hB0] at f2 N6 N5
              have FB := Kept.mk f2
              have B0 := Kept.mk f3
              clear hB0 f1 f2 f4 f6 f3 f5
              ((with_reducible refine (gd_add F0 a1 K a4 0 Gt _ _ Xa.out FFa.out g0 Het.out HGt.out).mono ?_); rintro e U ⟨v', rfl, ⟨p', m', rfl, hp', hm'⟩, hb1⟩)
              obtain ⟨K1, K2, K3, K4, K5⟩ := enew U Gt p' m' hp' hm' U.heap.size rfl
              clear hp' hm'
              clear Xa Sa Ia ka0 ka1 ka2
              replace hB := Kept.mk (hB.out.trans ((hb1).mono hB.out.size))
              replace Va := Kept.mk (Va.out.keep (hb1))
              clear hb1
              go_wp2_with (have hz0 := K1; refine wpList_storeN 30 rfl (.tmp 29) (.tmp 140) rfl U.heap.size [.string ⟨Gt.key.toArray⟩, .int .i64 Gt.val.kind, .int .i64 Gt.val.time, .int .i64 Gt.val.node, .bool Gt.val.dead, .string ⟨Gt.val.text.toArray⟩, p', m', .int .u64 (Gt.val.flags.toNat : Int)] size_en rfl rfl K1.out rfl K2.out K5.out ?_; replace hB := Kept.mk (hB.out.trans ((K3.out).mono hB.out.size)); replace Va := Kept.mk (Va.out.keep (K3.out)); have Vx := Kept.mk (show VarN _ _ Gt from ⟨_, _, K4.out⟩); clear hz0 K1 K2 K3 K4 K5; generalize setN (U.alloc (.cells #[.string ⟨#[]⟩, .int .i64 0, .int .i64 0, .int .i64 0, .bool false, .string ⟨#[]⟩, .slice none 0 0, .slice none 0 0, .int .u64 0] 30)) U.heap.size 0 [.string ⟨Gt.key.toArray⟩, .int .i64 Gt.val.kind, .int .i64 Gt.val.time, .int .i64 Gt.val.node, .bool Gt.val.dead, .string ⟨Gt.val.text.toArray⟩, p', m', .int .u64 (Gt.val.flags.toNat : Int)] = W5 at *; generalize U.heap.size = gx at *; obtain ⟨qa, ra, xa, sa, ia, ka0, ka1, ka2⟩ := Va.out.open_; have Xa := Kept.mk xa; have Sa := Kept.mk sa; have Ia := Kept.mk ia; clear xa sa ia; obtain ⟨qx, rx, xx, yx, kx0, kx1, kx2, kx3, kx4, kx5, kx6, kx7, kx8⟩ := Vx.out.open_; have Xx := Kept.mk xx; have Yx := Kept.mk yx; clear xx yx)
              ((with_reducible refine (ga_join F0 Gt B true 0 _ _ _ Xa.out Xx.out FFa.out FG.out HB0.out B0.out E0.out).mono ?_); rintro e U ⟨v', rfl, ⟨p', m', rfl, hp', hm'⟩, hb1⟩)
              obtain ⟨K1, K2, K3, K4, K5⟩ := anew U B p' m' hp' hm' U.heap.size rfl
              clear hp' hm'
              clear Xa Sa Ia ka0 ka1 ka2
              clear Xx Yx kx0 kx1 kx2 kx3 kx4 kx5 kx6 kx7 kx8
              replace hB := Kept.mk (hB.out.trans ((hb1).mono hB.out.size))
              replace Va := Kept.mk (Va.out.keep (hb1))
              replace Vx := Kept.mk (Vx.out.keep (hb1))
              clear hb1
              go_wp2_with (have hz0 := K1; refine wpList_storeN 25 rfl (.tmp 31) (.tmp 148) rfl U.heap.size [.int .i64 B.cap, p', m'] size_ar rfl rfl K1.out rfl K2.out K5.out ?_; replace hB := Kept.mk (hB.out.trans ((K3.out).mono hB.out.size)); replace Va := Kept.mk (Va.out.keep (K3.out)); replace Vx := Kept.mk (Vx.out.keep (K3.out)); have Vb := Kept.mk K4.out; clear hz0 K1 K2 K3 K4 K5; generalize setN (U.alloc (.cells #[.int .i64 0, .slice none 0 0, .slice none 0 0] 25)) U.heap.size 0 [.int .i64 B.cap, p', m'] = W6 at *; generalize U.heap.size = gb at *; obtain ⟨qa, ra, xa, sa, ia, ka0, ka1, ka2⟩ := Va.out.open_; have Xa := Kept.mk xa; have Sa := Kept.mk sa; have Ia := Kept.mk ia; clear xa sa ia)
              ((with_reducible refine (gd_sum F0 K T z _ _ Xa.out FFa.out HT.out HZ.out).mono ?_); rintro e W7 ⟨rfl, hb1⟩)
              clear Xa Sa Ia ka0 ka1 ka2
              replace hB := Kept.mk (hB.out.trans ((hb1).mono hB.out.size))
              replace Va := Kept.mk (Va.out.keep (hb1))
              replace Vx := Kept.mk (Vx.out.keep (hb1))
              replace Vb := Kept.mk (Vb.out.keep (hb1))
              clear hb1
              obtain ⟨qb, rb, xb, sb, ib, kb0, kb1, kb2⟩ := Vb.out.open_
              have Xb := Kept.mk xb
              have Sb := Kept.mk sb
              have Ib := Kept.mk ib
              clear xb sb ib
              go_wp2_with fail
              ((with_reducible refine (gd_sum B K (T + a4) true _ _ Xb.out FB.out N5.out N6.out).mono ?_); rintro e W8 ⟨rfl, hb1⟩)
              clear Xb Sb Ib kb0 kb1 kb2
              replace hB := Kept.mk (hB.out.trans ((hb1).mono hB.out.size))
              replace Va := Kept.mk (Va.out.keep (hb1))
              replace Vx := Kept.mk (Vx.out.keep (hb1))
              replace Vb := Kept.mk (Vb.out.keep (hb1))
              clear hb1
              clear Vx Vb FG E0 N6 FB B0 HB0 N5
              obtain ⟨qa, ra, xa, sa, ia, ka0, ka1, ka2⟩ := Va.out.open_
              have Xa := Kept.mk xa
              have Sa := Kept.mk sa
              have Ia := Kept.mk ia
              clear xa sa ia
              go_wp2_with fail
              clear n1 n2 hsb HT HZ
              by_cases h0 : es = 0
              · skip
                subst h0
                obtain ⟨f1, f2, f4, f5, f6⟩ := set_facts fl Hes.out
                obtain ⟨T, hT⟩ : ∃ T, flagT F0 K = T := ⟨_, rfl⟩
                obtain ⟨z, hz⟩ : ∃ z, heldB F0 3 K = z := ⟨_, rfl⟩
                rw [hT] at f5
                obtain ⟨Y, hY⟩ : ∃ Y, T ||| fl = Y := ⟨_, rfl⟩
                rw [hY] at f5
                have hor : bits .or .u64 (T.toNat : Int) (fl.toNat : Int) = (Y.toNat : Int) := by rw [or_u64, hY]
                have HT := Kept.mk hT
                have HZ := Kept.mk hz
                clear hT hz hY
                rw [HGs.out] at f1 f2 f4 f5 f6
                have FG := Kept.mk f1
                have E0 := Kept.mk f4
                have N6 := Kept.mk f6
                have N5 := Kept.mk f5
                obtain ⟨B, hB0⟩ : ∃ B, joinAF F0 Gs = B := ⟨_, rfl⟩
                have HB0 := Kept.mk hB0
                rw [hB0] at f2 N6 N5
                have FB := Kept.mk f2
                obtain ⟨jb, hjb⟩ : ∃ jb, joinAB F0 Gs = jb := ⟨_, rfl⟩
                have B0 := Kept.mk hjb
                clear hjb
                clear hB0 f1 f2 f4 f6 f5
                ((with_reducible refine (gd_set F0 K fl 0 Gs _ _ Xa.out FFa.out g0 Hes.out HGs.out).mono ?_); rintro e U ⟨v', rfl, ⟨p', m', rfl, hp', hm'⟩, hb1⟩)
                obtain ⟨K1, K2, K3, K4, K5⟩ := enew U Gs p' m' hp' hm' U.heap.size rfl
                clear hp' hm'
                clear Xa Sa Ia ka0 ka1 ka2
                replace hB := Kept.mk (hB.out.trans ((hb1).mono hB.out.size))
                replace Va := Kept.mk (Va.out.keep (hb1))
                clear hb1
                go_wp2_with (have hz0 := K1; refine wpList_storeN 30 rfl (.tmp 38) (.tmp 185) rfl U.heap.size [.string ⟨Gs.key.toArray⟩, .int .i64 Gs.val.kind, .int .i64 Gs.val.time, .int .i64 Gs.val.node, .bool Gs.val.dead, .string ⟨Gs.val.text.toArray⟩, p', m', .int .u64 (Gs.val.flags.toNat : Int)] size_en rfl rfl K1.out rfl K2.out K5.out ?_; replace hB := Kept.mk (hB.out.trans ((K3.out).mono hB.out.size)); replace Va := Kept.mk (Va.out.keep (K3.out)); have Vx := Kept.mk (show VarN _ _ Gs from ⟨_, _, K4.out⟩); clear hz0 K1 K2 K3 K4 K5; generalize setN (U.alloc (.cells #[.string ⟨#[]⟩, .int .i64 0, .int .i64 0, .int .i64 0, .bool false, .string ⟨#[]⟩, .slice none 0 0, .slice none 0 0, .int .u64 0] 30)) U.heap.size 0 [.string ⟨Gs.key.toArray⟩, .int .i64 Gs.val.kind, .int .i64 Gs.val.time, .int .i64 Gs.val.node, .bool Gs.val.dead, .string ⟨Gs.val.text.toArray⟩, p', m', .int .u64 (Gs.val.flags.toNat : Int)] = W9 at *; generalize U.heap.size = gx at *; obtain ⟨qa, ra, xa, sa, ia, ka0, ka1, ka2⟩ := Va.out.open_; have Xa := Kept.mk xa; have Sa := Kept.mk sa; have Ia := Kept.mk ia; clear xa sa ia; obtain ⟨qx, rx, xx, yx, kx0, kx1, kx2, kx3, kx4, kx5, kx6, kx7, kx8⟩ := Vx.out.open_; have Xx := Kept.mk xx; have Yx := Kept.mk yx; clear xx yx)
                ((with_reducible refine (ga_join F0 Gs B jb 0 _ _ _ Xa.out Xx.out FFa.out FG.out HB0.out B0.out E0.out).mono ?_); rintro e U ⟨v', rfl, ⟨p', m', rfl, hp', hm'⟩, hb1⟩)
                obtain ⟨K1, K2, K3, K4, K5⟩ := anew U B p' m' hp' hm' U.heap.size rfl
                clear hp' hm'
                clear Xa Sa Ia ka0 ka1 ka2
                clear Xx Yx kx0 kx1 kx2 kx3 kx4 kx5 kx6 kx7 kx8
                replace hB := Kept.mk (hB.out.trans ((hb1).mono hB.out.size))
                replace Va := Kept.mk (Va.out.keep (hb1))
                replace Vx := Kept.mk (Vx.out.keep (hb1))
                clear hb1
                go_wp2_with (have hz0 := K1; refine wpList_storeN 25 rfl (.tmp 40) (.tmp 193) rfl U.heap.size [.int .i64 B.cap, p', m'] size_ar rfl rfl K1.out rfl K2.out K5.out ?_; replace hB := Kept.mk (hB.out.trans ((K3.out).mono hB.out.size)); replace Va := Kept.mk (Va.out.keep (K3.out)); replace Vx := Kept.mk (Vx.out.keep (K3.out)); have Vb := Kept.mk K4.out; clear hz0 K1 K2 K3 K4 K5; generalize setN (U.alloc (.cells #[.int .i64 0, .slice none 0 0, .slice none 0 0] 25)) U.heap.size 0 [.int .i64 B.cap, p', m'] = W10 at *; generalize U.heap.size = gb at *; obtain ⟨qa, ra, xa, sa, ia, ka0, ka1, ka2⟩ := Va.out.open_; have Xa := Kept.mk xa; have Sa := Kept.mk sa; have Ia := Kept.mk ia; clear xa sa ia)
                ((with_reducible refine (gd_flags F0 K T z _ _ Xa.out FFa.out HT.out HZ.out).mono ?_); rintro e W11 ⟨rfl, hb1⟩)
                clear Xa Sa Ia ka0 ka1 ka2
                replace hB := Kept.mk (hB.out.trans ((hb1).mono hB.out.size))
                replace Va := Kept.mk (Va.out.keep (hb1))
                replace Vx := Kept.mk (Vx.out.keep (hb1))
                replace Vb := Kept.mk (Vb.out.keep (hb1))
                clear hb1
                obtain ⟨qb, rb, xb, sb, ib, kb0, kb1, kb2⟩ := Vb.out.open_
                have Xb := Kept.mk xb
                have Sb := Kept.mk sb
                have Ib := Kept.mk ib
                clear xb sb ib
                go_wp2_with fail
                ((with_reducible refine (gd_flags B K Y true _ _ Xb.out FB.out N5.out N6.out).mono ?_); rintro e W12 ⟨rfl, hb1⟩)
                clear Xb Sb Ib kb0 kb1 kb2
                replace hB := Kept.mk (hB.out.trans ((hb1).mono hB.out.size))
                replace Va := Kept.mk (Va.out.keep (hb1))
                replace Vx := Kept.mk (Vx.out.keep (hb1))
                replace Vb := Kept.mk (Vb.out.keep (hb1))
                clear hb1
                clear Vx Vb FG E0 N6 FB B0 HB0 N5
                go_wp2
                all_goals go_ret
                all_goals exact ⟨rfl, hB.out⟩
              · skip
                ((with_reducible refine (gd_set F0 K fl es Gs _ _ Xa.out FFa.out g0 Hes.out HGs.out).mono ?_); rintro e U ⟨v', rfl, ⟨p', m', rfl, hp', hm'⟩, hb1⟩)
                obtain ⟨K1, K2, K3, K4, K5⟩ := enew U Gs p' m' hp' hm' U.heap.size rfl
                clear hp' hm'
                clear Xa Sa Ia ka0 ka1 ka2
                replace hB := Kept.mk (hB.out.trans ((hb1).mono hB.out.size))
                replace Va := Kept.mk (Va.out.keep (hb1))
                clear hb1
                go_wp2_with (have hz0 := K1; refine wpList_storeN 30 rfl (.tmp 38) (.tmp 185) rfl U.heap.size [.string ⟨Gs.key.toArray⟩, .int .i64 Gs.val.kind, .int .i64 Gs.val.time, .int .i64 Gs.val.node, .bool Gs.val.dead, .string ⟨Gs.val.text.toArray⟩, p', m', .int .u64 (Gs.val.flags.toNat : Int)] size_en rfl rfl K1.out rfl K2.out K5.out ?_; replace hB := Kept.mk (hB.out.trans ((K3.out).mono hB.out.size)); replace Va := Kept.mk (Va.out.keep (K3.out)); have Vx := Kept.mk (show VarN _ _ Gs from ⟨_, _, K4.out⟩); clear hz0 K1 K2 K3 K4 K5; generalize setN (U.alloc (.cells #[.string ⟨#[]⟩, .int .i64 0, .int .i64 0, .int .i64 0, .bool false, .string ⟨#[]⟩, .slice none 0 0, .slice none 0 0, .int .u64 0] 30)) U.heap.size 0 [.string ⟨Gs.key.toArray⟩, .int .i64 Gs.val.kind, .int .i64 Gs.val.time, .int .i64 Gs.val.node, .bool Gs.val.dead, .string ⟨Gs.val.text.toArray⟩, p', m', .int .u64 (Gs.val.flags.toNat : Int)] = W9 at *; generalize U.heap.size = gx at *; obtain ⟨qa, ra, xa, sa, ia, ka0, ka1, ka2⟩ := Va.out.open_; have Xa := Kept.mk xa; have Sa := Kept.mk sa; have Ia := Kept.mk ia; clear xa sa ia)
                clear Vx h0
                go_wp2
                all_goals go_ret
                all_goals exact ⟨rfl, hB.out⟩
            · skip
              ((with_reducible refine (gd_add F0 a1 K a4 et Gt _ _ Xa.out FFa.out g0 Het.out HGt.out).mono ?_); rintro e U ⟨v', rfl, ⟨p', m', rfl, hp', hm'⟩, hb1⟩)
              obtain ⟨K1, K2, K3, K4, K5⟩ := enew U Gt p' m' hp' hm' U.heap.size rfl
              clear hp' hm'
              clear Xa Sa Ia ka0 ka1 ka2
              replace hB := Kept.mk (hB.out.trans ((hb1).mono hB.out.size))
              replace Va := Kept.mk (Va.out.keep (hb1))
              clear hb1
              go_wp2_with (have hz0 := K1; refine wpList_storeN 30 rfl (.tmp 29) (.tmp 140) rfl U.heap.size [.string ⟨Gt.key.toArray⟩, .int .i64 Gt.val.kind, .int .i64 Gt.val.time, .int .i64 Gt.val.node, .bool Gt.val.dead, .string ⟨Gt.val.text.toArray⟩, p', m', .int .u64 (Gt.val.flags.toNat : Int)] size_en rfl rfl K1.out rfl K2.out K5.out ?_; replace hB := Kept.mk (hB.out.trans ((K3.out).mono hB.out.size)); replace Va := Kept.mk (Va.out.keep (K3.out)); have Vx := Kept.mk (show VarN _ _ Gt from ⟨_, _, K4.out⟩); clear hz0 K1 K2 K3 K4 K5; generalize setN (U.alloc (.cells #[.string ⟨#[]⟩, .int .i64 0, .int .i64 0, .int .i64 0, .bool false, .string ⟨#[]⟩, .slice none 0 0, .slice none 0 0, .int .u64 0] 30)) U.heap.size 0 [.string ⟨Gt.key.toArray⟩, .int .i64 Gt.val.kind, .int .i64 Gt.val.time, .int .i64 Gt.val.node, .bool Gt.val.dead, .string ⟨Gt.val.text.toArray⟩, p', m', .int .u64 (Gt.val.flags.toNat : Int)] = W5 at *; generalize U.heap.size = gx at *; obtain ⟨qa, ra, xa, sa, ia, ka0, ka1, ka2⟩ := Va.out.open_; have Xa := Kept.mk xa; have Sa := Kept.mk sa; have Ia := Kept.mk ia; clear xa sa ia)
              clear Vx h0
              by_cases h0 : es = 0
              · skip
                subst h0
                obtain ⟨f1, f2, f4, f5, f6⟩ := set_facts fl Hes.out
                obtain ⟨T, hT⟩ : ∃ T, flagT F0 K = T := ⟨_, rfl⟩
                obtain ⟨z, hz⟩ : ∃ z, heldB F0 3 K = z := ⟨_, rfl⟩
                rw [hT] at f5
                obtain ⟨Y, hY⟩ : ∃ Y, T ||| fl = Y := ⟨_, rfl⟩
                rw [hY] at f5
                have hor : bits .or .u64 (T.toNat : Int) (fl.toNat : Int) = (Y.toNat : Int) := by rw [or_u64, hY]
                have HT := Kept.mk hT
                have HZ := Kept.mk hz
                clear hT hz hY
                rw [HGs.out] at f1 f2 f4 f5 f6
                have FG := Kept.mk f1
                have E0 := Kept.mk f4
                have N6 := Kept.mk f6
                have N5 := Kept.mk f5
                obtain ⟨B, hB0⟩ : ∃ B, joinAF F0 Gs = B := ⟨_, rfl⟩
                have HB0 := Kept.mk hB0
                rw [hB0] at f2 N6 N5
                have FB := Kept.mk f2
                obtain ⟨jb, hjb⟩ : ∃ jb, joinAB F0 Gs = jb := ⟨_, rfl⟩
                have B0 := Kept.mk hjb
                clear hjb
                clear hB0 f1 f2 f4 f6 f5
                ((with_reducible refine (gd_set F0 K fl 0 Gs _ _ Xa.out FFa.out g0 Hes.out HGs.out).mono ?_); rintro e U ⟨v', rfl, ⟨p', m', rfl, hp', hm'⟩, hb1⟩)
                obtain ⟨K1, K2, K3, K4, K5⟩ := enew U Gs p' m' hp' hm' U.heap.size rfl
                clear hp' hm'
                clear Xa Sa Ia ka0 ka1 ka2
                replace hB := Kept.mk (hB.out.trans ((hb1).mono hB.out.size))
                replace Va := Kept.mk (Va.out.keep (hb1))
                clear hb1
                go_wp2_with (have hz0 := K1; refine wpList_storeN 30 rfl (.tmp 38) (.tmp 185) rfl U.heap.size [.string ⟨Gs.key.toArray⟩, .int .i64 Gs.val.kind, .int .i64 Gs.val.time, .int .i64 Gs.val.node, .bool Gs.val.dead, .string ⟨Gs.val.text.toArray⟩, p', m', .int .u64 (Gs.val.flags.toNat : Int)] size_en rfl rfl K1.out rfl K2.out K5.out ?_; replace hB := Kept.mk (hB.out.trans ((K3.out).mono hB.out.size)); replace Va := Kept.mk (Va.out.keep (K3.out)); have Vx := Kept.mk (show VarN _ _ Gs from ⟨_, _, K4.out⟩); clear hz0 K1 K2 K3 K4 K5; generalize setN (U.alloc (.cells #[.string ⟨#[]⟩, .int .i64 0, .int .i64 0, .int .i64 0, .bool false, .string ⟨#[]⟩, .slice none 0 0, .slice none 0 0, .int .u64 0] 30)) U.heap.size 0 [.string ⟨Gs.key.toArray⟩, .int .i64 Gs.val.kind, .int .i64 Gs.val.time, .int .i64 Gs.val.node, .bool Gs.val.dead, .string ⟨Gs.val.text.toArray⟩, p', m', .int .u64 (Gs.val.flags.toNat : Int)] = W6 at *; generalize U.heap.size = gx at *; obtain ⟨qa, ra, xa, sa, ia, ka0, ka1, ka2⟩ := Va.out.open_; have Xa := Kept.mk xa; have Sa := Kept.mk sa; have Ia := Kept.mk ia; clear xa sa ia; obtain ⟨qx, rx, xx, yx, kx0, kx1, kx2, kx3, kx4, kx5, kx6, kx7, kx8⟩ := Vx.out.open_; have Xx := Kept.mk xx; have Yx := Kept.mk yx; clear xx yx)
                ((with_reducible refine (ga_join F0 Gs B jb 0 _ _ _ Xa.out Xx.out FFa.out FG.out HB0.out B0.out E0.out).mono ?_); rintro e U ⟨v', rfl, ⟨p', m', rfl, hp', hm'⟩, hb1⟩)
                obtain ⟨K1, K2, K3, K4, K5⟩ := anew U B p' m' hp' hm' U.heap.size rfl
                clear hp' hm'
                clear Xa Sa Ia ka0 ka1 ka2
                clear Xx Yx kx0 kx1 kx2 kx3 kx4 kx5 kx6 kx7 kx8
                replace hB := Kept.mk (hB.out.trans ((hb1).mono hB.out.size))
                replace Va := Kept.mk (Va.out.keep (hb1))
                replace Vx := Kept.mk (Vx.out.keep (hb1))
                clear hb1
                go_wp2_with (have hz0 := K1; refine wpList_storeN 25 rfl (.tmp 40) (.tmp 193) rfl U.heap.size [.int .i64 B.cap, p', m'] size_ar rfl rfl K1.out rfl K2.out K5.out ?_; replace hB := Kept.mk (hB.out.trans ((K3.out).mono hB.out.size)); replace Va := Kept.mk (Va.out.keep (K3.out)); replace Vx := Kept.mk (Vx.out.keep (K3.out)); have Vb := Kept.mk K4.out; clear hz0 K1 K2 K3 K4 K5; generalize setN (U.alloc (.cells #[.int .i64 0, .slice none 0 0, .slice none 0 0] 25)) U.heap.size 0 [.int .i64 B.cap, p', m'] = W7 at *; generalize U.heap.size = gb at *; obtain ⟨qa, ra, xa, sa, ia, ka0, ka1, ka2⟩ := Va.out.open_; have Xa := Kept.mk xa; have Sa := Kept.mk sa; have Ia := Kept.mk ia; clear xa sa ia)
                ((with_reducible refine (gd_flags F0 K T z _ _ Xa.out FFa.out HT.out HZ.out).mono ?_); rintro e W8 ⟨rfl, hb1⟩)
                clear Xa Sa Ia ka0 ka1 ka2
                replace hB := Kept.mk (hB.out.trans ((hb1).mono hB.out.size))
                replace Va := Kept.mk (Va.out.keep (hb1))
                replace Vx := Kept.mk (Vx.out.keep (hb1))
                replace Vb := Kept.mk (Vb.out.keep (hb1))
                clear hb1
                obtain ⟨qb, rb, xb, sb, ib, kb0, kb1, kb2⟩ := Vb.out.open_
                have Xb := Kept.mk xb
                have Sb := Kept.mk sb
                have Ib := Kept.mk ib
                clear xb sb ib
                go_wp2_with fail
                ((with_reducible refine (gd_flags B K Y true _ _ Xb.out FB.out N5.out N6.out).mono ?_); rintro e W9 ⟨rfl, hb1⟩)
                clear Xb Sb Ib kb0 kb1 kb2
                replace hB := Kept.mk (hB.out.trans ((hb1).mono hB.out.size))
                replace Va := Kept.mk (Va.out.keep (hb1))
                replace Vx := Kept.mk (Vx.out.keep (hb1))
                replace Vb := Kept.mk (Vb.out.keep (hb1))
                clear hb1
                clear Vx Vb FG E0 N6 FB B0 HB0 N5
                go_wp2
                all_goals go_ret
                all_goals exact ⟨rfl, hB.out⟩
              · skip
                ((with_reducible refine (gd_set F0 K fl es Gs _ _ Xa.out FFa.out g0 Hes.out HGs.out).mono ?_); rintro e U ⟨v', rfl, ⟨p', m', rfl, hp', hm'⟩, hb1⟩)
                obtain ⟨K1, K2, K3, K4, K5⟩ := enew U Gs p' m' hp' hm' U.heap.size rfl
                clear hp' hm'
                clear Xa Sa Ia ka0 ka1 ka2
                replace hB := Kept.mk (hB.out.trans ((hb1).mono hB.out.size))
                replace Va := Kept.mk (Va.out.keep (hb1))
                clear hb1
                go_wp2_with (have hz0 := K1; refine wpList_storeN 30 rfl (.tmp 38) (.tmp 185) rfl U.heap.size [.string ⟨Gs.key.toArray⟩, .int .i64 Gs.val.kind, .int .i64 Gs.val.time, .int .i64 Gs.val.node, .bool Gs.val.dead, .string ⟨Gs.val.text.toArray⟩, p', m', .int .u64 (Gs.val.flags.toNat : Int)] size_en rfl rfl K1.out rfl K2.out K5.out ?_; replace hB := Kept.mk (hB.out.trans ((K3.out).mono hB.out.size)); replace Va := Kept.mk (Va.out.keep (K3.out)); have Vx := Kept.mk (show VarN _ _ Gs from ⟨_, _, K4.out⟩); clear hz0 K1 K2 K3 K4 K5; generalize setN (U.alloc (.cells #[.string ⟨#[]⟩, .int .i64 0, .int .i64 0, .int .i64 0, .bool false, .string ⟨#[]⟩, .slice none 0 0, .slice none 0 0, .int .u64 0] 30)) U.heap.size 0 [.string ⟨Gs.key.toArray⟩, .int .i64 Gs.val.kind, .int .i64 Gs.val.time, .int .i64 Gs.val.node, .bool Gs.val.dead, .string ⟨Gs.val.text.toArray⟩, p', m', .int .u64 (Gs.val.flags.toNat : Int)] = W6 at *; generalize U.heap.size = gx at *; obtain ⟨qa, ra, xa, sa, ia, ka0, ka1, ka2⟩ := Va.out.open_; have Xa := Kept.mk xa; have Sa := Kept.mk sa; have Ia := Kept.mk ia; clear xa sa ia)
                clear Vx h0
                go_wp2
                all_goals go_ret
                all_goals exact ⟨rfl, hB.out⟩
set_option maxRecDepth 100000 in
theorem deltaWrites_lifted (os : Os) (started : os.Started) (H : Type) (enc : TypeId × Value → H) :
    ReturnsInHanded {} Tryz.checked os 6 .any (Rows.deltaWritesSpec.pre6 enc Tryz.prog Tryz.f6 Rows.deltaWritesRow.domain false) (Rows.deltaWritesSpec.post enc Tryz.prog Tryz.f6 false true false false) := by
  refine returnsInHanded_of_change (C := Tryz.checked) (by kernel_rfl : ownKnob Tryz.prog.godebug = none) started (by kernel_rfl) Tryz.func6
    (ChangeSpec.witness6 (enc := enc) (C := Tryz.checked) false ⟨#[], #[.agg #[.int .i64 0, .slice none 0 0, .slice none 0 0], .int .i64 0, .string ByteArray.empty, .string ByteArray.empty, .int .i64 0, .int .u64 0], []⟩ 8 (by kernel_rfl) (by kernel_rfl) (by kernel_rfl) (by kernel_rfl)) ?_
  intro W base args ds gs before hval0 hW hcnd _
  have hval : ∀ (j : Nat) t v, Tryz.f6.params[j]? = some t → args[j]? = some v → Value.okWide Tryz.prog W .any base t v := hval0
  have hW' := hW
  obtain ⟨p, q, hA0, hV, rfl, hfz, hnd⟩ := hW
  have hA : DataW.TrodAll enc Tryz.prog W 0 (fun _ => true) true Tryz.f6.params.toList args.toList ds p := hA0
  rw [Tryz.params6] at hA hval
  obtain ⟨v0, vs0, d0, ds0, p0, q0, hargs, rfl, rfl, h0, r0⟩ := trodAll_cons hA
  obtain ⟨v1, vs1, d1, ds1, p1, q1, rfl, rfl, rfl, h1, r1⟩ := trodAll_cons r0
  obtain ⟨v2, vs2, d2, ds2, p2, q2, rfl, rfl, rfl, h2, r2⟩ := trodAll_cons r1
  obtain ⟨v3, vs3, d3, ds3, p3, q3, rfl, rfl, rfl, h3, r3⟩ := trodAll_cons r2
  obtain ⟨v4, vs4, d4, ds4, p4, q4, rfl, rfl, rfl, h4, r4⟩ := trodAll_cons r3
  obtain ⟨v5, vs5, d5, ds5, p5, q5, rfl, rfl, rfl, h5, r5⟩ := trodAll_cons r4
  obtain ⟨rfl, rfl, rfl⟩ := trodAll_nil r5
  obtain rfl : args = #[v0, v1, v2, v3, v4, v5] := by cases args; simp_all
  obtain ⟨rfl, rfl⟩ := trodVars_none hV
  obtain ⟨F0, fl0, w0⟩ := open_ar (hval 0 25 v0 rfl rfl) h0
  have lt0 : ∀ x ∈ p0, x.block < W.heap.size := fun x hx => by obtain ⟨fuel, hf⟩ := h0; exact DataW.trod_lt fuel _ _ _ hf x hx
  obtain ⟨a1, rfl, rfl, rfl, w1⟩ := open_int Tryz.underlying3 (hval 1 3 v1 rfl rfl) h1
  obtain ⟨a2, rfl, rfl, rfl, w2⟩ := open_string Tryz.underlying9 (hval 2 9 v2 rfl rfl) h2
  obtain ⟨a3, rfl, rfl, rfl, w3⟩ := open_string Tryz.underlying9 (hval 3 9 v3 rfl rfl) h3
  obtain ⟨a4, rfl, rfl, rfl, w4⟩ := open_int Tryz.underlying3 (hval 4 3 v4 rfl rfl) h4
  obtain ⟨a5, rfl, rfl, rfl, w5⟩ := open_int Tryz.underlying26 (hval 5 26 v5 rfl rfl) h5
  clear hA0 hval0
  simp only [List.append_nil] at hW'
  refine (deltaWrites_walk F0 v0 a1 a2 a3 a4 a5 w0 w1 w2 w3 w4 w5 W fl0).mono fun e W' ⟨he, bel⟩ => ?_
  subst he
  exact ⟨_, rfl, _, _, _, [], _, [], hW', trodAll_mk1 (shut_bool Tryz.underlying4 _), (trodAll_cons_mk (Below.trod (by kernel_rfl) (by kernel_rfl) (of_decide_eq_true (by kernel_rfl)) h0 bel lt0) (trodAll_cons_mk (shut_int Tryz.underlying3 w1) (trodAll_cons_mk (shut_string Tryz.underlying9 w2) (trodAll_cons_mk (shut_string Tryz.underlying9 w3) (trodAll_cons_mk (shut_int Tryz.underlying3 w4) (trodAll_cons_mk (shut_int Tryz.underlying26 w5) trodAll_mk0)))))), rfl, bel.frame _, fun h => by cases h⟩
/-- THE STATEMENT. -/
theorem deltaWrites_proved : Rows.DeltaWritesSaid :=
  OpenClaim.holds_of_wide 6 Tryz.f6 rfl rfl rfl rfl rfl rfl rfl ⟨rfl, rfl, rfl, rfl, rfl⟩ rfl rfl rfl rfl rfl (by kernel_rfl) Tryz.func6 (by kernel_rfl)
    (of_decide_eq_true (by kernel_rfl)) (by unfold Func.isWrapper; first | (rw [if_pos (by decide +kernel)]; kernel_rfl) | (rw [if_neg (by decide +kernel)]; exact ⟨rfl, rfl⟩))
    (fun os started H enc _ => deltaWrites_lifted os started H enc)
#print axioms deltaWrites_proved
end Go.Proofs.YtbgconagkgfplaaGreat
