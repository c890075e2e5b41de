/- Whether any is an entry, its bytes, which name is ahead, two that come together, and whether they are alike, are just what the document says. -/
import Derived.Test.YtebjljiklacolaaGreatPartF
import Derived.SizedLaws
import Derived.ProofKit
import Derived.OpenShut
import Derived.ShutString
import Derived.ChangeOld
import Derived.Below
namespace Go.Proofs.YtebjljiklacolaaGreat
open Go.RowKit
open Go.ChangeShapes Go.WideShapes Go.ChangeAt Go.RowKit
open Go.ChangeMaps (open_string shut_string)
set_option linter.unusedVariables false
set_option linter.unusedSimpArgs false
attribute [local irreducible] setN

theorem fit_joinE (A B : En) : FitE (joinEF A B) := by
  by_cases h : joinEE A B = 0
  · exact ok_fit (joinEF_ok h)
  · unfold joinEF; rw [if_neg h]; exact fitE_zero
theorem rechk_at (E : En) (r : Bool) (v : Value) (w : World) (hv : isEn E v w) (hF : FitE E) (hr : okE E = r) : Calls Tryz.prog 7 #[v] w fun e w' => e = .returned (.bool r) ∧ Below w.heap.size w w' := by
  subst hr; exact rechk_any E v w hv hF
theorem eput_at (E : En) (s : List UInt8) (r : Int) (v : Value) (w : World) (hv : isEn E v w) (hF : FitE E) (hs : putF E = s) (hr : chkE E = r) : Calls Tryz.prog 8 #[v] w fun e w' => e = .returned (.tuple #[.string ⟨s.toArray⟩, .int .i64 r]) ∧ Below w.heap.size w w' := by
  subst hs hr; exact eput_any E v w hv hF
theorem rput_at (E : En) (s : List UInt8) (r : Int) (v : Value) (w : World) (hv : isEn E v w) (hF : FitE E) (hs : putF E = s) (hr : chkE E = r) : Calls Tryz.prog 9 #[v] w fun e w' => e = .returned (.tuple #[.string ⟨s.toArray⟩, .int .i64 r]) ∧ Below w.heap.size w w' := by
  subst hs hr; exact rput_any E v w hv hF
theorem rejoin_at (A B : En) (r : Int) (G : En) (v u : Value) (w : World) (hv : isEn A v w) (hu : isEn B u w) (hA : FitE A) (hF : FitE B) (hr : joinEE A B = r) (hg : joinEF A B = G) : Calls Tryz.prog 11 #[v, u] w fun e w' => ∃ v', e = .returned (.tuple #[v', .int .i64 r]) ∧ isEn G v' w' ∧ Below w.heap.size w w' := by
  subst hr hg; exact rejoin_any A B v u w hv hu hA hF
theorem resame_at (A B : En) (r : Bool) (v u : Value) (w : World) (hv : isEn A v w) (hu : isEn B u w) (h1 : Fit A.val) (h2 : Fit B.val) (hr : decide (A = B) = r) : Calls Tryz.prog 12 #[v, u] w fun e w' => e = .returned (.bool r) ∧ Below w.heap.size w w' := by
  subst hr; exact resame_any A B v u w hv hu h1 h2
theorem rless_at (A B : En) (r : Bool) (v u : Value) (w : World) (hv : isEn A v w) (hu : isEn B u w) (hr : lessE A B = r) : Calls Tryz.prog 13 #[v, u] w fun e w' => e = .returned (.bool r) ∧ Below w.heap.size w w' := by
  subst hr; exact rless_any A B v u w hv hu
set_option maxRecDepth 100000 in
set_option maxHeartbeats 4000000 in
theorem entryTells_walk (F0 : En) (v0 : Value) (F1 : En) (v1 : Value) (w0 : CameE F0) (w1 : CameE F1) (w : World) (fl0 : isEn F0 v0 w) (fl1 : isEn F1 v1 w) :
    Calls Tryz.prog 3 #[v0, v1] w fun e w' => e = .returned (.bool true) ∧ Below w.heap.size w w' := by
  obtain ⟨pa, ma, rfl, hpa, hma⟩ := fl0
  obtain ⟨pb, mb, rfl, hpb, hmb⟩ := fl1
  obtain ⟨hB, Va⟩ := ebox w F0 pa ma hpa hma (w.heap.size) (by simp)
  obtain ⟨hBn, Vb⟩ := ebox (w.alloc (.cells #[.string ⟨F0.key.toArray⟩, .int .i64 F0.val.kind, .int .i64 F0.val.time, .int .i64 F0.val.node, .bool F0.val.dead, .string ⟨F0.val.text.toArray⟩, pa, ma, .int .u64 (F0.val.flags.toNat : Int)] 27)) F1 pb mb (stable_cells _ _ _ _ hpb hB.out) (stable_cells _ _ _ _ hmb hB.out) (w.heap.size + 1) (by simp)
  replace Va := Kept.mk (Va.out.keep hBn.out)
  replace hB := Kept.mk (hB.out.trans (hBn.out.mono hB.out.size))
  clear hBn
  clear hpa hma hpb hmb
  go_enter Tryz.func3, Tryz.ntmps3
  go_wp2_with fail
  generalize ((w.alloc (.cells #[.string ⟨F0.key.toArray⟩, .int .i64 F0.val.kind, .int .i64 F0.val.time, .int .i64 F0.val.node, .bool F0.val.dead, .string ⟨F0.val.text.toArray⟩, pa, ma, .int .u64 (F0.val.flags.toNat : Int)] 27)).alloc (.cells #[.string ⟨F1.key.toArray⟩, .int .i64 F1.val.kind, .int .i64 F1.val.time, .int .i64 F1.val.node, .bool F1.val.dead, .string ⟨F1.val.text.toArray⟩, pb, mb, .int .u64 (F1.val.flags.toNat : Int)] 27)) = W0 at *
  ((with_reducible refine (eworks_any _).mono ?_); rintro e W1 ⟨rfl, hb1⟩)
  replace hB := Kept.mk (hB.out.trans ((hb1).mono hB.out.size))
  replace Va := Kept.mk (Va.out.keep (hb1))
  replace Vb := Kept.mk (Vb.out.keep (hb1))
  clear hb1
  obtain ⟨qa, ra, xa, ya, ka0, ka1, ka2, ka3, ka4, ka5, ka6, ka7, ka8⟩ := Va.out.open_
  have Xa := Kept.mk xa
  have Ya := Kept.mk ya
  clear xa ya
  go_wp2_with fail
  ((with_reducible refine (efew_any F0 _ _ Xa.out w0.key).mono ?_); rintro e W2 ⟨rfl, hb1⟩)
  clear Xa Ya ka0 ka1 ka2 ka3 ka4 ka5 ka6 ka7 ka8
  replace hB := Kept.mk (hB.out.trans ((hb1).mono hB.out.size))
  replace Va := Kept.mk (Va.out.keep (hb1))
  replace Vb := Kept.mk (Vb.out.keep (hb1))
  clear hb1
  cases fa : fewE F0 with
  | false =>
    go_wp2
    all_goals go_ret
    all_goals exact ⟨rfl, hB.out⟩
  | true =>
    have FFa := Kept.mk (fewE_fit fa)
    clear fa
    obtain ⟨qb, rb, xb, yb, kb0, kb1, kb2, kb3, kb4, kb5, kb6, kb7, kb8⟩ := Vb.out.open_
    have Xb := Kept.mk xb
    have Yb := Kept.mk yb
    clear xb yb
    go_wp2_with fail
    ((with_reducible refine (efew_any F1 _ _ Xb.out w1.key).mono ?_); rintro e W3 ⟨rfl, hb1⟩)
    clear Xb Yb kb0 kb1 kb2 kb3 kb4 kb5 kb6 kb7 kb8
    replace hB := Kept.mk (hB.out.trans ((hb1).mono hB.out.size))
    replace Va := Kept.mk (Va.out.keep (hb1))
    replace Vb := Kept.mk (Vb.out.keep (hb1))
    clear hb1
    cases fb : fewE F1 with
    | false =>
      go_wp2
      all_goals go_ret
      all_goals exact ⟨rfl, hB.out⟩
    | true =>
      have FFb := Kept.mk (fewE_fit fb)
      clear fb
      obtain ⟨qa, ra, xa, ya, ka0, ka1, ka2, ka3, ka4, ka5, ka6, ka7, ka8⟩ := Va.out.open_
      have Xa := Kept.mk xa
      have Ya := Kept.mk ya
      clear xa ya
      go_wp2_with fail
      obtain ⟨ok, hok⟩ : ∃ r, okE F0 = r := ⟨_, rfl⟩
      obtain ⟨s, hs⟩ : ∃ r, putF F0 = r := ⟨_, rfl⟩
      obtain ⟨ce, hce⟩ : ∃ r, chkE F0 = r := ⟨_, rfl⟩
      obtain ⟨G, hG⟩ : ∃ r, joinEF F0 F1 = r := ⟨_, rfl⟩
      obtain ⟨je, hje⟩ : ∃ r, joinEE F0 F1 = r := ⟨_, rfl⟩
      obtain ⟨ls, hls⟩ : ∃ r, lessE F0 F1 = r := ⟨_, rfl⟩
      obtain ⟨sm, hsm⟩ : ∃ r, decide (F0 = F1) = r := ⟨_, rfl⟩
      have hcc : (ce == 0) = ok := by rw [← hce, ← hok]; unfold chkE; cases okE F0 <;> rfl
      have FG := Kept.mk (show FitE G by rw [← hG]; exact fit_joinE F0 F1)
      have Hok := Kept.mk hok
      have Hs := Kept.mk hs
      have Hce := Kept.mk hce
      have HG := Kept.mk hG
      have Hje := Kept.mk hje
      have Hls := Kept.mk hls
      have Hsm := Kept.mk hsm
      clear hok hs hce hG hje hls hsm
      ((with_reducible refine (rechk_at F0 ok _ _ Xa.out FFa.out Hok.out).mono ?_); rintro e W4 ⟨rfl, hb1⟩)
      clear Xa Ya ka0 ka1 ka2 ka3 ka4 ka5 ka6 ka7 ka8
      replace hB := Kept.mk (hB.out.trans ((hb1).mono hB.out.size))
      replace Va := Kept.mk (Va.out.keep (hb1))
      replace Vb := Kept.mk (Vb.out.keep (hb1))
      clear hb1
      obtain ⟨qa, ra, xa, ya, ka0, ka1, ka2, ka3, ka4, ka5, ka6, ka7, ka8⟩ := Va.out.open_
      have Xa := Kept.mk xa
      have Ya := Kept.mk ya
      clear xa ya
      go_wp2_with fail
      ((with_reducible refine (eput_at F0 s ce _ _ Xa.out FFa.out Hs.out Hce.out).mono ?_); rintro e W5 ⟨rfl, hb1⟩)
      clear Xa Ya ka0 ka1 ka2 ka3 ka4 ka5 ka6 ka7 ka8
      replace hB := Kept.mk (hB.out.trans ((hb1).mono hB.out.size))
      replace Va := Kept.mk (Va.out.keep (hb1))
      replace Vb := Kept.mk (Vb.out.keep (hb1))
      clear hb1
      obtain ⟨qa, ra, xa, ya, ka0, ka1, ka2, ka3, ka4, ka5, ka6, ka7, ka8⟩ := Va.out.open_
      have Xa := Kept.mk xa
      have Ya := Kept.mk ya
      clear xa ya
      go_wp2_with fail
      ((with_reducible refine (rput_at F0 s ce _ _ Xa.out FFa.out Hs.out Hce.out).mono ?_); rintro e W6 ⟨rfl, hb1⟩)
      clear Xa Ya ka0 ka1 ka2 ka3 ka4 ka5 ka6 ka7 ka8
      replace hB := Kept.mk (hB.out.trans ((hb1).mono hB.out.size))
      replace Va := Kept.mk (Va.out.keep (hb1))
      replace Vb := Kept.mk (Vb.out.keep (hb1))
      clear hb1
      obtain ⟨qa, ra, xa, ya, ka0, ka1, ka2, ka3, ka4, ka5, ka6, ka7, ka8⟩ := Va.out.open_
      have Xa := Kept.mk xa
      have Ya := Kept.mk ya
      clear xa ya
      obtain ⟨qb, rb, xb, yb, kb0, kb1, kb2, kb3, kb4, kb5, kb6, kb7, kb8⟩ := Vb.out.open_
      have Xb := Kept.mk xb
      have Yb := Kept.mk yb
      clear xb yb
      go_wp2_with fail
      ((with_reducible refine (join_at F0 F1 je G _ _ _ Xa.out Xb.out FFa.out FFb.out Hje.out HG.out).mono ?_); rintro e U ⟨v', rfl, ⟨p', m', rfl, hp', hm', _, _⟩, hb1⟩)
      obtain ⟨K1, K2, K3, K4, K5⟩ := enew U G p' m' hp' hm' U.heap.size rfl
      clear hp' hm'
      clear Xa Ya ka0 ka1 ka2 ka3 ka4 ka5 ka6 ka7 ka8
      clear Xb Yb kb0 kb1 kb2 kb3 kb4 kb5 kb6 kb7 kb8
      replace hB := Kept.mk (hB.out.trans ((hb1).mono hB.out.size))
      replace Va := Kept.mk (Va.out.keep (hb1))
      replace Vb := Kept.mk (Vb.out.keep (hb1))
      clear hb1
      go_wp2_with (have hz0 := K1; refine wpList_storeN 27 rfl (.tmp 12) (.tmp 47) rfl U.heap.size [.string ⟨G.key.toArray⟩, .int .i64 G.val.kind, .int .i64 G.val.time, .int .i64 G.val.node, .bool G.val.dead, .string ⟨G.val.text.toArray⟩, p', m', .int .u64 (G.val.flags.toNat : Int)] size_en rfl rfl K1.out rfl K2.out K5.out ?_; replace hB := Kept.mk (hB.out.trans ((K3.out).mono hB.out.size)); replace Va := Kept.mk (Va.out.keep (K3.out)); replace Vb := Kept.mk (Vb.out.keep (K3.out)); have Vc := Kept.mk (show VarN _ _ G from ⟨_, _, K4.out⟩); clear hz0 K1 K2 K3 K4 K5; generalize setN (U.alloc (.cells #[.string ⟨#[]⟩, .int .i64 0, .int .i64 0, .int .i64 0, .bool false, .string ⟨#[]⟩, .slice none 0 0, .slice none 0 0, .int .u64 0] 27)) U.heap.size 0 [.string ⟨G.key.toArray⟩, .int .i64 G.val.kind, .int .i64 G.val.time, .int .i64 G.val.node, .bool G.val.dead, .string ⟨G.val.text.toArray⟩, p', m', .int .u64 (G.val.flags.toNat : Int)] = W7 at *; generalize U.heap.size = gc at *; obtain ⟨qa, ra, xa, ya, ka0, ka1, ka2, ka3, ka4, ka5, ka6, ka7, ka8⟩ := Va.out.open_; have Xa := Kept.mk xa; have Ya := Kept.mk ya; clear xa ya; obtain ⟨qb, rb, xb, yb, kb0, kb1, kb2, kb3, kb4, kb5, kb6, kb7, kb8⟩ := Vb.out.open_; have Xb := Kept.mk xb; have Yb := Kept.mk yb; clear xb yb)
      ((with_reducible refine (rejoin_at F0 F1 je G _ _ _ Xa.out Xb.out FFa.out FFb.out Hje.out HG.out).mono ?_); rintro e U ⟨v', rfl, ⟨p', m', rfl, hp', hm'⟩, hb1⟩)
      obtain ⟨K1, K2, K3, K4, K5⟩ := enew U G p' m' hp' hm' U.heap.size rfl
      clear hp' hm'
      clear Xa Ya ka0 ka1 ka2 ka3 ka4 ka5 ka6 ka7 ka8
      clear Xb Yb kb0 kb1 kb2 kb3 kb4 kb5 kb6 kb7 kb8
      replace hB := Kept.mk (hB.out.trans ((hb1).mono hB.out.size))
      replace Va := Kept.mk (Va.out.keep (hb1))
      replace Vb := Kept.mk (Vb.out.keep (hb1))
      replace Vc := Kept.mk (Vc.out.keep (hb1))
      clear hb1
      go_wp2_with (have hz0 := K1; refine wpList_storeN 27 rfl (.tmp 14) (.tmp 53) rfl U.heap.size [.string ⟨G.key.toArray⟩, .int .i64 G.val.kind, .int .i64 G.val.time, .int .i64 G.val.node, .bool G.val.dead, .string ⟨G.val.text.toArray⟩, p', m', .int .u64 (G.val.flags.toNat : Int)] size_en rfl rfl K1.out rfl K2.out K5.out ?_; replace hB := Kept.mk (hB.out.trans ((K3.out).mono hB.out.size)); replace Va := Kept.mk (Va.out.keep (K3.out)); replace Vb := Kept.mk (Vb.out.keep (K3.out)); replace Vc := Kept.mk (Vc.out.keep (K3.out)); have Vd := Kept.mk (show VarN _ _ G from ⟨_, _, K4.out⟩); clear hz0 K1 K2 K3 K4 K5; generalize setN (U.alloc (.cells #[.string ⟨#[]⟩, .int .i64 0, .int .i64 0, .int .i64 0, .bool false, .string ⟨#[]⟩, .slice none 0 0, .slice none 0 0, .int .u64 0] 27)) U.heap.size 0 [.string ⟨G.key.toArray⟩, .int .i64 G.val.kind, .int .i64 G.val.time, .int .i64 G.val.node, .bool G.val.dead, .string ⟨G.val.text.toArray⟩, p', m', .int .u64 (G.val.flags.toNat : Int)] = W8 at *; generalize U.heap.size = gd at *; obtain ⟨qc, rc, xc, yc, kc0, kc1, kc2, kc3, kc4, kc5, kc6, kc7, kc8⟩ := Vc.out.open_; have Xc := Kept.mk xc; have Yc := Kept.mk yc; clear xc yc; obtain ⟨qd, rd, xd, yd, kd0, kd1, kd2, kd3, kd4, kd5, kd6, kd7, kd8⟩ := Vd.out.open_; have Xd := Kept.mk xd; have Yd := Kept.mk yd; clear xd yd)
      ((with_reducible refine (resame_at G G true _ _ _ Xc.out Xd.out FG.out.val FG.out.val (by simp)).mono ?_); rintro e W9 ⟨rfl, hb1⟩)
      clear Xc Yc kc0 kc1 kc2 kc3 kc4 kc5 kc6 kc7 kc8
      clear Xd Yd kd0 kd1 kd2 kd3 kd4 kd5 kd6 kd7 kd8
      replace hB := Kept.mk (hB.out.trans ((hb1).mono hB.out.size))
      replace Va := Kept.mk (Va.out.keep (hb1))
      replace Vb := Kept.mk (Vb.out.keep (hb1))
      replace Vc := Kept.mk (Vc.out.keep (hb1))
      replace Vd := Kept.mk (Vd.out.keep (hb1))
      clear hb1
      obtain ⟨qa, ra, xa, ya, ka0, ka1, ka2, ka3, ka4, ka5, ka6, ka7, ka8⟩ := Va.out.open_
      have Xa := Kept.mk xa
      have Ya := Kept.mk ya
      clear xa ya
      obtain ⟨qb, rb, xb, yb, kb0, kb1, kb2, kb3, kb4, kb5, kb6, kb7, kb8⟩ := Vb.out.open_
      have Xb := Kept.mk xb
      have Yb := Kept.mk yb
      clear xb yb
      go_wp2_with fail
      ((with_reducible refine (rless_at F0 F1 ls _ _ _ Xa.out Xb.out Hls.out).mono ?_); rintro e W10 ⟨rfl, hb1⟩)
      clear Xa Ya ka0 ka1 ka2 ka3 ka4 ka5 ka6 ka7 ka8
      clear Xb Yb kb0 kb1 kb2 kb3 kb4 kb5 kb6 kb7 kb8
      replace hB := Kept.mk (hB.out.trans ((hb1).mono hB.out.size))
      replace Va := Kept.mk (Va.out.keep (hb1))
      replace Vb := Kept.mk (Vb.out.keep (hb1))
      replace Vc := Kept.mk (Vc.out.keep (hb1))
      replace Vd := Kept.mk (Vd.out.keep (hb1))
      clear hb1
      obtain ⟨qa, ra, xa, ya, ka0, ka1, ka2, ka3, ka4, ka5, ka6, ka7, ka8⟩ := Va.out.open_
      have Xa := Kept.mk xa
      have Ya := Kept.mk ya
      clear xa ya
      obtain ⟨qb, rb, xb, yb, kb0, kb1, kb2, kb3, kb4, kb5, kb6, kb7, kb8⟩ := Vb.out.open_
      have Xb := Kept.mk xb
      have Yb := Kept.mk yb
      clear xb yb
      go_wp2_with fail
      ((with_reducible refine (resame_at F0 F1 sm _ _ _ Xa.out Xb.out FFa.out.val FFb.out.val Hsm.out).mono ?_); rintro e W11 ⟨rfl, hb1⟩)
      clear Xa Ya ka0 ka1 ka2 ka3 ka4 ka5 ka6 ka7 ka8
      clear Xb Yb kb0 kb1 kb2 kb3 kb4 kb5 kb6 kb7 kb8
      replace hB := Kept.mk (hB.out.trans ((hb1).mono hB.out.size))
      replace Va := Kept.mk (Va.out.keep (hb1))
      replace Vb := Kept.mk (Vb.out.keep (hb1))
      replace Vc := Kept.mk (Vc.out.keep (hb1))
      replace Vd := Kept.mk (Vd.out.keep (hb1))
      clear hb1
      obtain ⟨qa, ra, xa, ya, ka0, ka1, ka2, ka3, ka4, ka5, ka6, ka7, ka8⟩ := Va.out.open_
      have Xa := Kept.mk xa
      have Ya := Kept.mk ya
      clear xa ya
      go_wp2_with fail
      ((with_reducible refine (g_check F0 ce _ _ Xa.out FFa.out Hce.out).mono ?_); rintro e W12 ⟨rfl, hb1⟩)
      clear Xa Ya ka0 ka1 ka2 ka3 ka4 ka5 ka6 ka7 ka8
      replace hB := Kept.mk (hB.out.trans ((hb1).mono hB.out.size))
      replace Va := Kept.mk (Va.out.keep (hb1))
      replace Vb := Kept.mk (Vb.out.keep (hb1))
      replace Vc := Kept.mk (Vc.out.keep (hb1))
      replace Vd := Kept.mk (Vd.out.keep (hb1))
      clear hb1
      obtain ⟨qa, ra, xa, ya, ka0, ka1, ka2, ka3, ka4, ka5, ka6, ka7, ka8⟩ := Va.out.open_
      have Xa := Kept.mk xa
      have Ya := Kept.mk ya
      clear xa ya
      obtain ⟨qb, rb, xb, yb, kb0, kb1, kb2, kb3, kb4, kb5, kb6, kb7, kb8⟩ := Vb.out.open_
      have Xb := Kept.mk xb
      have Yb := Kept.mk yb
      clear xb yb
      go_wp2_with fail
      ((with_reducible refine (g_less F0 F1 ls _ _ _ Xa.out Xb.out Hls.out).mono ?_); rintro e W13 ⟨rfl, hb1⟩)
      clear Xa Ya ka0 ka1 ka2 ka3 ka4 ka5 ka6 ka7 ka8
      clear Xb Yb kb0 kb1 kb2 kb3 kb4 kb5 kb6 kb7 kb8
      replace hB := Kept.mk (hB.out.trans ((hb1).mono hB.out.size))
      replace Va := Kept.mk (Va.out.keep (hb1))
      replace Vb := Kept.mk (Vb.out.keep (hb1))
      replace Vc := Kept.mk (Vc.out.keep (hb1))
      replace Vd := Kept.mk (Vd.out.keep (hb1))
      clear hb1
      obtain ⟨qa, ra, xa, ya, ka0, ka1, ka2, ka3, ka4, ka5, ka6, ka7, ka8⟩ := Va.out.open_
      have Xa := Kept.mk xa
      have Ya := Kept.mk ya
      clear xa ya
      obtain ⟨qb, rb, xb, yb, kb0, kb1, kb2, kb3, kb4, kb5, kb6, kb7, kb8⟩ := Vb.out.open_
      have Xb := Kept.mk xb
      have Yb := Kept.mk yb
      clear xb yb
      go_wp2_with fail
      ((with_reducible refine (g_same F0 F1 sm _ _ _ Xa.out Xb.out FFa.out.val FFb.out.val Hsm.out).mono ?_); rintro e W14 ⟨rfl, hb1⟩)
      clear Xa Ya ka0 ka1 ka2 ka3 ka4 ka5 ka6 ka7 ka8
      clear Xb Yb kb0 kb1 kb2 kb3 kb4 kb5 kb6 kb7 kb8
      replace hB := Kept.mk (hB.out.trans ((hb1).mono hB.out.size))
      replace Va := Kept.mk (Va.out.keep (hb1))
      replace Vb := Kept.mk (Vb.out.keep (hb1))
      replace Vc := Kept.mk (Vc.out.keep (hb1))
      replace Vd := Kept.mk (Vd.out.keep (hb1))
      clear hb1
      go_wp2
      all_goals go_ret
      all_goals exact ⟨rfl, hB.out⟩
set_option maxRecDepth 100000 in
theorem entryTells_lifted (os : Os) (started : os.Started) (H : Type) (enc : TypeId × Value → H) :
    ReturnsInHanded {} Tryz.checked os 3 .any (Rows.entryTellsSpec.pre6 enc Tryz.prog Tryz.f3 Rows.entryTellsRow.domain false) (Rows.entryTellsSpec.post enc Tryz.prog Tryz.f3 false true false false) := by
  refine returnsInHanded_of_change (C := Tryz.checked) (by kernel_rfl : ownKnob Tryz.prog.godebug = none) started (by kernel_rfl) Tryz.func3
    (ChangeSpec.witness6 (enc := enc) (C := Tryz.checked) false ⟨#[], #[.agg #[.string ByteArray.empty, .int .i64 0, .int .i64 0, .int .i64 0, .bool false, .string ByteArray.empty, .slice none 0 0, .slice none 0 0, .int .u64 0], .agg #[.string ByteArray.empty, .int .i64 0, .int .i64 0, .int .i64 0, .bool false, .string ByteArray.empty, .slice none 0 0, .slice none 0 0, .int .u64 0]], []⟩ 8 (by kernel_rfl) (by kernel_rfl) (by kernel_rfl) (by kernel_rfl)) ?_
  intro W base args ds gs before hval0 hW hcnd _
  have hval : ∀ (j : Nat) t v, Tryz.f3.params[j]? = some t → args[j]? = some v → Value.okWide Tryz.prog W .any base t v := hval0
  have hW' := hW
  obtain ⟨p, q, hA0, hV, rfl, hfz, hnd⟩ := hW
  have hA : DataW.TrodAll enc Tryz.prog W 0 (fun _ => true) true Tryz.f3.params.toList args.toList ds p := hA0
  rw [Tryz.params3] at hA hval
  obtain ⟨v0, vs0, d0, ds0, p0, q0, hargs, rfl, rfl, h0, r0⟩ := trodAll_cons hA
  obtain ⟨v1, vs1, d1, ds1, p1, q1, rfl, rfl, rfl, h1, r1⟩ := trodAll_cons r0
  obtain ⟨rfl, rfl, rfl⟩ := trodAll_nil r1
  obtain rfl : args = #[v0, v1] := by cases args; simp_all
  obtain ⟨rfl, rfl⟩ := trodVars_none hV
  obtain ⟨F0, fl0, w0⟩ := open_en (hval 0 27 v0 rfl rfl) h0
  have lt0 : ∀ x ∈ p0, x.block < W.heap.size := fun x hx => by obtain ⟨fuel, hf⟩ := h0; exact DataW.trod_lt fuel _ _ _ hf x hx
  obtain ⟨F1, fl1, w1⟩ := open_en (hval 1 27 v1 rfl rfl) h1
  have lt1 : ∀ x ∈ p1, x.block < W.heap.size := fun x hx => by obtain ⟨fuel, hf⟩ := h1; exact DataW.trod_lt fuel _ _ _ hf x hx
  clear hA0 hval0
  simp only [List.append_nil] at hW'
  refine (entryTells_walk F0 v0 F1 v1 w0 w1 W fl0 fl1).mono fun e W' ⟨he, bel⟩ => ?_
  subst he
  exact ⟨_, rfl, _, _, _, [], _, [], hW', trodAll_mk1 (shut_bool Tryz.underlying4 _), (trodAll_cons_mk (Below.trod (by kernel_rfl) (by kernel_rfl) (of_decide_eq_true (by kernel_rfl)) h0 bel lt0) (trodAll_cons_mk (Below.trod (by kernel_rfl) (by kernel_rfl) (of_decide_eq_true (by kernel_rfl)) h1 bel lt1) trodAll_mk0)), rfl, bel.frame _, fun h => by cases h⟩
/-- THE STATEMENT. -/
theorem entryTells_proved : Rows.EntryTellsSaid :=
  OpenClaim.holds_of_wide 3 Tryz.f3 rfl rfl rfl rfl rfl rfl rfl ⟨rfl, rfl, rfl, rfl, rfl⟩ rfl rfl rfl rfl rfl (by kernel_rfl) Tryz.func3 (by kernel_rfl)
    (of_decide_eq_true (by kernel_rfl)) (by unfold Func.isWrapper; first | (rw [if_pos (by decide +kernel)]; kernel_rfl) | (rw [if_neg (by decide +kernel)]; exact ⟨rfl, rfl⟩))
    (fun os started H enc _ => entryTells_lifted os started H enc)
#print axioms entryTells_proved
end Go.Proofs.YtebjljiklacolaaGreat
