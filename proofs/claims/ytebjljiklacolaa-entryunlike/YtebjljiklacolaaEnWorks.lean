/- works() of layer 7: the document's example, and names. -/
import Derived.Test.YtebjljiklacolaaEnPut
import Derived.Test.YtebjljiklacolaaEnGet2
import Derived.Test.YtebjljiklacolaaEnJoin
import Derived.Test.YtebjljiklacolaaEnOpen
namespace Go.Proofs.Ytebjljiklacolaa
open Go.RowKit
set_option linter.unusedVariables false
set_option linter.unusedSimpArgs false
attribute [local irreducible] setN

def eA : En := ⟨[107], ⟨3, 0, 0, false, [], [], [], 5⟩⟩
def eB : En := ⟨[107], ⟨3, 0, 0, false, [], [], [], 2⟩⟩
def eC : En := ⟨[107], ⟨1, 2, 1, false, [118], [], [], 0⟩⟩
def eD : En := ⟨[107], ⟨3, 0, 0, false, [], [], [], 7⟩⟩
def sA : List UInt8 := [3, 1, 107, 0, 0, 0, 0, 0, 0, 0, 5] ++ List.replicate 31 0
theorem getEF_put {E : En} (h : okE E = true) : getEF (putEn E) = E ∧ getEE (putEn E) = 0 := by
  have := rd_putEn h
  unfold getEF getEE getOk
  rw [this]
  exact ⟨rfl, rfl⟩
theorem sA_put : putEn eA = sA := by kernel_rfl
theorem okA : okE eA = true := by kernel_rfl
theorem c_ac (v u : Value) (w : World) (hv : isEn eA v w) (hu : isEn eC u w) : Calls Try.prog 14 #[v, u] w fun e w' => ∃ v', e = .returned (.tuple #[v', .int .i64 3]) ∧ isEnN w.heap.size zeroE v' w' ∧ Below w.heap.size w w' := by
  have h := ejoin_any eA eC v u w hv hu ⟨by decide, ⟨by decide, by decide, by decide⟩⟩ ⟨by decide, ⟨by decide, by decide, by decide⟩⟩
  rwa [show joinEF eA eC = zeroE by kernel_rfl, show joinEE eA eC = 3 by kernel_rfl] at h
theorem c_ab (v u : Value) (w : World) (hv : isEn eA v w) (hu : isEn eB u w) : Calls Try.prog 14 #[v, u] w fun e w' => ∃ v', e = .returned (.tuple #[v', .int .i64 0]) ∧ isEnN w.heap.size eD v' w' ∧ Below w.heap.size w w' := by
  have h := ejoin_any eA eB v u w hv hu ⟨by decide, ⟨by decide, by decide, by decide⟩⟩ ⟨by decide, ⟨by decide, by decide, by decide⟩⟩
  rwa [show joinEF eA eB = eD by kernel_rfl, show joinEE eA eB = 0 by kernel_rfl] at h
theorem c_put (v : Value) (w : World) (hv : isEn eA v w) : Calls Try.prog 9 #[v] w fun e w' => e = .returned (.tuple #[.string ⟨sA.toArray⟩, .int .i64 0]) ∧ Below w.heap.size w w' := by
  have h := eput_any eA v w hv ⟨by decide, ⟨by decide, by decide, by decide⟩⟩
  rwa [show putF eA = sA by kernel_rfl, show chkE eA = 0 by kernel_rfl] at h
theorem c_putZ (v : Value) (w : World) (hv : isEn zeroE v w) : Calls Try.prog 9 #[v] w fun e w' => e = .returned (.tuple #[.string ⟨#[]⟩, .int .i64 2]) ∧ Below w.heap.size w w' := by
  have h := eput_any zeroE v w hv ⟨by decide, ⟨by decide, by decide, by decide⟩⟩
  rwa [show putF zeroE = [] by kernel_rfl, show chkE zeroE = 2 by kernel_rfl] at h
theorem c_get (w : World) : Calls Try.prog 10 #[.string ⟨sA.toArray⟩] w fun e w' => ∃ v', e = .returned (.tuple #[v', .int .i64 0]) ∧ isEnN w.heap.size eA v' w' ∧ Below w.heap.size w w' := by
  have h := eget_any sA w (by decide)
  have e := getEF_put okA
  rw [sA_put] at e
  rwa [e.1, e.2] at h
theorem c_getX (w : World) : Calls Try.prog 10 #[.string ⟨(sA ++ [120]).toArray⟩] w fun e w' => ∃ v', e = .returned (.tuple #[v', .int .i64 2]) ∧ isEnN w.heap.size zeroE v' w' ∧ Below w.heap.size w w' := by
  have h := eget_any (sA ++ [120]) w (by decide)
  have e := rd_len (s := sA ++ [120]) (by decide)
  rwa [show getEF (sA ++ [120]) = zeroE by unfold getEF; rw [e]; rfl, show getEE (sA ++ [120]) = 2 by unfold getEE getOk; rw [e]; rfl] at h
theorem eB_lit (w : World) : isEn eB (.agg #[.string ⟨#[107]⟩, .int .i64 3, .int .i64 0, .int .i64 0, .bool false, .string ⟨#[]⟩, .slice none 0 0, .slice none 0 0, .int .u64 2]) w := ⟨_, _, rfl, .inl ⟨rfl, rfl⟩, .inl ⟨rfl, rfl⟩⟩
theorem zeroE_lit (w : World) : isEn zeroE (.agg #[.string ⟨#[]⟩, .int .i64 0, .int .i64 0, .int .i64 0, .bool false, .string ⟨#[]⟩, .slice none 0 0, .slice none 0 0, .int .u64 0]) w := ⟨_, _, rfl, .inl ⟨rfl, rfl⟩, .inl ⟨rfl, rfl⟩⟩
theorem g_same (A B : En) (r : Bool) (v u : Value) (w : World) (hv : isEn A v w) (hu : isEn B u w) (h1 : Fit A.val) (h2 : Fit B.val) (hr : decide (A = B) = r) : Calls Try.prog 11 #[v, u] w fun e w' => e = .returned (.bool r) ∧ Below w.heap.size w w' := by
  subst hr; exact esame_any A B v u w hv hu h1 h2
theorem g_less (A B : En) (r : Bool) (v u : Value) (w : World) (hv : isEn A v w) (hu : isEn B u w) (hr : lessE A B = r) : Calls Try.prog 13 #[v, u] w fun e w' => e = .returned (.bool r) ∧ Below w.heap.size w w' := by
  subst hr; exact eless_any A B v u w hv hu
theorem g_check (A : En) (r : Int) (v : Value) (w : World) (hv : isEn A v w) (h1 : FitE A) (hr : chkE A = r) : Calls Try.prog 12 #[v] w fun e w' => e = .returned (.int .i64 r) ∧ Below w.heap.size w w' := by
  subst hr; exact echeck_any A v w hv h1
noncomputable def eworksOps : Array Oper := regionOf Try.f7 9
set_option maxRecDepth 100000 in
set_option maxHeartbeats 2000000 in
theorem eworks_region (Q : Exit → Act → World → Prop) (a0 : Act) (w0 : World) (hsz : a0.tmps.size = 125) 
    (hQ : ∀ (g : Nat → Value) (w : World), g 15 = .string ⟨sA.toArray⟩ → Below w0.heap.size w0 w → Q .normal { tmps := [54, 55, 56, 57, 58, 15].foldl (fun t s => t.setIfInBounds s (g s)) a0.tmps, defers := a0.defers } w) :
    (Code.region 9 eworksOps true).wp Try.prog Q a0 w0 := by
  obtain ⟨iu8, hiu8, hzu8, hsu8, _⟩ := info_parts Try.infoU8
  refine wp_region_flow mixed (by rw [hsz]; kernel_rfl) ?_
  rw [show eworksOps.size = 6 by kernel_rfl]
  refine ⟨isRow [3, 1, 107, 0, 0, 0, 0, 0, 0, 0, 5], step_row 43 5 #[(0, .const (.int .u8 3)), (1, .const (.int .u8 1)), (2, .const (.int .u8 107)), (3, .const (.int .u8 0)), (4, .const (.int .u8 0)), (5, .const (.int .u8 0)), (6, .const (.int .u8 0)), (7, .const (.int .u8 0)), (8, .const (.int .u8 0)), (9, .const (.int .u8 0)), (10, .const (.int .u8 5))] [3, 1, 107, 0, 0, 0, 0, 0, 0, 0, 5] iu8 (by kernel_rfl) (wanted_none (by kernel_rfl)) Try.underlying43 hiu8 hzu8 hsu8 (by decide) (by decide) (by kernel_rfl), ?_⟩
  refine ⟨isVal (.string ⟨[3, 1, 107, 0, 0, 0, 0, 0, 0, 0, 5].toArray⟩), step_convRow 43 9 5 (.tmp 54) [3, 1, 107, 0, 0, 0, 0, 0, 0, 0, 5] (by kernel_rfl) (wanted_none (by kernel_rfl)) (knows_new (V := isRow [3, 1, 107, 0, 0, 0, 0, 0, 0, 0, 5]) 54 0 (by kernel_rfl) (by kernel_rfl) (by kernel_rfl)) Try.underlying43 Try.underlying5 Try.underlying9, ?_⟩
  refine ⟨isRow (List.replicate 31 0), step_make 43 5 (.const (.int .i64 31)) 31 (by kernel_rfl) (wanted_none (by kernel_rfl)) (knows_const _) Try.underlying43 Try.infoU8 (by omega), ?_⟩
  refine ⟨isVal (.string ⟨(List.replicate 31 0).toArray⟩), step_convRow 43 9 5 (.tmp 56) (List.replicate 31 0) (by kernel_rfl) (wanted_none (by kernel_rfl)) (knows_new (V := isRow (List.replicate 31 0)) 56 2 (by kernel_rfl) (by kernel_rfl) (by kernel_rfl)) Try.underlying43 Try.underlying5 Try.underlying9, ?_⟩
  refine ⟨isVal (.string ⟨sA.toArray⟩), step_bin .add 9 9 (.tmp 55) (.tmp 57) (.string ⟨[3, 1, 107, 0, 0, 0, 0, 0, 0, 0, 5].toArray⟩) (.string ⟨(List.replicate 31 0).toArray⟩) (.string ⟨sA.toArray⟩) (by kernel_rfl) (wanted_none (by kernel_rfl)) (knows_new (V := isVal (.string ⟨[3, 1, 107, 0, 0, 0, 0, 0, 0, 0, 5].toArray⟩)) 55 1 (by kernel_rfl) (by kernel_rfl) (by kernel_rfl)) (knows_new (V := isVal (.string ⟨(List.replicate 31 0).toArray⟩)) 57 3 (by kernel_rfl) (by kernel_rfl) (by kernel_rfl)) (fun _ => rfl) (fun W => run_string_add_lists W [3, 1, 107, 0, 0, 0, 0, 0, 0, 0, 5] (List.replicate 31 0) (by decide) (by decide)), ?_⟩
  refine ⟨isVal (.string ⟨sA.toArray⟩), step_assign (.tmp 58) (by kernel_rfl) (wanted_none (by kernel_rfl)) (stable_val _) (knows_new (V := isVal (.string ⟨sA.toArray⟩)) 58 4 (by kernel_rfl) (by kernel_rfl) (by kernel_rfl)), ?_⟩
  intro a w hkp hb hd
  rw [kept_of hkp [some 54, some 55, some 56, some 57, some 58, some 15] [54, 55, 56, 57, 58, 15] (by kernel_rfl) (by decide)]
  have d15 := fdone_of (hd 5 (by rw [show eworksOps.size = 6 by kernel_rfl]; decide)) (t := 15) (V := isVal (.string ⟨sA.toArray⟩)) (by kernel_rfl) (by kernel_rfl)
  exact hQ (fun s => a.tmps.getD s undef) w d15 hb
set_option maxRecDepth 100000 in
set_option maxHeartbeats 4000000 in
theorem eworks_any (w : World) : Calls Try.prog 7 #[] w fun e w' => e = .returned (.bool true) ∧ Below w.heap.size w w' := by
  go_enter Try.func7, Try.ntmps7
  obtain ⟨K1, K2, K3, K4, K5⟩ := enew w eA (.slice none 0 0) (.slice none 0 0) (.inl ⟨rfl, rfl⟩) (.inl ⟨rfl, rfl⟩) w.heap.size rfl
  go_wp2_with (have hz0 := K1; refine wpList_storeN 27 rfl (.tmp 1) (.tmp 17) rfl w.heap.size [.string ⟨eA.key.toArray⟩, .int .i64 eA.val.kind, .int .i64 eA.val.time, .int .i64 eA.val.node, .bool eA.val.dead, .string ⟨eA.val.text.toArray⟩, .slice none 0 0, .slice none 0 0, .int .u64 (eA.val.flags.toNat : Int)] size_en rfl rfl K1.out rfl K2.out K5.out ?_; have hB := Kept.mk K3.out; have Va := Kept.mk (show VarN _ _ eA from ⟨_, _, K4.out⟩); clear hz0 K1 K2 K3 K4 K5; generalize setN (w.alloc (.cells #[.string ⟨#[]⟩, .int .i64 0, .int .i64 0, .int .i64 0, .bool false, .string ⟨#[]⟩, .slice none 0 0, .slice none 0 0, .int .u64 0] 27)) w.heap.size 0 [.string ⟨eA.key.toArray⟩, .int .i64 eA.val.kind, .int .i64 eA.val.time, .int .i64 eA.val.node, .bool eA.val.dead, .string ⟨eA.val.text.toArray⟩, .slice none 0 0, .slice none 0 0, .int .u64 (eA.val.flags.toNat : Int)] = W1 at *; skip; obtain ⟨qa, ra, xa, ya, ka0, ka1, ka2, ka3, ka4, ka5, ka6, ka7, ka8⟩ := Va.out.open_; have Xa := Kept.mk xa; have Ya := Kept.mk ya; clear xa ya)
  ((with_reducible refine (c_put _ _ Xa.out).mono ?_); rintro e W2 ⟨rfl, hb1⟩)
  clear Xa Ya ka0 ka1 ka2 ka3 ka4 ka5 ka6 ka7 ka8
  replace hB := Kept.mk (hB.out.trans ((hb1).mono hB.out.size))
  replace Va := Kept.mk (Va.out.keep (hb1))
  clear hb1
  go_wp2_with fail
  ((with_reducible refine (c_get _).mono ?_); rintro e U ⟨v', rfl, ⟨p', m', rfl, hp', hm', _, _⟩, hb1⟩)
  obtain ⟨K1, K2, K3, K4, K5⟩ := enew U eA p' m' hp' hm' U.heap.size rfl
  clear hp' hm'
  replace hB := Kept.mk (hB.out.trans ((hb1).mono hB.out.size))
  replace Va := Kept.mk (Va.out.keep (hb1))
  clear hb1
  go_wp2_with (first | (have hz0 := K1; refine wpList_storeN 27 rfl (.tmp 4) (.tmp 26) rfl U.heap.size [.string ⟨eA.key.toArray⟩, .int .i64 eA.val.kind, .int .i64 eA.val.time, .int .i64 eA.val.node, .bool eA.val.dead, .string ⟨eA.val.text.toArray⟩, p', m', .int .u64 (eA.val.flags.toNat : Int)] size_en rfl rfl K1.out rfl K2.out K5.out ?_; replace hB := Kept.mk (hB.out.trans ((K3.out).mono hB.out.size)); replace Va := Kept.mk (Va.out.keep (K3.out)); have Vb := Kept.mk (show VarN _ _ eA from ⟨_, _, K4.out⟩); clear hz0 K1 K2 K3 K4 K5; generalize setN (U.alloc (.cells #[.string ⟨#[]⟩, .int .i64 0, .int .i64 0, .int .i64 0, .bool false, .string ⟨#[]⟩, .slice none 0 0, .slice none 0 0, .int .u64 0] 27)) U.heap.size 0 [.string ⟨eA.key.toArray⟩, .int .i64 eA.val.kind, .int .i64 eA.val.time, .int .i64 eA.val.node, .bool eA.val.dead, .string ⟨eA.val.text.toArray⟩, p', m', .int .u64 (eA.val.flags.toNat : Int)] = W3 at *; generalize U.heap.size = gb at *; obtain ⟨K1, K2, K3, K4, K5⟩ := enew W3 eC (.slice none 0 0) (.slice none 0 0) (.inl ⟨rfl, rfl⟩) (.inl ⟨rfl, rfl⟩) W3.heap.size rfl) | (have hz0 := K1; refine wpList_storeN 27 rfl (.tmp 6) (.tmp 29) rfl W3.heap.size [.string ⟨eC.key.toArray⟩, .int .i64 eC.val.kind, .int .i64 eC.val.time, .int .i64 eC.val.node, .bool eC.val.dead, .string ⟨eC.val.text.toArray⟩, .slice none 0 0, .slice none 0 0, .int .u64 (eC.val.flags.toNat : Int)] size_en rfl rfl K1.out rfl K2.out K5.out ?_; replace hB := Kept.mk (hB.out.trans ((K3.out).mono hB.out.size)); replace Va := Kept.mk (Va.out.keep (K3.out)); replace Vb := Kept.mk (Vb.out.keep (K3.out)); have Vc := Kept.mk (show VarN _ _ eC from ⟨_, _, K4.out⟩); clear hz0 K1 K2 K3 K4 K5; generalize setN (W3.alloc (.cells #[.string ⟨#[]⟩, .int .i64 0, .int .i64 0, .int .i64 0, .bool false, .string ⟨#[]⟩, .slice none 0 0, .slice none 0 0, .int .u64 0] 27)) W3.heap.size 0 [.string ⟨eC.key.toArray⟩, .int .i64 eC.val.kind, .int .i64 eC.val.time, .int .i64 eC.val.node, .bool eC.val.dead, .string ⟨eC.val.text.toArray⟩, .slice none 0 0, .slice none 0 0, .int .u64 (eC.val.flags.toNat : Int)] = W4 at *; generalize W3.heap.size = gc at *; obtain ⟨qa, ra, xa, ya, ka0, ka1, ka2, ka3, ka4, ka5, ka6, ka7, ka8⟩ := Va.out.open_; have Xa := Kept.mk xa; have Ya := Kept.mk ya; clear xa ya; obtain ⟨qc, rc, xc, yc, kc0, kc1, kc2, kc3, kc4, kc5, kc6, kc7, kc8⟩ := Vc.out.open_; have Xc := Kept.mk xc; have Yc := Kept.mk yc; clear xc yc))
  ((with_reducible refine (c_ac _ _ _ Xa.out Xc.out).mono ?_); rintro e U ⟨v', rfl, ⟨p', m', rfl, hp', hm', _, _⟩, hb1⟩)
  obtain ⟨K1, K2, K3, K4, K5⟩ := enew U zeroE p' m' hp' hm' U.heap.size rfl
  clear hp' hm'
  clear Xa Ya ka0 ka1 ka2 ka3 ka4 ka5 ka6 ka7 ka8
  clear Xc Yc kc0 kc1 kc2 kc3 kc4 kc5 kc6 kc7 kc8
  replace hB := Kept.mk (hB.out.trans ((hb1).mono hB.out.size))
  replace Va := Kept.mk (Va.out.keep (hb1))
  replace Vb := Kept.mk (Vb.out.keep (hb1))
  replace Vc := Kept.mk (Vc.out.keep (hb1))
  clear hb1
  go_wp2_with (have hz0 := K1; refine wpList_storeN 27 rfl (.tmp 7) (.tmp 34) rfl U.heap.size [.string ⟨zeroE.key.toArray⟩, .int .i64 zeroE.val.kind, .int .i64 zeroE.val.time, .int .i64 zeroE.val.node, .bool zeroE.val.dead, .string ⟨zeroE.val.text.toArray⟩, p', m', .int .u64 (zeroE.val.flags.toNat : Int)] size_en rfl rfl K1.out rfl K2.out K5.out ?_; replace hB := Kept.mk (hB.out.trans ((K3.out).mono hB.out.size)); replace Va := Kept.mk (Va.out.keep (K3.out)); replace Vb := Kept.mk (Vb.out.keep (K3.out)); replace Vc := Kept.mk (Vc.out.keep (K3.out)); have Vx := Kept.mk (show VarN _ _ zeroE from ⟨_, _, K4.out⟩); clear hz0 K1 K2 K3 K4 K5; generalize setN (U.alloc (.cells #[.string ⟨#[]⟩, .int .i64 0, .int .i64 0, .int .i64 0, .bool false, .string ⟨#[]⟩, .slice none 0 0, .slice none 0 0, .int .u64 0] 27)) U.heap.size 0 [.string ⟨zeroE.key.toArray⟩, .int .i64 zeroE.val.kind, .int .i64 zeroE.val.time, .int .i64 zeroE.val.node, .bool zeroE.val.dead, .string ⟨zeroE.val.text.toArray⟩, p', m', .int .u64 (zeroE.val.flags.toNat : Int)] = W5 at *; generalize U.heap.size = gx at *; obtain ⟨qa, ra, xa, ya, ka0, ka1, ka2, ka3, ka4, ka5, ka6, ka7, ka8⟩ := Va.out.open_; have Xa := Kept.mk xa; have Ya := Kept.mk ya; clear xa ya)
  ((with_reducible refine (c_ab _ _ _ Xa.out (eB_lit _)).mono ?_); rintro e U ⟨v', rfl, ⟨p', m', rfl, hp', hm', _, _⟩, hb1⟩)
  obtain ⟨K1, K2, K3, K4, K5⟩ := enew U eD p' m' hp' hm' U.heap.size rfl
  clear hp' hm'
  clear Xa Ya ka0 ka1 ka2 ka3 ka4 ka5 ka6 ka7 ka8
  replace hB := Kept.mk (hB.out.trans ((hb1).mono hB.out.size))
  replace Va := Kept.mk (Va.out.keep (hb1))
  replace Vb := Kept.mk (Vb.out.keep (hb1))
  replace Vc := Kept.mk (Vc.out.keep (hb1))
  replace Vx := Kept.mk (Vx.out.keep (hb1))
  clear hb1
  go_wp2_with (have hz0 := K1; refine wpList_storeN 27 rfl (.tmp 9) (.tmp 41) rfl U.heap.size [.string ⟨eD.key.toArray⟩, .int .i64 eD.val.kind, .int .i64 eD.val.time, .int .i64 eD.val.node, .bool eD.val.dead, .string ⟨eD.val.text.toArray⟩, p', m', .int .u64 (eD.val.flags.toNat : Int)] size_en rfl rfl K1.out rfl K2.out K5.out ?_; replace hB := Kept.mk (hB.out.trans ((K3.out).mono hB.out.size)); replace Va := Kept.mk (Va.out.keep (K3.out)); replace Vb := Kept.mk (Vb.out.keep (K3.out)); replace Vc := Kept.mk (Vc.out.keep (K3.out)); replace Vx := Kept.mk (Vx.out.keep (K3.out)); have Vd := Kept.mk (show VarN _ _ eD from ⟨_, _, K4.out⟩); clear hz0 K1 K2 K3 K4 K5; generalize setN (U.alloc (.cells #[.string ⟨#[]⟩, .int .i64 0, .int .i64 0, .int .i64 0, .bool false, .string ⟨#[]⟩, .slice none 0 0, .slice none 0 0, .int .u64 0] 27)) U.heap.size 0 [.string ⟨eD.key.toArray⟩, .int .i64 eD.val.kind, .int .i64 eD.val.time, .int .i64 eD.val.node, .bool eD.val.dead, .string ⟨eD.val.text.toArray⟩, p', m', .int .u64 (eD.val.flags.toNat : Int)] = W6 at *; generalize U.heap.size = gd at *; have hcat := fun W => run_string_add_lists (P := Try.prog) W sA [120] (by decide) (by decide))
  clear hcat
  ((with_reducible refine (c_getX _).mono ?_); rintro e U ⟨v', rfl, ⟨p', m', rfl, hp', hm', _, _⟩, hb1⟩)
  obtain ⟨K1, K2, K3, K4, K5⟩ := enew U zeroE p' m' hp' hm' U.heap.size rfl
  clear hp' hm'
  replace hB := Kept.mk (hB.out.trans ((hb1).mono hB.out.size))
  replace Va := Kept.mk (Va.out.keep (hb1))
  replace Vb := Kept.mk (Vb.out.keep (hb1))
  replace Vc := Kept.mk (Vc.out.keep (hb1))
  replace Vx := Kept.mk (Vx.out.keep (hb1))
  replace Vd := Kept.mk (Vd.out.keep (hb1))
  clear hb1
  go_wp2_with (have hz0 := K1; refine wpList_storeN 27 rfl (.tmp 11) (.tmp 47) rfl U.heap.size [.string ⟨zeroE.key.toArray⟩, .int .i64 zeroE.val.kind, .int .i64 zeroE.val.time, .int .i64 zeroE.val.node, .bool zeroE.val.dead, .string ⟨zeroE.val.text.toArray⟩, p', m', .int .u64 (zeroE.val.flags.toNat : Int)] size_en rfl rfl K1.out rfl K2.out K5.out ?_; replace hB := Kept.mk (hB.out.trans ((K3.out).mono hB.out.size)); replace Va := Kept.mk (Va.out.keep (K3.out)); replace Vb := Kept.mk (Vb.out.keep (K3.out)); replace Vc := Kept.mk (Vc.out.keep (K3.out)); replace Vx := Kept.mk (Vx.out.keep (K3.out)); replace Vd := Kept.mk (Vd.out.keep (K3.out)); have Vy := Kept.mk (show VarN _ _ zeroE from ⟨_, _, K4.out⟩); clear hz0 K1 K2 K3 K4 K5; generalize setN (U.alloc (.cells #[.string ⟨#[]⟩, .int .i64 0, .int .i64 0, .int .i64 0, .bool false, .string ⟨#[]⟩, .slice none 0 0, .slice none 0 0, .int .u64 0] 27)) U.heap.size 0 [.string ⟨zeroE.key.toArray⟩, .int .i64 zeroE.val.kind, .int .i64 zeroE.val.time, .int .i64 zeroE.val.node, .bool zeroE.val.dead, .string ⟨zeroE.val.text.toArray⟩, p', m', .int .u64 (zeroE.val.flags.toNat : Int)] = W7 at *; generalize U.heap.size = gy at *)
  ((with_reducible refine (c_putZ _ _ (zeroE_lit _)).mono ?_); rintro e W8 ⟨rfl, hb1⟩)
  replace hB := Kept.mk (hB.out.trans ((hb1).mono hB.out.size))
  replace Va := Kept.mk (Va.out.keep (hb1))
  replace Vb := Kept.mk (Vb.out.keep (hb1))
  replace Vc := Kept.mk (Vc.out.keep (hb1))
  replace Vx := Kept.mk (Vx.out.keep (hb1))
  replace Vd := Kept.mk (Vd.out.keep (hb1))
  replace Vy := Kept.mk (Vy.out.keep (hb1))
  clear hb1
  go_wp2_with fail
  refine eworks_region _ _ _ rfl ?_
  intro f9 W9 d15 hb9
  simp only [List.foldl_cons, List.foldl_nil, d15]
  generalize f9 54 = y54
  generalize f9 55 = y55
  generalize f9 56 = y56
  generalize f9 57 = y57
  generalize f9 58 = y58
  clear d15
  simp only [List.setIfInBounds_toArray, List.set_cons_succ, List.set_cons_zero]
  replace hB := Kept.mk (hB.out.trans ((hb9).mono hB.out.size))
  replace Va := Kept.mk (Va.out.keep (hb9))
  replace Vb := Kept.mk (Vb.out.keep (hb9))
  replace Vc := Kept.mk (Vc.out.keep (hb9))
  replace Vx := Kept.mk (Vx.out.keep (hb9))
  replace Vd := Kept.mk (Vd.out.keep (hb9))
  replace Vy := Kept.mk (Vy.out.keep (hb9))
  clear hb9
  obtain ⟨qa, ra, xa, ya, ka0, ka1, ka2, ka3, ka4, ka5, ka6, ka7, ka8⟩ := Va.out.open_
  have Xa := Kept.mk xa
  have Ya := Kept.mk ya
  clear xa ya
  obtain ⟨qb, rb, xb, yb, kb0, kb1, kb2, kb3, kb4, kb5, kb6, kb7, kb8⟩ := Vb.out.open_
  have Xb := Kept.mk xb
  have Yb := Kept.mk yb
  clear xb yb
  have hsa : (sA == sA) = true := by decide
  go_wp2_with fail
  ((with_reducible refine (g_same eA eA true _ _ _ Xa.out Xb.out ⟨by decide, by decide, by decide⟩ ⟨by decide, by decide, by decide⟩ (by decide)).mono ?_); rintro e W9 ⟨rfl, hb1⟩)
  clear Xa Ya ka0 ka1 ka2 ka3 ka4 ka5 ka6 ka7 ka8
  clear Xb Yb kb0 kb1 kb2 kb3 kb4 kb5 kb6 kb7 kb8
  replace hB := Kept.mk (hB.out.trans ((hb1).mono hB.out.size))
  replace Va := Kept.mk (Va.out.keep (hb1))
  replace Vb := Kept.mk (Vb.out.keep (hb1))
  replace Vc := Kept.mk (Vc.out.keep (hb1))
  replace Vx := Kept.mk (Vx.out.keep (hb1))
  replace Vd := Kept.mk (Vd.out.keep (hb1))
  replace Vy := Kept.mk (Vy.out.keep (hb1))
  clear hb1
  obtain ⟨qd, rd, xd, yd, kd0, kd1, kd2, kd3, kd4, kd5, kd6, kd7, kd8⟩ := Vd.out.open_
  have Xd := Kept.mk xd
  have Yd := Kept.mk yd
  clear xd yd
  obtain ⟨qc, rc, xc, yc, kc0, kc1, kc2, kc3, kc4, kc5, kc6, kc7, kc8⟩ := Vc.out.open_
  have Xc := Kept.mk xc
  have Yc := Kept.mk yc
  clear xc yc
  obtain ⟨qa, ra, xa, ya, ka0, ka1, ka2, ka3, ka4, ka5, ka6, ka7, ka8⟩ := Va.out.open_
  have Xa := Kept.mk xa
  have Ya := Kept.mk ya
  clear xa ya
  have h7 : ((eD.val.flags.toNat : Int) == 7) = true := by decide
  go_wp2_with fail
  clear h7
  ((with_reducible refine (g_less eC eA true _ _ _ Xc.out Xa.out (by kernel_rfl)).mono ?_); rintro e W10 ⟨rfl, hb1⟩)
  clear Xd Yd kd0 kd1 kd2 kd3 kd4 kd5 kd6 kd7 kd8
  clear Xc Yc kc0 kc1 kc2 kc3 kc4 kc5 kc6 kc7 kc8
  clear Xa Ya ka0 ka1 ka2 ka3 ka4 ka5 ka6 ka7 ka8
  replace hB := Kept.mk (hB.out.trans ((hb1).mono hB.out.size))
  replace Va := Kept.mk (Va.out.keep (hb1))
  replace Vb := Kept.mk (Vb.out.keep (hb1))
  replace Vc := Kept.mk (Vc.out.keep (hb1))
  replace Vx := Kept.mk (Vx.out.keep (hb1))
  replace Vd := Kept.mk (Vd.out.keep (hb1))
  replace Vy := Kept.mk (Vy.out.keep (hb1))
  clear hb1
  obtain ⟨qa, ra, xa, ya, ka0, ka1, ka2, ka3, ka4, ka5, ka6, ka7, ka8⟩ := Va.out.open_
  have Xa := Kept.mk xa
  have Ya := Kept.mk ya
  clear xa ya
  obtain ⟨qc, rc, xc, yc, kc0, kc1, kc2, kc3, kc4, kc5, kc6, kc7, kc8⟩ := Vc.out.open_
  have Xc := Kept.mk xc
  have Yc := Kept.mk yc
  clear xc yc
  go_wp2_with fail
  ((with_reducible refine (g_less eA eC false _ _ _ Xa.out Xc.out (by kernel_rfl)).mono ?_); rintro e W11 ⟨rfl, hb1⟩)
  clear Xa Ya ka0 ka1 ka2 ka3 ka4 ka5 ka6 ka7 ka8
  clear Xc Yc kc0 kc1 kc2 kc3 kc4 kc5 kc6 kc7 kc8
  replace hB := Kept.mk (hB.out.trans ((hb1).mono hB.out.size))
  replace Va := Kept.mk (Va.out.keep (hb1))
  replace Vb := Kept.mk (Vb.out.keep (hb1))
  replace Vc := Kept.mk (Vc.out.keep (hb1))
  replace Vx := Kept.mk (Vx.out.keep (hb1))
  replace Vd := Kept.mk (Vd.out.keep (hb1))
  replace Vy := Kept.mk (Vy.out.keep (hb1))
  clear hb1
  obtain ⟨qa, ra, xa, ya, ka0, ka1, ka2, ka3, ka4, ka5, ka6, ka7, ka8⟩ := Va.out.open_
  have Xa := Kept.mk xa
  have Ya := Kept.mk ya
  clear xa ya
  go_wp2_with fail
  ((with_reducible refine (g_less eA eA false _ _ _ Xa.out Xa.out (by kernel_rfl)).mono ?_); rintro e W12 ⟨rfl, hb1⟩)
  clear Xa Ya ka0 ka1 ka2 ka3 ka4 ka5 ka6 ka7 ka8
  replace hB := Kept.mk (hB.out.trans ((hb1).mono hB.out.size))
  replace Va := Kept.mk (Va.out.keep (hb1))
  replace Vb := Kept.mk (Vb.out.keep (hb1))
  replace Vc := Kept.mk (Vc.out.keep (hb1))
  replace Vx := Kept.mk (Vx.out.keep (hb1))
  replace Vd := Kept.mk (Vd.out.keep (hb1))
  replace Vy := Kept.mk (Vy.out.keep (hb1))
  clear hb1
  obtain ⟨qc, rc, xc, yc, kc0, kc1, kc2, kc3, kc4, kc5, kc6, kc7, kc8⟩ := Vc.out.open_
  have Xc := Kept.mk xc
  have Yc := Kept.mk yc
  clear xc yc
  go_wp2_with fail
  ((with_reducible refine (g_check eC 0 _ _ Xc.out ⟨by decide, ⟨by decide, by decide, by decide⟩⟩ (by kernel_rfl)).mono ?_); rintro e W13 ⟨rfl, hb1⟩)
  clear Xc Yc kc0 kc1 kc2 kc3 kc4 kc5 kc6 kc7 kc8
  replace hB := Kept.mk (hB.out.trans ((hb1).mono hB.out.size))
  replace Va := Kept.mk (Va.out.keep (hb1))
  replace Vb := Kept.mk (Vb.out.keep (hb1))
  replace Vc := Kept.mk (Vc.out.keep (hb1))
  replace Vx := Kept.mk (Vx.out.keep (hb1))
  replace Vd := Kept.mk (Vd.out.keep (hb1))
  replace Vy := Kept.mk (Vy.out.keep (hb1))
  clear hb1
  obtain ⟨qa, ra, xa, ya, ka0, ka1, ka2, ka3, ka4, ka5, ka6, ka7, ka8⟩ := Va.out.open_
  have Xa := Kept.mk xa
  have Ya := Kept.mk ya
  clear xa ya
  obtain ⟨qc, rc, xc, yc, kc0, kc1, kc2, kc3, kc4, kc5, kc6, kc7, kc8⟩ := Vc.out.open_
  have Xc := Kept.mk xc
  have Yc := Kept.mk yc
  clear xc yc
  go_wp2_with fail
  ((with_reducible refine (g_same eA eC false _ _ _ Xa.out Xc.out ⟨by decide, by decide, by decide⟩ ⟨by decide, by decide, by decide⟩ (by decide)).mono ?_); rintro e W14 ⟨rfl, hb1⟩)
  clear Xa Ya ka0 ka1 ka2 ka3 ka4 ka5 ka6 ka7 ka8
  clear Xc Yc kc0 kc1 kc2 kc3 kc4 kc5 kc6 kc7 kc8
  replace hB := Kept.mk (hB.out.trans ((hb1).mono hB.out.size))
  replace Va := Kept.mk (Va.out.keep (hb1))
  replace Vb := Kept.mk (Vb.out.keep (hb1))
  replace Vc := Kept.mk (Vc.out.keep (hb1))
  replace Vx := Kept.mk (Vx.out.keep (hb1))
  replace Vd := Kept.mk (Vd.out.keep (hb1))
  replace Vy := Kept.mk (Vy.out.keep (hb1))
  clear hb1
  go_wp2
  go_ret
  exact ⟨rfl, hB.out⟩
end Go.Proofs.Ytebjljiklacolaa
