/- What is read of any arena, by any key, and all that is not dead, are what the document says (delta.Text, Sum, Flags, Scan). -/
import Derived.Test.YtbgconagkgfplaaGreatPartH
import Derived.SizedLaws
import Derived.ProofKit
import Derived.OpenShut
import Derived.ShutString
import Derived.ChangeOld
import Derived.Below
namespace Go.Proofs.YtbgconagkgfplaaGreat
open Go.RowKit
open Go.ChangeShapes Go.WideShapes Go.ChangeAt Go.RowKit
open Go.ChangeMaps (open_string shut_string)
set_option linter.unusedVariables false
set_option linter.unusedSimpArgs false
attribute [local irreducible] setN

theorem rtext_at (A : Ar) (key t : List UInt8) (b : Bool) (v : Value) (w : World) (hv : isAr A v w) (hF : FitA A) (ht : textT A key = t) (hb : textB A key = b) : Calls Tryz.prog 30 #[v, .string ⟨key.toArray⟩] w fun e w' => e = .returned (.tuple #[.string ⟨t.toArray⟩, .bool b]) ∧ Below w.heap.size w w' := by subst ht hb; exact rtextD A key v w hv hF
theorem rsum_at (A : Ar) (key : List UInt8) (t : Int) (b : Bool) (v : Value) (w : World) (hv : isAr A v w) (hF : FitA A) (ht : sumT A key = t) (hb : heldB A 2 key = b) : Calls Tryz.prog 32 #[v, .string ⟨key.toArray⟩] w fun e w' => e = .returned (.tuple #[.int .i64 t, .bool b]) ∧ Below w.heap.size w w' := by subst ht hb; exact rsumD A key v w hv hF
theorem rflags_at (A : Ar) (key : List UInt8) (t : UInt64) (b : Bool) (v : Value) (w : World) (hv : isAr A v w) (hF : FitA A) (ht : flagT A key = t) (hb : heldB A 3 key = b) : Calls Tryz.prog 34 #[v, .string ⟨key.toArray⟩] w fun e w' => e = .returned (.tuple #[.int .u64 (t.toNat : Int), .bool b]) ∧ Below w.heap.size w w' := by subst ht hb; exact rflagsD A key v w hv hF
theorem rscan_at (A : Ar) (l : List En) (v : Value) (w : World) (hv : isAr A v w) (hF : FitA A) (hl : scanA A = l) : Calls Tryz.prog 37 #[v] w fun e w' => ∃ v', e = .returned v' ∧ isEns l v' w' ∧ Below w.heap.size w w' := by subst hl; exact rscanD A v w hv hF
theorem refAll_self' (l : List En) (v u : Value) (w : World) (hv : isEns l v w) (hu : isEns l u w) (hl : l.length ≤ 1000) (fl : ∀ e ∈ l, FitE e) : Calls Tryz.prog 35 #[v, u] w fun e w' => e = .returned (.bool true) ∧ Below w.heap.size w w' := by
  have h := refAll_any l l v u w hv hu hl hl fl fl
  rwa [show decide (l = l) = true by simp] at h
theorem scan_fit {A : Ar} (hF : FitA A) : (scanA A).length ≤ 1000 ∧ ∀ e ∈ scanA A, FitE e := by
  refine ⟨by unfold scanA; exact Nat.le_trans (List.length_filter_le _ _) (all_len hF), fun e he => ?_⟩
  unfold scanA at he
  have h1 := (List.mem_filter.1 he).1
  unfold allA at h1
  by_cases h : okA A = true
  · rw [if_pos h] at h1; exact hF.ents e ((mem_ord (okA_iff.1 h) e).1 h1)
  · rw [if_neg h] at h1; cases h1
noncomputable def drdOps : Array Oper := regionOf Tryz.f5 13
set_option maxRecDepth 100000 in
set_option maxHeartbeats 2000000 in
theorem drd_region (Q : Exit → Act → World → Prop) (a0 : Act) (w0 : World) (hsz : a0.tmps.size = 108) (ga : Nat) (A : Ar) (L : List En) (vs vi : Value) (HA : CellsN w0 ga [.int .i64 A.cap, vs, vi]) (XA : isAr A (.agg #[.int .i64 A.cap, vs, vi]) w0) (hF : FitA A) (hL : scanA A = L) (hLn : L.length ≤ 1000) (fL : ∀ e ∈ L, FitE e) (e2 : a0.tmps.getD 2 undef = .pointer (some ⟨ga, 0, none⟩))
    (hQ : ∀ (g : Nat → Value) (w : World), g 19 = .bool true → Below w0.heap.size w0 w → Q .normal { tmps := [69, 70, 71, 72, 73, 19].foldl (fun t s => t.setIfInBounds s (g s)) a0.tmps, defers := a0.defers } w) :
    (Code.region 13 drdOps true).wp Tryz.prog Q a0 w0 := by
  refine wp_region_flow mixed (by rw [hsz]; kernel_rfl) ?_
  rw [show drdOps.size = 6 by kernel_rfl]
  refine ⟨isVal (.agg #[.int .i64 A.cap, vs, vi]), step_loadA 25 (.tmp 2) (ga) (0) [.int .i64 A.cap, vs, vi] (by kernel_rfl) (wanted_none (by kernel_rfl)) (knows_old 2 (.pointer (some ⟨ga, 0, none⟩)) (by kernel_rfl) e2) size_ar agg_ar (⟨HA.1, fun j x hx => by rw [Nat.zero_add]; exact HA.2 j x hx⟩), ?_⟩
  refine ⟨(isEns L), step_call 36 #[.tmp 69] #[25] #[.agg #[.int .i64 A.cap, vs, vi]] (by kernel_rfl) (wanted_none (by kernel_rfl)) (stable_ens _) (args1 (.tmp 69) (.agg #[.int .i64 A.cap, vs, vi]) (knows_new (V := isVal (.agg #[.int .i64 A.cap, vs, vi])) 69 0 (by kernel_rfl) (by kernel_rfl) (by kernel_rfl))) (enters_of Tryz.func36 (by kernel_rfl) rfl) (by intro w' hb; exact gd_scan A L _ w' (stable_ar _ _ _ _ XA hb) hF hL), ?_⟩
  refine ⟨isVal (.agg #[.int .i64 A.cap, vs, vi]), step_loadA 25 (.tmp 2) (ga) (0) [.int .i64 A.cap, vs, vi] (by kernel_rfl) (wanted_none (by kernel_rfl)) (knows_old 2 (.pointer (some ⟨ga, 0, none⟩)) (by kernel_rfl) e2) size_ar agg_ar (⟨HA.1, fun j x hx => by rw [Nat.zero_add]; exact HA.2 j x hx⟩), ?_⟩
  refine ⟨(isEns L), step_call 37 #[.tmp 71] #[25] #[.agg #[.int .i64 A.cap, vs, vi]] (by kernel_rfl) (wanted_none (by kernel_rfl)) (stable_ens _) (args1 (.tmp 71) (.agg #[.int .i64 A.cap, vs, vi]) (knows_new (V := isVal (.agg #[.int .i64 A.cap, vs, vi])) 71 2 (by kernel_rfl) (by kernel_rfl) (by kernel_rfl))) (enters_of Tryz.func37 (by kernel_rfl) rfl) (by intro w' hb; exact rscan_at A L _ w' (stable_ar _ _ _ _ XA hb) hF hL), ?_⟩
  refine ⟨isVal (.bool true), step_callP 35 #[.tmp 70, .tmp 72] #[22, 22] (by kernel_rfl) (wanted_none (by kernel_rfl)) (stable_val _) (enters_of Tryz.func35 (by kernel_rfl) rfl) (fun vs w => ∃ u v, vs = #[u, v] ∧ isEns L u w ∧ isEns L v w) (pre2 (knows_new (V := (isEns L)) 70 1 (by kernel_rfl) (by kernel_rfl) (by kernel_rfl)) (knows_new (V := (isEns L)) 72 3 (by kernel_rfl) (by kernel_rfl) (by kernel_rfl))) (fun vs w' hb hp => by obtain ⟨u, v, rfl, h1, h2⟩ := hp; exact call_v1 (refAll_self' L _ _ w' h1 h2 hLn fL)), ?_⟩
  refine ⟨isVal (.bool true), step_assign (.tmp 73) (by kernel_rfl) (wanted_none (by kernel_rfl)) (stable_val _) (knows_new (V := isVal (.bool true)) 73 4 (by kernel_rfl) (by kernel_rfl) (by kernel_rfl)), ?_⟩
  intro a w hkp hb hd
  rw [kept_of hkp [some 69, some 70, some 71, some 72, some 73, some 19] [69, 70, 71, 72, 73, 19] (by kernel_rfl) (by decide)]
  have d19 := fdone_of (hd 5 (by rw [show drdOps.size = 6 by kernel_rfl]; decide)) (t := 19) (V := isVal (.bool true)) (by kernel_rfl) (by kernel_rfl)
  exact hQ (fun s => a.tmps.getD s undef) w d19 hb
set_option maxRecDepth 100000 in
set_option maxHeartbeats 4000000 in
theorem deltaReads_walk (F0 : Ar) (v0 : Value) (a1 : ByteArray) (w0 : CameA F0) (w1 : a1.size ≤ maxLen) (w : World) (fl0 : isAr F0 v0 w) :
    Calls Tryz.prog 5 #[v0, .string a1] w fun e w' => e = .returned (.bool true) ∧ Below w.heap.size w w' := by
  rw [str_eta a1]
  generalize a1.data.toList = K
  obtain ⟨pa, ma, rfl, hpa, hma⟩ := fl0
  obtain ⟨hB, Va⟩ := abox w F0 pa ma hpa hma (w.heap.size) (by simp)
  clear hpa hma
  go_enter Tryz.func5, Tryz.ntmps5
  go_wp2_with fail
  generalize (w.alloc (.cells #[.int .i64 F0.cap, pa, ma] 25)) = W0 at *
  ((with_reducible refine (dworks_any _).mono ?_); rintro e W1 ⟨rfl, hb1⟩)
  replace hB := Kept.mk (hB.out.trans ((hb1).mono hB.out.size))
  replace Va := Kept.mk (Va.out.keep (hb1))
  clear hb1
  obtain ⟨qa, ra, xa, sa, ia, ka0, ka1, ka2⟩ := Va.out.open_
  have Xa := Kept.mk xa
  have Sa := Kept.mk sa
  have Ia := Kept.mk ia
  clear xa sa ia
  go_wp2_with fail
  ((with_reducible refine (afew_any F0 _ _ Xa.out (CameA.keys w0) w0.slots w0.index).mono ?_); rintro e W2 ⟨rfl, hb1⟩)
  clear Xa Sa Ia ka0 ka1 ka2
  replace hB := Kept.mk (hB.out.trans ((hb1).mono hB.out.size))
  replace Va := Kept.mk (Va.out.keep (hb1))
  clear hb1
  cases fa : fewA F0 with
  | false =>
    go_wp2
    all_goals go_ret
    all_goals exact ⟨rfl, hB.out⟩
  | true =>
    have FFa := Kept.mk (fewA_fit fa)
    have KFa := Kept.mk fa
    clear fa
    by_cases h0 : 100 < K.length
    · skip
      have c0 : decide (100 < (K.length : Int)) = true := by simp; omega
      go_wp2
      all_goals go_ret
      all_goals exact ⟨rfl, hB.out⟩
    · skip
      have c0 : decide (100 < (K.length : Int)) = false := by simp; omega
      have g0 : K.length ≤ 1000 := by omega
      obtain ⟨T, hT⟩ : ∃ r : List UInt8, textT F0 K = r := ⟨_, rfl⟩
      have HT := Kept.mk hT
      obtain ⟨b1, hb1⟩ : ∃ r : Bool, textB F0 K = r := ⟨_, rfl⟩
      have Hb1 := Kept.mk hb1
      obtain ⟨N, hN⟩ : ∃ r : Int, sumT F0 K = r := ⟨_, rfl⟩
      have HN := Kept.mk hN
      obtain ⟨b2, hb2⟩ : ∃ r : Bool, heldB F0 2 K = r := ⟨_, rfl⟩
      have Hb2 := Kept.mk hb2
      obtain ⟨Y, hY⟩ : ∃ r : UInt64, flagT F0 K = r := ⟨_, rfl⟩
      have HY := Kept.mk hY
      obtain ⟨b3, hb3⟩ : ∃ r : Bool, heldB F0 3 K = r := ⟨_, rfl⟩
      have Hb3 := Kept.mk hb3
      obtain ⟨L, hL⟩ : ∃ r : List En, scanA F0 = r := ⟨_, rfl⟩
      have HL := Kept.mk hL
      have LF := Kept.mk (show L.length ≤ 1000 ∧ ∀ e ∈ L, FitE e by rw [← hL]; exact scan_fit FFa.out)
      clear hT hb1 hN hb2 hY hb3 hL
      obtain ⟨qa, ra, xa, sa, ia, ka0, ka1, ka2⟩ := Va.out.open_
      have Xa := Kept.mk xa
      have Sa := Kept.mk sa
      have Ia := Kept.mk ia
      clear xa sa ia
      go_wp2_with fail
      clear c0 h0
      ((with_reducible refine (gd_text F0 K T b1 _ _ Xa.out FFa.out HT.out Hb1.out).mono ?_); rintro e W3 ⟨rfl, hb1⟩)
      clear Xa Sa Ia ka0 ka1 ka2
      replace hB := Kept.mk (hB.out.trans ((hb1).mono hB.out.size))
      replace Va := Kept.mk (Va.out.keep (hb1))
      clear hb1
      obtain ⟨qa, ra, xa, sa, ia, ka0, ka1, ka2⟩ := Va.out.open_
      have Xa := Kept.mk xa
      have Sa := Kept.mk sa
      have Ia := Kept.mk ia
      clear xa sa ia
      go_wp2_with fail
      ((with_reducible refine (rtext_at F0 K T b1 _ _ Xa.out FFa.out HT.out Hb1.out).mono ?_); rintro e W4 ⟨rfl, hb1⟩)
      clear Xa Sa Ia ka0 ka1 ka2
      replace hB := Kept.mk (hB.out.trans ((hb1).mono hB.out.size))
      replace Va := Kept.mk (Va.out.keep (hb1))
      clear hb1
      obtain ⟨qa, ra, xa, sa, ia, ka0, ka1, ka2⟩ := Va.out.open_
      have Xa := Kept.mk xa
      have Sa := Kept.mk sa
      have Ia := Kept.mk ia
      clear xa sa ia
      go_wp2_with fail
      ((with_reducible refine (gd_sum F0 K N b2 _ _ Xa.out FFa.out HN.out Hb2.out).mono ?_); rintro e W5 ⟨rfl, hb1⟩)
      clear Xa Sa Ia ka0 ka1 ka2
      replace hB := Kept.mk (hB.out.trans ((hb1).mono hB.out.size))
      replace Va := Kept.mk (Va.out.keep (hb1))
      clear hb1
      obtain ⟨qa, ra, xa, sa, ia, ka0, ka1, ka2⟩ := Va.out.open_
      have Xa := Kept.mk xa
      have Sa := Kept.mk sa
      have Ia := Kept.mk ia
      clear xa sa ia
      go_wp2_with fail
      ((with_reducible refine (rsum_at F0 K N b2 _ _ Xa.out FFa.out HN.out Hb2.out).mono ?_); rintro e W6 ⟨rfl, hb1⟩)
      clear Xa Sa Ia ka0 ka1 ka2
      replace hB := Kept.mk (hB.out.trans ((hb1).mono hB.out.size))
      replace Va := Kept.mk (Va.out.keep (hb1))
      clear hb1
      obtain ⟨qa, ra, xa, sa, ia, ka0, ka1, ka2⟩ := Va.out.open_
      have Xa := Kept.mk xa
      have Sa := Kept.mk sa
      have Ia := Kept.mk ia
      clear xa sa ia
      go_wp2_with fail
      ((with_reducible refine (gd_flags F0 K Y b3 _ _ Xa.out FFa.out HY.out Hb3.out).mono ?_); rintro e W7 ⟨rfl, hb1⟩)
      clear Xa Sa Ia ka0 ka1 ka2
      replace hB := Kept.mk (hB.out.trans ((hb1).mono hB.out.size))
      replace Va := Kept.mk (Va.out.keep (hb1))
      clear hb1
      obtain ⟨qa, ra, xa, sa, ia, ka0, ka1, ka2⟩ := Va.out.open_
      have Xa := Kept.mk xa
      have Sa := Kept.mk sa
      have Ia := Kept.mk ia
      clear xa sa ia
      go_wp2_with fail
      ((with_reducible refine (rflags_at F0 K Y b3 _ _ Xa.out FFa.out HY.out Hb3.out).mono ?_); rintro e W8 ⟨rfl, hb1⟩)
      clear Xa Sa Ia ka0 ka1 ka2
      replace hB := Kept.mk (hB.out.trans ((hb1).mono hB.out.size))
      replace Va := Kept.mk (Va.out.keep (hb1))
      clear hb1
      go_wp2
      obtain ⟨qa, ra, ca, sa, ia⟩ := Va.out
      refine drd_region _ _ _ rfl w.heap.size F0 L qa ra ca ⟨_, _, rfl, sa, ia⟩ FFa.out HL.out LF.out.1 LF.out.2 rfl ?_
      intro f9 W9 d19 hb9
      simp only [List.foldl_cons, List.foldl_nil, d19]
      generalize f9 69 = y69
      generalize f9 70 = y70
      generalize f9 71 = y71
      generalize f9 72 = y72
      generalize f9 73 = y73
      clear d19
      simp only [List.setIfInBounds_toArray, List.set_cons_succ, List.set_cons_zero]
      clear ca sa ia
      replace hB := Kept.mk (hB.out.trans ((hb9).mono hB.out.size))
      replace Va := Kept.mk (Va.out.keep (hb9))
      clear hb9
      go_wp2
      all_goals go_ret
      all_goals exact ⟨rfl, hB.out⟩
set_option maxRecDepth 100000 in
theorem deltaReads_lifted (os : Os) (started : os.Started) (H : Type) (enc : TypeId × Value → H) :
    ReturnsInHanded {} Tryz.checked os 5 .any (Rows.deltaReadsSpec.pre6 enc Tryz.prog Tryz.f5 Rows.deltaReadsRow.domain false) (Rows.deltaReadsSpec.post enc Tryz.prog Tryz.f5 false true false false) := by
  refine returnsInHanded_of_change (C := Tryz.checked) (by kernel_rfl : ownKnob Tryz.prog.godebug = none) started (by kernel_rfl) Tryz.func5
    (ChangeSpec.witness6 (enc := enc) (C := Tryz.checked) false ⟨#[], #[.agg #[.int .i64 0, .slice none 0 0, .slice none 0 0], .string ByteArray.empty], []⟩ 8 (by kernel_rfl) (by kernel_rfl) (by kernel_rfl) (by kernel_rfl)) ?_
  intro W base args ds gs before hval0 hW hcnd _
  have hval : ∀ (j : Nat) t v, Tryz.f5.params[j]? = some t → args[j]? = some v → Value.okWide Tryz.prog W .any base t v := hval0
  have hW' := hW
  obtain ⟨p, q, hA0, hV, rfl, hfz, hnd⟩ := hW
  have hA : DataW.TrodAll enc Tryz.prog W 0 (fun _ => true) true Tryz.f5.params.toList args.toList ds p := hA0
  rw [Tryz.params5] at hA hval
  obtain ⟨v0, vs0, d0, ds0, p0, q0, hargs, rfl, rfl, h0, r0⟩ := trodAll_cons hA
  obtain ⟨v1, vs1, d1, ds1, p1, q1, rfl, rfl, rfl, h1, r1⟩ := trodAll_cons r0
  obtain ⟨rfl, rfl, rfl⟩ := trodAll_nil r1
  obtain rfl : args = #[v0, v1] := by cases args; simp_all
  obtain ⟨rfl, rfl⟩ := trodVars_none hV
  obtain ⟨F0, fl0, w0⟩ := open_ar (hval 0 25 v0 rfl rfl) h0
  have lt0 : ∀ x ∈ p0, x.block < W.heap.size := fun x hx => by obtain ⟨fuel, hf⟩ := h0; exact DataW.trod_lt fuel _ _ _ hf x hx
  obtain ⟨a1, rfl, rfl, rfl, w1⟩ := open_string Tryz.underlying9 (hval 1 9 v1 rfl rfl) h1
  clear hA0 hval0
  simp only [List.append_nil] at hW'
  refine (deltaReads_walk F0 v0 a1 w0 w1 W fl0).mono fun e W' ⟨he, bel⟩ => ?_
  subst he
  exact ⟨_, rfl, _, _, _, [], _, [], hW', trodAll_mk1 (shut_bool Tryz.underlying4 _), (trodAll_cons_mk (Below.trod (by kernel_rfl) (by kernel_rfl) (of_decide_eq_true (by kernel_rfl)) h0 bel lt0) (trodAll_cons_mk (shut_string Tryz.underlying9 w1) trodAll_mk0)), rfl, bel.frame _, fun h => by cases h⟩
/-- THE STATEMENT. -/
theorem deltaReads_proved : Rows.DeltaReadsSaid :=
  OpenClaim.holds_of_wide 5 Tryz.f5 rfl rfl rfl rfl rfl rfl rfl ⟨rfl, rfl, rfl, rfl, rfl⟩ rfl rfl rfl rfl rfl (by kernel_rfl) Tryz.func5 (by kernel_rfl)
    (of_decide_eq_true (by kernel_rfl)) (by unfold Func.isWrapper; first | (rw [if_pos (by decide +kernel)]; kernel_rfl) | (rw [if_neg (by decide +kernel)]; exact ⟨rfl, rfl⟩))
    (fun os started H enc _ => deltaReads_lifted os started H enc)
#print axioms deltaReads_proved
end Go.Proofs.YtbgconagkgfplaaGreat
