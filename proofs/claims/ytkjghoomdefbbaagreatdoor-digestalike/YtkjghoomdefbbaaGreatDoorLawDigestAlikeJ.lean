/- Arenas that are alike have the same sums, in whatever order their slots came (arena.Merge, Alike, Check; digest.Sums, Differ). -/
import Derived.Test.YtkjghoomdefbbaaGreatDoorPartG
import Derived.SizedLaws
import Derived.ProofKit
import Derived.OpenShut
import Derived.ShutString
import Derived.ChangeOld
import Derived.Below
namespace Go.Proofs.YtkjghoomdefbbaaGreatDoor
open Go.RowKit
open Go.ChangeShapes Go.WideShapes Go.ChangeAt Go.RowKit
open Go.ChangeMaps (open_string shut_string)
set_option linter.unusedVariables false
set_option linter.unusedSimpArgs false
attribute [local irreducible] setN

theorem dcall_v {f : FuncId} {vs : Array Value} {w : World} {r : Value} (h : Calls Tryz.prog f vs w fun e w' => e = .returned r ∧ Below w.heap.size w w') : Calls Tryz.prog f vs w fun e w' => ∃ x, e = .returned x ∧ isVal r x w' ∧ Below w.heap.size w w' := h.mono (by rintro e w' ⟨rfl, hb⟩; exact ⟨_, rfl, rfl, hb⟩)
theorem refAll_selfD (l : List En) (v u : Value) (w : World) (hv : isEns l v w) (hu : isEns l u w) (hl : l.length ≤ 1000) (fl : ∀ e ∈ l, FitE e) : Calls Tryz.prog 14 #[v, u] w fun e w' => e = .returned (.bool true) ∧ Below w.heap.size w w' := by
  have h := refAll_any l l v u w hv hu hl hl fl fl
  rwa [show decide (l = l) = true by simp] at h
theorem gd_in (A : Ar) (m n : Int) (L : List En) (v : Value) (w : World) (hv : isAr A v w) (hF : FitA A) (hL : inA A m n = L) : Calls Tryz.prog 15 #[v, .int .i64 m, .int .i64 n] w fun e w' => ∃ x, e = .returned x ∧ isEns L x w' ∧ Below w.heap.size w w' := by subst hL; exact in_any A m n v w hv hF
theorem inA_fit {A : Ar} (hF : FitA A) (m n : Int) : (inA A m n).length ≤ 1000 ∧ ∀ e ∈ inA A m n, FitE e := by
  have h1 := hF.slots
  have h2 := hF.ents
  unfold inA
  split
  · unfold inL
    refine ⟨?_, fun e he => h2 e (List.mem_filter.1 (List.mem_of_mem_take he)).1⟩
    have := List.length_filter_le (askB m) A.slots
    rw [List.length_take]; omega
  · exact ⟨by decide, fun e he => by cases he⟩
theorem dmk_self (a b c d : Int) : dmk a b c d a b c d 4 = 0 := by unfold dmk d1; simp
def emptyA (B : Ar) : Ar := ⟨B.cap, [], []⟩
theorem empty_ok {B : Ar} (h : OkA B) : OkA (emptyA B) := by
  refine ⟨h.room, ?_, (fun e he => by cases he), rfl, (fun p hp => by cases hp), List.Pairwise.nil⟩
  have := h.room
  show ((0 : Nat) : Int) ≤ B.cap
  omega
theorem empty_fit (B : Ar) : FitA (emptyA B) := ⟨Nat.zero_le _, Nat.zero_le _, fun e he => by cases he⟩
/-- The slots of an arena, in the other order, come to an arena that is alike. -/
theorem back_alike {B : Ar} (h : OkA B) : alikeA B (mergeF (emptyA B) B.slots.reverse) = true := by
  have he := empty_ok h
  have hm := merge_okA B.slots.reverse he
  have h0 : mergeO (emptyA B) B.slots.reverse = 0 := merge_fits _ he h rfl (fun e hx => by cases hx) (fun x hx => ⟨h.ents x (List.mem_reverse.1 hx), (in_self h (List.mem_reverse.1 hx)).named⟩)
  unfold alikeA
  rw [belowA_iff.2 ⟨h, hm.1, fun e hx => (merge_all _ he h0 e (List.mem_reverse.2 hx)).2⟩, belowA_iff.2 ⟨hm.1, h, merge_least _ he h (fun e hx => by cases hx) (fun x hx => in_self h (List.mem_reverse.1 hx))⟩]
  rfl
theorem sums_alike {A B : Ar} (h : alikeA A B = true) : sumsV A = sumsV B := by
  unfold sumsV
  rw [alike_sums h, alike_sums h, alike_sums h, alike_sums h]
theorem alike_bad {A B : Ar} (h : okA A = false) : alikeA A B = false := by unfold alikeA; rw [below_bad (.inl h)]; rfl
theorem gd_alike (A C : Ar) (r : Bool) (v u : Value) (w : World) (hv : isAr A v w) (hu : isAr C u w) (hA : FitA A) (hC : FitA C) (hr : alikeA A C = r) : Calls Tryz.prog 26 #[v, u] w fun e w' => e = .returned (.bool r) ∧ Below w.heap.size w w' := by
  subst hr; exact alike_any A C v u w hv hu hA hC
theorem gd_check (A : Ar) (r : Int) (v : Value) (w : World) (hv : isAr A v w) (hA : FitA A) (hr : chkA A = r) : Calls Tryz.prog 27 #[v] w fun e w' => e = .returned (.int .i64 r) ∧ Below w.heap.size w w' := by
  subst hr; exact acheck_any A v w hv hA
theorem merge_bad {A : Ar} (h : okA A = false) : ∀ l : List En, mergeF A l = A
  | [] => rfl
  | x :: l => by rw [mergeF, (join_bad h x).2.2, merge_bad h l]
theorem merge_few {A : Ar} (hA : A.slots.length ≤ 12) (l : List En) : (mergeF A l).slots.length ≤ 12 := by
  cases h : okA A with
  | false => rw [merge_bad h]; exact hA
  | true =>
    have h1 := (merge_okA l (okA_iff.1 h)).1
    have h2 := h1.fits
    have h3 := h1.room
    omega
theorem drop_rev {l : List En} {m : Nat} {X : En} (h : l[m]? = some X) : (l.drop m).reverse = (l.drop (m + 1)).reverse ++ [X] := by
  have hlt := (List.getElem?_eq_some_iff.1 h)
  rw [List.drop_eq_getElem_cons hlt.1, List.reverse_cons, hlt.2]
noncomputable def dal17Ops : Array Oper := regionOf Tryz.f5 17
set_option maxRecDepth 100000 in
set_option maxHeartbeats 2000000 in
theorem dal17_region (Q : Exit → Act → World → Prop) (a0 : Act) (w0 : World) (hsz : a0.tmps.size = 87) (gb gc : Nat) (B C : Ar) (vb ib vc ic : Value) (s0 s1 s2 s3 : Int) (HB : CellsN w0 gb [.int .i64 B.cap, vb, ib]) (HC : CellsN w0 gc [.int .i64 C.cap, vc, ic]) (XB : isAr B (.agg #[.int .i64 B.cap, vb, ib]) w0) (XC : isAr C (.agg #[.int .i64 C.cap, vc, ic]) w0) (hFB : FitA B) (hFC : FitA C) (hsB : sumsV B = .agg #[.int .i64 s0, .int .i64 s1, .int .i64 s2, .int .i64 s3]) (hsC : sumsV C = .agg #[.int .i64 s0, .int .i64 s1, .int .i64 s2, .int .i64 s3]) (e5 : a0.tmps.getD 5 undef = .bool true) (e7 : a0.tmps.getD 7 undef = .pointer (some ⟨gb, 0, none⟩)) (e13 : a0.tmps.getD 13 undef = .pointer (some ⟨gc, 0, none⟩))
    (hQ : ∀ (g : Nat → Value) (w : World), g 4 = .bool true → Below w0.heap.size w0 w → Q .normal { tmps := [71, 72, 73, 74, 75, 76, 77, 78, 79, 80, 81, 82, 83, 84, 85, 86, 4].foldl (fun t s => t.setIfInBounds s (g s)) a0.tmps, defers := a0.defers } w) :
    (Code.region 17 dal17Ops true).wp Tryz.prog Q a0 w0 := by
  refine wp_region_flow mixed (by rw [hsz]; kernel_rfl) ?_
  rw [show dal17Ops.size = 17 by kernel_rfl]
  refine ⟨isVal (.bool true), step_move (.tmp 5) (by kernel_rfl) (wanted_none (by kernel_rfl)) (stable_val _) (knows_old 5 (.bool true) (by kernel_rfl) e5), ?_⟩
  refine ⟨isVal (.bool true), step_move (.tmp 71) (by kernel_rfl) (wanted_none (by kernel_rfl)) (stable_val _) (knows_new (V := isVal (.bool true)) 71 0 (by kernel_rfl) (by kernel_rfl) (by kernel_rfl)), ?_⟩
  refine ⟨isVal (.agg #[.int .i64 B.cap, vb, ib]), step_loadN 25 (.tmp 7) (gb) [.int .i64 B.cap, vb, ib] (by kernel_rfl) (wanted_some 1 72 true (by kernel_rfl) (by kernel_rfl) (by kernel_rfl) (by kernel_rfl)) (knows_old 7 (.pointer (some ⟨gb, 0, none⟩)) (by kernel_rfl) e7) size_ar agg_ar (HB), ?_⟩
  refine ⟨isVal (.agg #[.int .i64 s0, .int .i64 s1, .int .i64 s2, .int .i64 s3]), step_call 18 #[.tmp 73] #[25] #[.agg #[.int .i64 B.cap, vb, ib]] (by kernel_rfl) (wanted_some 1 72 true (by kernel_rfl) (by kernel_rfl) (by kernel_rfl) (by kernel_rfl)) (stable_val _) (args1 (.tmp 73) (.agg #[.int .i64 B.cap, vb, ib]) (knows_new (V := isVal (.agg #[.int .i64 B.cap, vb, ib])) 73 2 (by kernel_rfl) (by kernel_rfl) (by kernel_rfl))) (enters_of Tryz.func18 (by kernel_rfl) rfl) (by intro w' hb; exact dcall_v (gd_sums B s0 s1 s2 s3 _ w' (stable_ar _ _ _ _ XB hb) hFB hsB)), ?_⟩
  refine ⟨isVal (.agg #[.int .i64 C.cap, vc, ic]), step_loadN 25 (.tmp 13) (gc) [.int .i64 C.cap, vc, ic] (by kernel_rfl) (wanted_some 1 72 true (by kernel_rfl) (by kernel_rfl) (by kernel_rfl) (by kernel_rfl)) (knows_old 13 (.pointer (some ⟨gc, 0, none⟩)) (by kernel_rfl) e13) size_ar agg_ar (HC), ?_⟩
  refine ⟨isVal (.agg #[.int .i64 s0, .int .i64 s1, .int .i64 s2, .int .i64 s3]), step_call 18 #[.tmp 75] #[25] #[.agg #[.int .i64 C.cap, vc, ic]] (by kernel_rfl) (wanted_some 1 72 true (by kernel_rfl) (by kernel_rfl) (by kernel_rfl) (by kernel_rfl)) (stable_val _) (args1 (.tmp 75) (.agg #[.int .i64 C.cap, vc, ic]) (knows_new (V := isVal (.agg #[.int .i64 C.cap, vc, ic])) 75 4 (by kernel_rfl) (by kernel_rfl) (by kernel_rfl))) (enters_of Tryz.func18 (by kernel_rfl) rfl) (by intro w' hb; exact dcall_v (gd_sums C s0 s1 s2 s3 _ w' (stable_ar _ _ _ _ XC hb) hFC hsC)), ?_⟩
  refine ⟨isVal (.bool true), step_bin .eql 26 26 (.tmp 74) (.tmp 76) (.agg #[.int .i64 s0, .int .i64 s1, .int .i64 s2, .int .i64 s3]) (.agg #[.int .i64 s0, .int .i64 s1, .int .i64 s2, .int .i64 s3]) (.bool true) (by kernel_rfl) (wanted_some 1 72 true (by kernel_rfl) (by kernel_rfl) (by kernel_rfl) (by kernel_rfl)) (knows_new (V := isVal (.agg #[.int .i64 s0, .int .i64 s1, .int .i64 s2, .int .i64 s3])) 74 3 (by kernel_rfl) (by kernel_rfl) (by kernel_rfl)) (knows_new (V := isVal (.agg #[.int .i64 s0, .int .i64 s1, .int .i64 s2, .int .i64 s3])) 76 5 (by kernel_rfl) (by kernel_rfl) (by kernel_rfl)) (fun _ => rfl) (eq_i4 s0 s1 s2 s3), ?_⟩
  refine ⟨isVal (.bool true), step_pick (.tmp 72) (.tmp 77) (.const (.bool false)) true (by kernel_rfl) (wanted_none (by kernel_rfl)) (stable_val _) (knows_new (V := isVal (.bool true)) 72 1 (by kernel_rfl) (by kernel_rfl) (by kernel_rfl)) (knows_new (V := isVal (.bool true)) 77 6 (by kernel_rfl) (by kernel_rfl) (by kernel_rfl)), ?_⟩
  refine ⟨isVal (.bool true), step_move (.tmp 78) (by kernel_rfl) (wanted_none (by kernel_rfl)) (stable_val _) (knows_new (V := isVal (.bool true)) 78 7 (by kernel_rfl) (by kernel_rfl) (by kernel_rfl)), ?_⟩
  refine ⟨isVal (.agg #[.int .i64 B.cap, vb, ib]), step_loadN 25 (.tmp 7) (gb) [.int .i64 B.cap, vb, ib] (by kernel_rfl) (wanted_some 8 79 true (by kernel_rfl) (by kernel_rfl) (by kernel_rfl) (by kernel_rfl)) (knows_old 7 (.pointer (some ⟨gb, 0, none⟩)) (by kernel_rfl) e7) size_ar agg_ar (HB), ?_⟩
  refine ⟨isVal (.agg #[.int .i64 s0, .int .i64 s1, .int .i64 s2, .int .i64 s3]), step_call 18 #[.tmp 80] #[25] #[.agg #[.int .i64 B.cap, vb, ib]] (by kernel_rfl) (wanted_some 8 79 true (by kernel_rfl) (by kernel_rfl) (by kernel_rfl) (by kernel_rfl)) (stable_val _) (args1 (.tmp 80) (.agg #[.int .i64 B.cap, vb, ib]) (knows_new (V := isVal (.agg #[.int .i64 B.cap, vb, ib])) 80 9 (by kernel_rfl) (by kernel_rfl) (by kernel_rfl))) (enters_of Tryz.func18 (by kernel_rfl) rfl) (by intro w' hb; exact dcall_v (gd_sums B s0 s1 s2 s3 _ w' (stable_ar _ _ _ _ XB hb) hFB hsB)), ?_⟩
  refine ⟨isVal (.agg #[.int .i64 C.cap, vc, ic]), step_loadN 25 (.tmp 13) (gc) [.int .i64 C.cap, vc, ic] (by kernel_rfl) (wanted_some 8 79 true (by kernel_rfl) (by kernel_rfl) (by kernel_rfl) (by kernel_rfl)) (knows_old 13 (.pointer (some ⟨gc, 0, none⟩)) (by kernel_rfl) e13) size_ar agg_ar (HC), ?_⟩
  refine ⟨isVal (.agg #[.int .i64 s0, .int .i64 s1, .int .i64 s2, .int .i64 s3]), step_call 18 #[.tmp 82] #[25] #[.agg #[.int .i64 C.cap, vc, ic]] (by kernel_rfl) (wanted_some 8 79 true (by kernel_rfl) (by kernel_rfl) (by kernel_rfl) (by kernel_rfl)) (stable_val _) (args1 (.tmp 82) (.agg #[.int .i64 C.cap, vc, ic]) (knows_new (V := isVal (.agg #[.int .i64 C.cap, vc, ic])) 82 11 (by kernel_rfl) (by kernel_rfl) (by kernel_rfl))) (enters_of Tryz.func18 (by kernel_rfl) rfl) (by intro w' hb; exact dcall_v (gd_sums C s0 s1 s2 s3 _ w' (stable_ar _ _ _ _ XC hb) hFC hsC)), ?_⟩
  refine ⟨isVal (.int .i64 0), step_call 19 #[.tmp 81, .tmp 83] #[26, 26] #[.agg #[.int .i64 s0, .int .i64 s1, .int .i64 s2, .int .i64 s3], .agg #[.int .i64 s0, .int .i64 s1, .int .i64 s2, .int .i64 s3]] (by kernel_rfl) (wanted_some 8 79 true (by kernel_rfl) (by kernel_rfl) (by kernel_rfl) (by kernel_rfl)) (stable_val _) (args2 (.tmp 81) (.tmp 83) (.agg #[.int .i64 s0, .int .i64 s1, .int .i64 s2, .int .i64 s3]) (.agg #[.int .i64 s0, .int .i64 s1, .int .i64 s2, .int .i64 s3]) (knows_new (V := isVal (.agg #[.int .i64 s0, .int .i64 s1, .int .i64 s2, .int .i64 s3])) 81 10 (by kernel_rfl) (by kernel_rfl) (by kernel_rfl)) (knows_new (V := isVal (.agg #[.int .i64 s0, .int .i64 s1, .int .i64 s2, .int .i64 s3])) 83 12 (by kernel_rfl) (by kernel_rfl) (by kernel_rfl))) (enters_of Tryz.func19 (by kernel_rfl) rfl) (by intro w' hb; exact dcall_v (gd_differ s0 s1 s2 s3 s0 s1 s2 s3 0 w' (dmk_self s0 s1 s2 s3))), ?_⟩
  refine ⟨isVal (.bool true), step_bin .eql 3 3 (.tmp 84) (.const (.int .i64 0)) (.int .i64 0) (.int .i64 0) (.bool true) (by kernel_rfl) (wanted_some 8 79 true (by kernel_rfl) (by kernel_rfl) (by kernel_rfl) (by kernel_rfl)) (knows_new (V := isVal (.int .i64 0)) 84 13 (by kernel_rfl) (by kernel_rfl) (by kernel_rfl)) (knows_const _) (fun _ => rfl) (eql_t _ _ (by omega)), ?_⟩
  refine ⟨isVal (.bool true), step_pick (.tmp 79) (.tmp 85) (.const (.bool false)) true (by kernel_rfl) (wanted_none (by kernel_rfl)) (stable_val _) (knows_new (V := isVal (.bool true)) 79 8 (by kernel_rfl) (by kernel_rfl) (by kernel_rfl)) (knows_new (V := isVal (.bool true)) 85 14 (by kernel_rfl) (by kernel_rfl) (by kernel_rfl)), ?_⟩
  refine ⟨isVal (.bool true), step_assign (.tmp 86) (by kernel_rfl) (wanted_none (by kernel_rfl)) (stable_val _) (knows_new (V := isVal (.bool true)) 86 15 (by kernel_rfl) (by kernel_rfl) (by kernel_rfl)), ?_⟩
  intro a w hkp hb hd
  rw [kept_of hkp [some 71, some 72, some 73, some 74, some 75, some 76, some 77, some 78, some 79, some 80, some 81, some 82, some 83, some 84, some 85, some 86, some 4] [71, 72, 73, 74, 75, 76, 77, 78, 79, 80, 81, 82, 83, 84, 85, 86, 4] (by kernel_rfl) (by decide)]
  have d4 := fdone_of (hd 16 (by rw [show dal17Ops.size = 17 by kernel_rfl]; decide)) (t := 4) (V := isVal (.bool true)) (by kernel_rfl) (by kernel_rfl)
  exact hQ (fun s => a.tmps.getD s undef) w d4 hb
set_option maxRecDepth 100000 in
set_option maxHeartbeats 4000000 in
theorem digestAlike_walk (F0 : Ar) (v0 : Value) (F1 : List En) (v1 : Value) (w0 : CameA F0) (w1 : F1.length ≤ maxLen ∧ ∀ e ∈ F1, CameE e) (w : World) (fl0 : isAr F0 v0 w) (fl1 : isEns F1 v1 w) :
    Calls Tryz.prog 5 #[v0, v1] w fun e w' => e = .returned (.bool true) ∧ Below w.heap.size w w' := by
  obtain ⟨lx, lc, rfl⟩ := fl1.len
  obtain ⟨pa, ma, rfl, hpa, hma⟩ := fl0
  obtain ⟨hB, Va⟩ := abox w F0 pa ma hpa hma (w.heap.size) (by simp)
  clear hpa hma
  have Sl := Kept.mk (stable_ens _ _ _ _ fl1 hB.out)
  go_enter Tryz.func5, Tryz.ntmps5
  go_wp2_with fail
  generalize (w.alloc (.cells #[.int .i64 F0.cap, pa, ma] 25)) = W0 at *
  ((with_reducible refine (dgworks_any _).mono ?_); rintro e W1 ⟨rfl, hb1⟩)
  replace hB := Kept.mk (hB.out.trans ((hb1).mono hB.out.size))
  replace Va := Kept.mk (Va.out.keep (hb1))
  replace Sl := Kept.mk (stable_ens _ _ _ _ Sl.out (hb1))
  clear hb1
  obtain ⟨qa, ra, xa, sa, ia, ka0, ka1, ka2⟩ := Va.out.open_
  have Xa := Kept.mk xa
  have Sa := Kept.mk sa
  have Ia := Kept.mk ia
  clear xa sa ia
  go_wp2_with fail
  ((with_reducible refine (afew_any F0 _ _ Xa.out (CameA.keys w0) w0.slots w0.index).mono ?_); rintro e W2 ⟨rfl, hb1⟩)
  clear Xa Sa Ia ka0 ka1 ka2
  replace hB := Kept.mk (hB.out.trans ((hb1).mono hB.out.size))
  replace Va := Kept.mk (Va.out.keep (hb1))
  replace Sl := Kept.mk (stable_ens _ _ _ _ Sl.out (hb1))
  clear hb1
  cases fa : fewA F0 with
  | false =>
    go_wp2
    all_goals go_ret
    all_goals exact ⟨rfl, hB.out⟩
  | true =>
    have FFa := Kept.mk (fewA_fit fa)
    have KFa := Kept.mk fa
    clear fa
    go_wp2_with fail
    ((with_reducible refine (entries_any F1 8 _ _ Sl.out (fun e he => (w1.2 e he).key) w1.1 (by decide) (by decide)).mono ?_); rintro e W3 ⟨rfl, hb1⟩)
    replace hB := Kept.mk (hB.out.trans ((hb1).mono hB.out.size))
    replace Va := Kept.mk (Va.out.keep (hb1))
    replace Sl := Kept.mk (stable_ens _ _ _ _ Sl.out (hb1))
    clear hb1
    cases fl : fewL F1 8 with
    | false =>
      go_wp2
      all_goals go_ret
      all_goals exact ⟨rfl, hB.out⟩
    | true =>
      have FFl := Kept.mk (fewL_fit fl)
      have hl8 := fewL_len fl
      clear fl
      obtain ⟨B, hG⟩ : ∃ G, mergeF F0 F1 = G := ⟨_, rfl⟩
      obtain ⟨n, hn⟩ : ∃ n : Int, (mergeN F0 F1 : Int) = n := ⟨_, rfl⟩
      obtain ⟨o, ho⟩ : ∃ o : Int, (mergeO F0 F1 : Int) = o := ⟨_, rfl⟩
      have FB := Kept.mk (show FitA B by rw [← hG]; exact fit_merge F1 F0 FFa.out FFl.out)
      have B12 := Kept.mk (show B.slots.length ≤ 12 by rw [← hG]; exact merge_few (fewA_slots KFa.out) F1)
      have HG := Kept.mk hG
      have HN := Kept.mk hn
      have HO := Kept.mk ho
      clear hG hn ho
      obtain ⟨qa, ra, xa, sa, ia, ka0, ka1, ka2⟩ := Va.out.open_
      have Xa := Kept.mk xa
      have Sa := Kept.mk sa
      have Ia := Kept.mk ia
      clear xa sa ia
      go_wp2_with fail
      ((with_reducible refine (ga_merge F0 F1 B n o _ _ _ Xa.out Sl.out FFa.out FFl.out (by omega) HG.out HN.out HO.out).mono ?_); rintro e U ⟨v', rfl, ⟨p', m', rfl, hp', hm'⟩, hb1⟩)
      obtain ⟨K1, K2, K3, K4, K5⟩ := anew U B p' m' hp' hm' U.heap.size rfl
      clear hp' hm'
      clear Xa Sa Ia ka0 ka1 ka2
      replace hB := Kept.mk (hB.out.trans ((hb1).mono hB.out.size))
      replace Va := Kept.mk (Va.out.keep (hb1))
      replace Sl := Kept.mk (stable_ens _ _ _ _ Sl.out (hb1))
      clear hb1
      go_wp2_with (have hz0 := K1; refine wpList_storeN 25 rfl (.tmp 7) (.tmp 32) rfl U.heap.size [.int .i64 B.cap, p', m'] size_ar rfl rfl K1.out rfl K2.out K5.out ?_; replace hB := Kept.mk (hB.out.trans ((K3.out).mono hB.out.size)); replace Va := Kept.mk (Va.out.keep (K3.out)); replace Sl := Kept.mk (stable_ens _ _ _ _ Sl.out (K3.out)); have Vb := Kept.mk K4.out; clear hz0 K1 K2 K3 K4 K5; generalize setN (U.alloc (.cells #[.int .i64 0, .slice none 0 0, .slice none 0 0] 25)) U.heap.size 0 [.int .i64 B.cap, p', m'] = W4 at *; generalize U.heap.size = gb at *; obtain ⟨qb, rb, xb, sb, ib, kb0, kb1, kb2⟩ := Vb.out.open_; have Xb := Kept.mk xb; have Sb := Kept.mk sb; have Ib := Kept.mk ib; clear xb sb ib; obtain ⟨sbb, scb, eb⟩ := Sb.out.len; subst eb; obtain ⟨hBy, Ve⟩ := abox W4 (emptyA B) (.slice none 0 0) (.slice none 0 0) (.inl ⟨rfl, rfl⟩) (.inl ⟨rfl, rfl⟩) W4.heap.size rfl; have hBx := Kept.mk (show Below W4.heap.size W4 (W4.alloc (.cells #[.int .i64 B.cap, .slice none 0 0, .slice none 0 0] 25)) from hBy.out); clear hBy; have kw0 := (show Below W4.heap.size W4 (W4.alloc (.cells #[.int .i64 B.cap, .slice none 0 0, .slice none 0 0] 25)) from hBx.out).cell (p := ⟨gb, 0, none⟩) Vb.out.lt |>.trans kb0; have kw1 := (show Below W4.heap.size W4 (W4.alloc (.cells #[.int .i64 B.cap, .slice none 0 0, .slice none 0 0] 25)) from hBx.out).cell (p := ⟨gb, 1, none⟩) Vb.out.lt |>.trans kb1; have kw2 := (show Below W4.heap.size W4 (W4.alloc (.cells #[.int .i64 B.cap, .slice none 0 0, .slice none 0 0] 25)) from hBx.out).cell (p := ⟨gb, 2, none⟩) Vb.out.lt |>.trans kb2; obtain ⟨N, hN⟩ : ∃ N, B.slots.length = N := ⟨_, rfl⟩; have HNB := Kept.mk hN; rw [hN] at kb1 kw1 Xb Sb; have hN1000 : N ≤ 1000 := (by have := FB.out.slots; omega); have HN5 := Kept.mk (show N ≤ 500 by have := B12.out; omega); clear hN)
      have HSb := Kept.mk (stable_ens _ _ _ _ Sb.out hBx.out)
      replace hB := Kept.mk (hB.out.trans (hBx.out.mono hB.out.size))
      have kb1' := kw1
      replace Va := Kept.mk (Va.out.keep hBx.out)
      replace Vb := Kept.mk (Vb.out.keep hBx.out)
      replace Sl := Kept.mk (stable_ens _ _ _ _ Sl.out hBx.out)
      have Ve := Kept.mk (show VarA (W4.alloc (.cells #[.int .i64 B.cap, .slice none 0 0, .slice none 0 0] 25)) W4.heap.size (emptyA B) from Ve.out)
      clear hBx kw0 kw1 kw2 Xb Sb Ib kb0 kb1 kb2
      generalize W4.heap.size = ge at *
      generalize (W4.alloc (.cells #[.int .i64 B.cap, .slice none 0 0, .slice none 0 0] 25)) = W5 at *
      have hgb := Vb.out.lt
      go_loopw [11, 12] (fun MV IV WZ => ∃ (m : Nat) (ps : RowE), m ≤ N ∧ IV = .int .i64 ((m : Int) - 1) ∧ Kept (OutV W5.heap.size MV ps WZ) ∧ Kept (ps.map (·.1) = (B.slots.drop m).reverse) ∧ Kept (ps.length = N - m) ∧ Kept (Below W5.heap.size W5 WZ)) (fun _ IV _ => (intOf IV + 1).toNat)
      case atStart => exact ⟨N, [], Nat.le_refl _, rfl, ⟨outV_nil _ _⟩, ⟨by rw [List.drop_eq_nil_of_le (by rw [HNB.out]; exact Nat.le_refl _)]; rfl⟩, ⟨by rw [Nat.sub_self]; rfl⟩, ⟨Below.refl _ _⟩⟩
      case round =>
        obtain ⟨m, ps, hm, rfl, OV, HPS, HPL, BZ⟩ := hrel
        have kb1 := (BZ.out.cell (p := ⟨gb, 1, none⟩) hgb).trans kb1'
        by_cases hlt : 0 < m
        · skip
          obtain ⟨j, rfl⟩ : ∃ j, m = j + 1 := ⟨m - 1, by omega⟩
          have hix : ((j + 1 : Nat) : Int) - 1 = (j : Int) := by omega
          rw [hix]
          have hlt' : (0 : Int) ≤ (j : Int) := by omega
          have hjN : (j : Int) < (N : Int) := by omega
          obtain ⟨X, hX⟩ : ∃ X, B.slots[j]? = some X := ⟨_, List.getElem?_eq_getElem (by rw [HNB.out]; omega)⟩
          have HPN := Kept.mk (show (B.slots.drop j).reverse = (B.slots.drop (j + 1)).reverse ++ [X] from drop_rev hX)
          obtain ⟨bs, os, cs, ea, hbs, xp, xm, hxc, hxp, hxm⟩ := HSb.out.get hX
          rw [HNB.out] at ea
          injection ea with ea1 ea2 ea3
          subst ea1 ea3
          clear ea2 hX
          have HXP := Kept.mk hxp
          have HXMM := Kept.mk hxm
          have kx0 : wr.cell? ⟨bs, os + j * 9, none⟩ = _ := (BZ.out.cell (p := ⟨bs, os + j * 9 + 0, none⟩) hbs).trans (hxc 0 _ rfl)
          have kx1 : wr.cell? ⟨bs, os + j * 9 + 1, none⟩ = _ := (BZ.out.cell (p := ⟨bs, os + j * 9 + 1, none⟩) hbs).trans (hxc 1 _ rfl)
          have kx2 : wr.cell? ⟨bs, os + j * 9 + 2, none⟩ = _ := (BZ.out.cell (p := ⟨bs, os + j * 9 + 2, none⟩) hbs).trans (hxc 2 _ rfl)
          have kx3 : wr.cell? ⟨bs, os + j * 9 + 3, none⟩ = _ := (BZ.out.cell (p := ⟨bs, os + j * 9 + 3, none⟩) hbs).trans (hxc 3 _ rfl)
          have kx4 : wr.cell? ⟨bs, os + j * 9 + 4, none⟩ = _ := (BZ.out.cell (p := ⟨bs, os + j * 9 + 4, none⟩) hbs).trans (hxc 4 _ rfl)
          have kx5 : wr.cell? ⟨bs, os + j * 9 + 5, none⟩ = _ := (BZ.out.cell (p := ⟨bs, os + j * 9 + 5, none⟩) hbs).trans (hxc 5 _ rfl)
          have kx6 : wr.cell? ⟨bs, os + j * 9 + 6, none⟩ = _ := (BZ.out.cell (p := ⟨bs, os + j * 9 + 6, none⟩) hbs).trans (hxc 6 _ rfl)
          have kx7 : wr.cell? ⟨bs, os + j * 9 + 7, none⟩ = _ := (BZ.out.cell (p := ⟨bs, os + j * 9 + 7, none⟩) hbs).trans (hxc 7 _ rfl)
          have kx8 : wr.cell? ⟨bs, os + j * 9 + 8, none⟩ = _ := (BZ.out.cell (p := ⟨bs, os + j * 9 + 8, none⟩) hbs).trans (hxc 8 _ rfl)
          clear hxc hxp hxm
          have ROW := Kept.mk (show RowsOk [(X, xp, xm)] W5 from fun q hq => by rw [List.mem_singleton] at hq; subst hq; exact ⟨HXP.out, HXMM.out⟩)
          have HOF := Kept.mk (show ∀ q ∈ [(X, xp, xm)], ∀ b, u11.ownBlock = some b → OffQ b q from fun q hq b hbo => off_old ROW.out (OV.out.own.lt b hbo).1 q hq)
          have OV1 := Kept.mk (OV.out.keep (lit_below wr (.cells #[.string ⟨X.key.toArray⟩, .int .i64 X.val.kind, .int .i64 X.val.time, .int .i64 X.val.node, .bool X.val.dead, .string ⟨X.val.text.toArray⟩, xp, xm, .int .u64 (X.val.flags.toNat : Int)] 48)))
          have BZ1 := Kept.mk (BZ.out.trans ((lit_below wr (.cells #[.string ⟨X.key.toArray⟩, .int .i64 X.val.kind, .int .i64 X.val.time, .int .i64 X.val.node, .bool X.val.dead, .string ⟨X.val.text.toArray⟩, xp, xm, .int .u64 (X.val.flags.toNat : Int)] 48)).mono BZ.out.size))
          have SRC := Kept.mk (src_oneB X xp xm wr)
          have ROW1 := Kept.mk (show RowsOk [(X, xp, xm)] (wr.alloc (.cells #[.string ⟨X.key.toArray⟩, .int .i64 X.val.kind, .int .i64 X.val.time, .int .i64 X.val.node, .bool X.val.dead, .string ⟨X.val.text.toArray⟩, xp, xm, .int .u64 (X.val.flags.toNat : Int)] 48)) from fun q hq => ⟨stable_cells _ _ _ _ (ROW.out q hq).1 BZ1.out, stable_cells _ _ _ _ (ROW.out q hq).2 BZ1.out⟩)
          have HPK := Kept.mk (show ps.length + [(X, xp, xm)].length ≤ 1000 by rw [HPL.out]; show N - (j + 1) + 1 ≤ 1000; omega)
          go_wp2_with (at_builtin; refine wpList_append_ens rfl (.tmp 46) (.tmp 52) rfl W5.heap.size u11 ps rfl OV1.out _ [(X, xp, xm)] rfl SRC.out ROW1.out HOF.out HPK.out BZ1.out.size ?_; intro v2 W2 ho2 hg2; have OV2 := Kept.mk ho2; have BZ2 := Kept.mk (grown_below OV1.out hg2 BZ1.out (Nat.le_refl _)); clear ho2 hg2 kx0 kx1 kx2 kx3 kx4 kx5 kx6 kx7 kx8 kb1)
          go_roundw
          case rel => exact ⟨j, ps ++ [(X, xp, xm)], by omega, by go_num, OV2, ⟨by rw [List.map_append, HPS.out, HPN.out]; rfl⟩, ⟨by rw [List.length_append, HPL.out]; show N - (j + 1) + 1 = N - j; omega⟩, BZ2⟩
          case measure => (simp [intOf]; try omega)
        · skip
          obtain rfl : m = 0 := by omega
          have hneg : ¬ (0 : Int) ≤ ((0 : Nat) : Int) - 1 := by omega
          have HRV := Kept.mk (show ps.map (·.1) = B.slots.reverse by rw [HPS.out, List.drop_zero])
          have Sb := Kept.mk OV.out.ens
          rw [HRV.out] at Sb
          replace hB := Kept.mk (hB.out.trans ((BZ.out).mono hB.out.size))
          replace Va := Kept.mk (Va.out.keep (BZ.out))
          replace Vb := Kept.mk (Vb.out.keep (BZ.out))
          replace Ve := Kept.mk (Ve.out.keep (BZ.out))
          replace Sl := Kept.mk (stable_ens _ _ _ _ Sl.out (BZ.out))
          clear kb1 kb1' hgb HSb BZ
          obtain ⟨C, hC⟩ : ∃ G, mergeF (emptyA B) B.slots.reverse = G := ⟨_, rfl⟩
          obtain ⟨n2, hn2⟩ : ∃ n : Int, (mergeN (emptyA B) B.slots.reverse : Int) = n := ⟨_, rfl⟩
          obtain ⟨o2, ho2⟩ : ∃ o : Int, (mergeO (emptyA B) B.slots.reverse : Int) = o := ⟨_, rfl⟩
          have FRV := Kept.mk (show ∀ e ∈ B.slots.reverse, FitE e from fun e he => FB.out.ents e (List.mem_reverse.1 he))
          have FC := Kept.mk (show FitA C by rw [← hC]; exact fit_merge _ _ (empty_fit B) FRV.out)
          have HC := Kept.mk hC
          have HN2 := Kept.mk hn2
          have HO2 := Kept.mk ho2
          clear hC hn2 ho2
          have hN500 : B.slots.reverse.length ≤ 500 := by rw [List.length_reverse, HNB.out]; exact HN5.out
          obtain ⟨qe, re, xe, se, ie, ke0, ke1, ke2⟩ := Ve.out.open_
          have Xe := Kept.mk xe
          have Se := Kept.mk se
          have Ie := Kept.mk ie
          clear xe se ie
          go_wp2_with fail
          ((with_reducible refine (ga_merge (emptyA B) B.slots.reverse C n2 o2 _ _ _ Xe.out Sb.out (empty_fit B) FRV.out hN500 HC.out HN2.out HO2.out).mono ?_); rintro e U ⟨v', rfl, ⟨p', m', rfl, hp', hm'⟩, hb1⟩)
          obtain ⟨K1, K2, K3, K4, K5⟩ := anew U C p' m' hp' hm' U.heap.size rfl
          clear hp' hm'
          clear Xe Se Ie ke0 ke1 ke2
          replace hB := Kept.mk (hB.out.trans ((hb1).mono hB.out.size))
          replace Va := Kept.mk (Va.out.keep (hb1))
          replace Vb := Kept.mk (Vb.out.keep (hb1))
          replace Ve := Kept.mk (Ve.out.keep (hb1))
          replace Sl := Kept.mk (stable_ens _ _ _ _ Sl.out (hb1))
          replace Sb := Kept.mk (stable_ens _ _ _ _ Sb.out (hb1))
          clear hb1
          go_wp2_with (have hz0 := K1; refine wpList_storeN 25 rfl (.tmp 13) (.tmp 58) rfl U.heap.size [.int .i64 C.cap, p', m'] size_ar rfl rfl K1.out rfl K2.out K5.out ?_; replace hB := Kept.mk (hB.out.trans ((K3.out).mono hB.out.size)); replace Va := Kept.mk (Va.out.keep (K3.out)); replace Vb := Kept.mk (Vb.out.keep (K3.out)); replace Ve := Kept.mk (Ve.out.keep (K3.out)); replace Sl := Kept.mk (stable_ens _ _ _ _ Sl.out (K3.out)); replace Sb := Kept.mk (stable_ens _ _ _ _ Sb.out (K3.out)); have Vc := Kept.mk K4.out; clear hz0 K1 K2 K3 K4 K5; generalize setN (U.alloc (.cells #[.int .i64 0, .slice none 0 0, .slice none 0 0] 25)) U.heap.size 0 [.int .i64 C.cap, p', m'] = W7 at *; generalize U.heap.size = gc at *; obtain ⟨qb, rb, xb, sb, ib, kb0, kb1, kb2⟩ := Vb.out.open_; have Xb := Kept.mk xb; have Sb := Kept.mk sb; have Ib := Kept.mk ib; clear xb sb ib; obtain ⟨qc, rc, xc, sc, ic, kc0, kc1, kc2⟩ := Vc.out.open_; have Xc := Kept.mk xc; have Sc := Kept.mk sc; have Ic := Kept.mk ic; clear xc sc ic)
          cases ob : okA B with
          | false =>
            have HAL := Kept.mk (alike_bad (B := C) ob)
            have HCK := Kept.mk (chk_A0 ob)
            clear ob
            ((with_reducible refine (gd_alike B C false _ _ _ Xb.out Xc.out FB.out FC.out HAL.out).mono ?_); rintro e W8 ⟨rfl, hb1⟩)
            clear Xb Sb Ib kb0 kb1 kb2
            clear Xc Sc Ic kc0 kc1 kc2
            replace hB := Kept.mk (hB.out.trans ((hb1).mono hB.out.size))
            replace Va := Kept.mk (Va.out.keep (hb1))
            replace Vb := Kept.mk (Vb.out.keep (hb1))
            replace Ve := Kept.mk (Ve.out.keep (hb1))
            replace Vc := Kept.mk (Vc.out.keep (hb1))
            replace Sl := Kept.mk (stable_ens _ _ _ _ Sl.out (hb1))
            replace Sb := Kept.mk (stable_ens _ _ _ _ Sb.out (hb1))
            clear hb1
            obtain ⟨qb, rb, xb, sb, ib, kb0, kb1, kb2⟩ := Vb.out.open_
            have Xb := Kept.mk xb
            have Sb := Kept.mk sb
            have Ib := Kept.mk ib
            clear xb sb ib
            go_wp2_with fail
            ((with_reducible refine (gd_check B 2 _ _ Xb.out FB.out HCK.out).mono ?_); rintro e W9 ⟨rfl, hb1⟩)
            clear Xb Sb Ib kb0 kb1 kb2
            replace hB := Kept.mk (hB.out.trans ((hb1).mono hB.out.size))
            replace Va := Kept.mk (Va.out.keep (hb1))
            replace Vb := Kept.mk (Vb.out.keep (hb1))
            replace Ve := Kept.mk (Ve.out.keep (hb1))
            replace Vc := Kept.mk (Vc.out.keep (hb1))
            replace Sl := Kept.mk (stable_ens _ _ _ _ Sl.out (hb1))
            replace Sb := Kept.mk (stable_ens _ _ _ _ Sb.out (hb1))
            clear hb1
            go_wp2
            all_goals go_ret
            all_goals exact ⟨rfl, hB.out⟩
          | true =>
            have HAL := Kept.mk (show alikeA B C = true by rw [← HC.out]; exact back_alike (okA_iff.1 ob))
            have HSS := Kept.mk (sums_alike HAL.out)
            obtain ⟨s0, s1, s2, s3, hs4⟩ : ∃ a b c d : Int, sumsV B = .agg #[.int .i64 a, .int .i64 b, .int .i64 c, .int .i64 d] := ⟨_, _, _, _, rfl⟩
            have HSB := Kept.mk hs4
            have HSC := Kept.mk (HSS.out.symm.trans hs4)
            clear ob hs4
            ((with_reducible refine (gd_alike B C true _ _ _ Xb.out Xc.out FB.out FC.out HAL.out).mono ?_); rintro e W8 ⟨rfl, hb1⟩)
            clear Xb Sb Ib kb0 kb1 kb2
            clear Xc Sc Ic kc0 kc1 kc2
            replace hB := Kept.mk (hB.out.trans ((hb1).mono hB.out.size))
            replace Va := Kept.mk (Va.out.keep (hb1))
            replace Vb := Kept.mk (Vb.out.keep (hb1))
            replace Ve := Kept.mk (Ve.out.keep (hb1))
            replace Vc := Kept.mk (Vc.out.keep (hb1))
            replace Sl := Kept.mk (stable_ens _ _ _ _ Sl.out (hb1))
            replace Sb := Kept.mk (stable_ens _ _ _ _ Sb.out (hb1))
            clear hb1
            go_wp2_with fail
            obtain ⟨qb, rb, cb, sb, ib⟩ := Vb.out
            obtain ⟨qc, rc, cc, sc, ic⟩ := Vc.out
            refine dal17_region _ _ _ rfl gb gc B C qb rb qc rc s0 s1 s2 s3 cb cc ⟨_, _, rfl, sb, ib⟩ ⟨_, _, rfl, sc, ic⟩ FB.out FC.out HSB.out HSC.out rfl rfl rfl ?_
            intro f9 W9 d4 hb1
            simp only [List.foldl_cons, List.foldl_nil, d4]
            generalize f9 71 = y71
            generalize f9 72 = y72
            generalize f9 73 = y73
            generalize f9 74 = y74
            generalize f9 75 = y75
            generalize f9 76 = y76
            generalize f9 77 = y77
            generalize f9 78 = y78
            generalize f9 79 = y79
            generalize f9 80 = y80
            generalize f9 81 = y81
            generalize f9 82 = y82
            generalize f9 83 = y83
            generalize f9 84 = y84
            generalize f9 85 = y85
            generalize f9 86 = y86
            clear d4
            try simp only [List.setIfInBounds_toArray, List.set_cons_succ, List.set_cons_zero]
            clear cb sb ib cc sc ic
            replace hB := Kept.mk (hB.out.trans ((hb1).mono hB.out.size))
            replace Va := Kept.mk (Va.out.keep (hb1))
            replace Vb := Kept.mk (Vb.out.keep (hb1))
            replace Ve := Kept.mk (Ve.out.keep (hb1))
            replace Vc := Kept.mk (Vc.out.keep (hb1))
            replace Sl := Kept.mk (stable_ens _ _ _ _ Sl.out (hb1))
            replace Sb := Kept.mk (stable_ens _ _ _ _ Sb.out (hb1))
            clear hb1
            go_wp2
            all_goals go_ret
            all_goals exact ⟨rfl, hB.out⟩
set_option maxRecDepth 100000 in
theorem digestAlike_lifted (os : Os) (started : os.Started) (H : Type) (enc : TypeId × Value → H) :
    ReturnsInHanded {} Tryz.checked os 5 .any (Rows.digestAlikeSpec.pre6 enc Tryz.prog Tryz.f5 Rows.digestAlikeRow.domain false) (Rows.digestAlikeSpec.post enc Tryz.prog Tryz.f5 false true false false) := by
  refine returnsInHanded_of_change (C := Tryz.checked) (by kernel_rfl : ownKnob Tryz.prog.godebug = none) started (by kernel_rfl) Tryz.func5
    (ChangeSpec.witness6 (enc := enc) (C := Tryz.checked) false ⟨#[], #[.agg #[.int .i64 0, .slice none 0 0, .slice none 0 0], .slice none 0 0], []⟩ 8 (by kernel_rfl) (by kernel_rfl) (by kernel_rfl) (by kernel_rfl)) ?_
  intro W base args ds gs before hval0 hW hcnd _
  have hval : ∀ (j : Nat) t v, Tryz.f5.params[j]? = some t → args[j]? = some v → Value.okWide Tryz.prog W .any base t v := hval0
  have hW' := hW
  obtain ⟨p, q, hA0, hV, rfl, hfz, hnd⟩ := hW
  have hA : DataW.TrodAll enc Tryz.prog W 0 (fun _ => true) true Tryz.f5.params.toList args.toList ds p := hA0
  rw [Tryz.params5] at hA hval
  obtain ⟨v0, vs0, d0, ds0, p0, q0, hargs, rfl, rfl, h0, r0⟩ := trodAll_cons hA
  obtain ⟨v1, vs1, d1, ds1, p1, q1, rfl, rfl, rfl, h1, r1⟩ := trodAll_cons r0
  obtain ⟨rfl, rfl, rfl⟩ := trodAll_nil r1
  obtain rfl : args = #[v0, v1] := by cases args; simp_all
  obtain ⟨rfl, rfl⟩ := trodVars_none hV
  obtain ⟨F0, fl0, w0⟩ := open_ar (hval 0 25 v0 rfl rfl) h0
  have lt0 : ∀ x ∈ p0, x.block < W.heap.size := fun x hx => by obtain ⟨fuel, hf⟩ := h0; exact DataW.trod_lt fuel _ _ _ hf x hx
  obtain ⟨F1, fl1, w1⟩ := open_el (hval 1 22 v1 rfl rfl) h1
  have lt1 : ∀ x ∈ p1, x.block < W.heap.size := fun x hx => by obtain ⟨fuel, hf⟩ := h1; exact DataW.trod_lt fuel _ _ _ hf x hx
  clear hA0 hval0
  simp only [List.append_nil] at hW'
  refine (digestAlike_walk F0 v0 F1 v1 w0 w1 W fl0 fl1).mono fun e W' ⟨he, bel⟩ => ?_
  subst he
  exact ⟨_, rfl, _, _, _, [], _, [], hW', trodAll_mk1 (shut_bool Tryz.underlying4 _), (trodAll_cons_mk (Below.trod (by kernel_rfl) (by kernel_rfl) (of_decide_eq_true (by kernel_rfl)) h0 bel lt0) (trodAll_cons_mk (Below.trod (by kernel_rfl) (by kernel_rfl) (of_decide_eq_true (by kernel_rfl)) h1 bel lt1) trodAll_mk0)), rfl, bel.frame _, fun h => by cases h⟩
/-- THE STATEMENT. -/
theorem digestAlike_proved : Rows.DigestAlikeSaid :=
  OpenClaim.holds_of_wide 5 Tryz.f5 rfl rfl rfl rfl rfl rfl rfl ⟨rfl, rfl, rfl, rfl, rfl⟩ rfl rfl rfl rfl rfl (by kernel_rfl) Tryz.func5 (by kernel_rfl)
    (of_decide_eq_true (by kernel_rfl)) (by unfold Func.isWrapper; first | (rw [if_pos (by decide +kernel)]; kernel_rfl) | (rw [if_neg (by decide +kernel)]; exact ⟨rfl, rfl⟩))
    (fun os started H enc _ => digestAlike_lifted os started H enc)
#print axioms digestAlike_proved
end Go.Proofs.YtkjghoomdefbbaaGreatDoor
