/- The slots of all buckets are all; those of one are not those of another one; and no more are told than are asked for (digest.In, Bucket; arena.Check). -/
import Derived.Test.YtkjghoomdefbbaaGreatDoorPartG
import Derived.SizedLaws
import Derived.ProofKit
import Derived.OpenShut
import Derived.ShutString
import Derived.ChangeOld
import Derived.Below
namespace Go.Proofs.YtkjghoomdefbbaaGreatDoor
open Go.RowKit
open Go.ChangeShapes Go.WideShapes Go.ChangeAt Go.RowKit
open Go.ChangeMaps (open_string shut_string)
set_option linter.unusedVariables false
set_option linter.unusedSimpArgs false
attribute [local irreducible] setN

theorem dcall_v {f : FuncId} {vs : Array Value} {w : World} {r : Value} (h : Calls Tryz.prog f vs w fun e w' => e = .returned r ∧ Below w.heap.size w w') : Calls Tryz.prog f vs w fun e w' => ∃ x, e = .returned x ∧ isVal r x w' ∧ Below w.heap.size w w' := h.mono (by rintro e w' ⟨rfl, hb⟩; exact ⟨_, rfl, rfl, hb⟩)
theorem refAll_selfD (l : List En) (v u : Value) (w : World) (hv : isEns l v w) (hu : isEns l u w) (hl : l.length ≤ 1000) (fl : ∀ e ∈ l, FitE e) : Calls Tryz.prog 14 #[v, u] w fun e w' => e = .returned (.bool true) ∧ Below w.heap.size w w' := by
  have h := refAll_any l l v u w hv hu hl hl fl fl
  rwa [show decide (l = l) = true by simp] at h
theorem gd_in (A : Ar) (m n : Int) (L : List En) (v : Value) (w : World) (hv : isAr A v w) (hF : FitA A) (hL : inA A m n = L) : Calls Tryz.prog 15 #[v, .int .i64 m, .int .i64 n] w fun e w' => ∃ x, e = .returned x ∧ isEns L x w' ∧ Below w.heap.size w w' := by subst hL; exact in_any A m n v w hv hF
theorem inA_fit {A : Ar} (hF : FitA A) (m n : Int) : (inA A m n).length ≤ 1000 ∧ ∀ e ∈ inA A m n, FitE e := by
  have h1 := hF.slots
  have h2 := hF.ents
  unfold inA
  split
  · unfold inL
    refine ⟨?_, fun e he => h2 e (List.mem_filter.1 (List.mem_of_mem_take he)).1⟩
    have := List.length_filter_le (askB m) A.slots
    rw [List.length_take]; omega
  · exact ⟨by decide, fun e he => by cases he⟩
theorem bk_lt (E : En) : bkE E < 4 := bucketN_lt _ _
theorem ask_15 (E : En) : askB 15 E = true := by
  have h := bk_lt E
  unfold askB
  have h4 : bkE E = 0 ∨ bkE E = 1 ∨ bkE E = 2 ∨ bkE E = 3 := by omega
  rcases h4 with e | e | e | e <;> rw [e] <;> decide
theorem ask_k (E : En) {k : Nat} (hk : k < 4) : askB ((2 ^ k : Nat) : Int) E = decide (bkE E = k) := by
  have h := bk_lt E
  unfold askB
  have h4 : bkE E = 0 ∨ bkE E = 1 ∨ bkE E = 2 ∨ bkE E = 3 := by omega
  have k4 : k = 0 ∨ k = 1 ∨ k = 2 ∨ k = 3 := by omega
  rcases k4 with rfl | rfl | rfl | rfl <;> rcases h4 with e | e | e | e <;> rw [e] <;> decide
theorem ask_0 (E : En) : askB 0 E = false := by
  unfold askB
  rw [show (0 : Int).toNat = 0 from rfl, Nat.zero_and]
  decide
def onlyK (k : Nat) (l : List En) : List En := l.filter (fun e => decide (bkE e = k))
theorem in_all {A : Ar} (h : OkA A) : inA A 15 100 = A.slots := by
  have h1 := h.fits
  have h2 := h.room
  unfold inA inL
  rw [if_pos (okA_iff.2 h), List.filter_eq_self.2 (fun e _ => ask_15 e), List.take_of_length_le (by show A.slots.length ≤ 100; omega)]
theorem in_bucket {A : Ar} (h : OkA A) {k : Nat} (hk : k < 4) : inA A ((2 ^ k : Nat) : Int) 100 = onlyK k A.slots := by
  have h1 := h.fits
  have h2 := h.room
  unfold inA inL onlyK
  rw [if_pos (okA_iff.2 h), show askB ((2 ^ k : Nat) : Int) = (fun e => decide (bkE e = k)) from funext (fun e => ask_k e hk), List.take_of_length_le]
  have := List.length_filter_le (fun e => decide (bkE e = k)) A.slots
  show _ ≤ 100
  omega
theorem in_none {A : Ar} : inA A 0 100 = [] := by
  unfold inA inL
  split
  · rw [List.filter_eq_nil_iff.2 (fun e _ => by rw [ask_0]; decide)]; rfl
  · rfl
theorem in_some (A : Ar) (m n : Int) : ((inA A m n).length : Int) = 0 ∨ ((inA A m n).length : Int) ≤ n := by
  unfold inA inL
  split
  · rw [List.length_take]; omega
  · exact .inl rfl
def cntL (l : List En) : Nat → Nat
  | 0 => 0
  | j + 1 => cntL l j + (onlyK j l).length
theorem cnt_cons (x : En) (l : List En) : ∀ j, cntL (x :: l) j = cntL l j + (if bkE x < j then 1 else 0)
  | 0 => rfl
  | j + 1 => by
    rw [cntL, cntL, cnt_cons x l j]
    unfold onlyK
    rw [List.filter_cons]
    by_cases h : bkE x = j
    · simp [h]; omega
    · have : (bkE x < j + 1) ↔ bkE x < j := by omega
      simp [h, this]; omega
theorem cnt_all : ∀ l : List En, cntL l 4 = l.length
  | [] => rfl
  | x :: l => by rw [cnt_cons, cnt_all l, if_pos (bk_lt x), List.length_cons]
theorem cnt_le (l : List En) : ∀ j, cntL l j ≤ j * l.length
  | 0 => by simp [cntL]
  | j + 1 => by
    have h1 := cnt_le l j
    have h2 := List.length_filter_le (fun e => decide (bkE e = j)) l
    have h3 : (onlyK j l).length ≤ l.length := h2
    rw [cntL, Nat.succ_mul]
    omega
theorem only_bk {l : List En} {k i : Nat} {X : En} (h : (onlyK k l)[i]? = some X) : bkE X = k := by
  have := (List.mem_filter.1 (List.mem_of_getElem? h)).2
  simpa using this
noncomputable def din7Ops : Array Oper := regionOf Tryz.f7 7
set_option maxRecDepth 100000 in
set_option maxHeartbeats 2000000 in
theorem din7_region (Q : Exit → Act → World → Prop) (a0 : Act) (w0 : World) (hsz : a0.tmps.size = 97) (ga : Nat) (A : Ar) (vs vi : Value) (HA : CellsN w0 ga [.int .i64 A.cap, vs, vi]) (XA : isAr A (.agg #[.int .i64 A.cap, vs, vi]) w0) (hS : isEns A.slots vs w0) (hF : FitA A) (hL : inA A 15 100 = A.slots) (e3 : a0.tmps.getD 3 undef = .pointer (some ⟨ga, 0, none⟩))
    (hQ : ∀ (g : Nat → Value) (w : World), g 9 = .bool true → Below w0.heap.size w0 w → Q .normal { tmps := [28, 29, 30, 31, 32, 9].foldl (fun t s => t.setIfInBounds s (g s)) a0.tmps, defers := a0.defers } w) :
    (Code.region 7 din7Ops true).wp Tryz.prog Q a0 w0 := by
  refine wp_region_flow mixed (by rw [hsz]; kernel_rfl) ?_
  rw [show din7Ops.size = 6 by kernel_rfl]
  refine ⟨isVal (.agg #[.int .i64 A.cap, vs, vi]), step_loadA 25 (.tmp 3) (ga) (0) [.int .i64 A.cap, vs, vi] (by kernel_rfl) (wanted_none (by kernel_rfl)) (knows_old 3 (.pointer (some ⟨ga, 0, none⟩)) (by kernel_rfl) e3) size_ar agg_ar (⟨HA.1, fun j x hx => by rw [Nat.zero_add]; exact HA.2 j x hx⟩), ?_⟩
  refine ⟨(isEns A.slots), step_call 15 #[.tmp 28, .const (.int .i64 15), .const (.int .i64 100)] #[25, 3, 3] #[.agg #[.int .i64 A.cap, vs, vi], .int .i64 15, .int .i64 100] (by kernel_rfl) (wanted_none (by kernel_rfl)) (stable_ens _) (args3 (.tmp 28) (.const (.int .i64 15)) (.const (.int .i64 100)) (.agg #[.int .i64 A.cap, vs, vi]) (.int .i64 15) (.int .i64 100) (knows_new (V := isVal (.agg #[.int .i64 A.cap, vs, vi])) 28 0 (by kernel_rfl) (by kernel_rfl) (by kernel_rfl)) (knows_const _) (knows_const _)) (enters_of Tryz.func15 (by kernel_rfl) rfl) (by intro w' hb; exact gd_in A 15 100 A.slots _ w' (stable_ar _ _ _ _ XA hb) hF hL), ?_⟩
  refine ⟨isVal (.pointer (some ⟨ga, 1, none⟩)), step_field 25 (.tmp 3) 1 ⟨ga, 0, none⟩ ⟨ga, 1, none⟩ (by kernel_rfl) (wanted_none (by kernel_rfl)) (knows_old 3 (.pointer (some ⟨ga, 0, none⟩)) (by kernel_rfl) e3) (f_ar_0_1 (ga)), ?_⟩
  refine ⟨isVal vs, step_read 22 (.tmp 30) ⟨ga, 1, none⟩ vs (by kernel_rfl) (wanted_none (by kernel_rfl)) (knows_new (V := isVal (.pointer (some ⟨ga, 1, none⟩))) 30 2 (by kernel_rfl) (by kernel_rfl) (by kernel_rfl)) (HA.2 1 _ rfl) (HA.1) (agg_noS), ?_⟩
  refine ⟨isVal (.bool true), step_callP 14 #[.tmp 29, .tmp 31] #[22, 22] (by kernel_rfl) (wanted_none (by kernel_rfl)) (stable_val _) (enters_of Tryz.func14 (by kernel_rfl) rfl) (fun vs_ w => ∃ u v, vs_ = #[u, v] ∧ isEns A.slots u w ∧ isVal vs v w) (pre2 (knows_new (V := (isEns A.slots)) 29 1 (by kernel_rfl) (by kernel_rfl) (by kernel_rfl)) (knows_new (V := isVal vs) 31 3 (by kernel_rfl) (by kernel_rfl) (by kernel_rfl))) (fun vs_ w' hb hp => by obtain ⟨u, v, rfl, h1, h2⟩ := hp; obtain rfl : v = vs := h2; exact dcall_v (refAll_selfD A.slots _ _ w' h1 (stable_ens _ _ _ _ hS hb) hF.slots hF.ents)), ?_⟩
  refine ⟨isVal (.bool true), step_assign (.tmp 32) (by kernel_rfl) (wanted_none (by kernel_rfl)) (stable_val _) (knows_new (V := isVal (.bool true)) 32 4 (by kernel_rfl) (by kernel_rfl) (by kernel_rfl)), ?_⟩
  intro a w hkp hb hd
  rw [kept_of hkp [some 28, some 29, some 30, some 31, some 32, some 9] [28, 29, 30, 31, 32, 9] (by kernel_rfl) (by decide)]
  have d9 := fdone_of (hd 5 (by rw [show din7Ops.size = 6 by kernel_rfl]; decide)) (t := 9) (V := isVal (.bool true)) (by kernel_rfl) (by kernel_rfl)
  exact hQ (fun s => a.tmps.getD s undef) w d9 hb
noncomputable def din17Ops : Array Oper := regionOf Tryz.f7 17
set_option maxRecDepth 100000 in
set_option maxHeartbeats 2000000 in
theorem din17_region (Q : Exit → Act → World → Prop) (a0 : Act) (w0 : World) (hsz : a0.tmps.size = 97) (n k q bs os cs : Nat) (xp xm : Value) (X : En) (e12 : a0.tmps.getD 12 undef = .slice (some ⟨bs, os, none⟩) n cs) (e13 : a0.tmps.getD 13 undef = .int .i64 (k : Int)) (e11 : a0.tmps.getD 11 undef = .int .i64 (q : Int)) (hk : k < n) (hbs : bs < w0.heap.size) (hxc : ∀ (jj : Nat) (x : Value), [.string ⟨X.key.toArray⟩, .int .i64 X.val.kind, .int .i64 X.val.time, .int .i64 X.val.node, .bool X.val.dead, .string ⟨X.val.text.toArray⟩, xp, xm, .int .u64 (X.val.flags.toNat : Int)][jj]? = some x → w0.cell? ⟨bs, os + k * 9 + jj, none⟩ = some x) (hl : X.key.length ≤ 1000) (hq : bkE X = q)
    (hQ : ∀ (g : Nat → Value) (w : World), g 65 = .bool false → Below w0.heap.size w0 w → Q .normal { tmps := [52, 53, 54, 55, 56, 57, 58, 59, 60, 61, 62, 63, 64, 65].foldl (fun t s => t.setIfInBounds s (g s)) a0.tmps, defers := a0.defers } w) :
    (Code.region 17 din17Ops true).wp Tryz.prog Q a0 w0 := by
  refine wp_region_flow mixed (by rw [hsz]; kernel_rfl) ?_
  rw [show din17Ops.size = 14 by kernel_rfl]
  refine ⟨isVal (.slice (some ⟨bs, os, none⟩) n cs), step_move (.tmp 12) (by kernel_rfl) (wanted_none (by kernel_rfl)) (stable_val _) (knows_old 12 (.slice (some ⟨bs, os, none⟩) n cs) (by kernel_rfl) e12), ?_⟩
  refine ⟨isVal (.int .i64 (k : Int)), step_move (.tmp 13) (by kernel_rfl) (wanted_none (by kernel_rfl)) (stable_val _) (knows_old 13 (.int .i64 (k : Int)) (by kernel_rfl) e13), ?_⟩
  refine ⟨isVal (.pointer (some ⟨bs, os + k * 9, none⟩)), step_placeE 22 48 (.tmp 52) (.tmp 53) bs (os) (n) (cs) (k) (os + k * 9) (by kernel_rfl) (wanted_none (by kernel_rfl)) (knows_new (V := isVal (.slice (some ⟨bs, os, none⟩) n cs)) 52 0 (by kernel_rfl) (by kernel_rfl) (by kernel_rfl)) (knows_new (V := isVal (.int .i64 (k : Int))) 53 1 (by kernel_rfl) (by kernel_rfl) (by kernel_rfl)) Tryz.underlying22 (by kernel_rfl) (⟨hk, rfl⟩), ?_⟩
  refine ⟨isVal (.pointer (some ⟨bs, os + k * 9 + 1, none⟩)), step_field 48 (.tmp 54) 1 ⟨bs, os + k * 9, none⟩ ⟨bs, os + k * 9 + 1, none⟩ (by kernel_rfl) (wanted_none (by kernel_rfl)) (knows_new (V := isVal (.pointer (some ⟨bs, os + k * 9, none⟩))) 54 2 (by kernel_rfl) (by kernel_rfl) (by kernel_rfl)) (fs_en_1 (bs) (os + k * 9)), ?_⟩
  refine ⟨isVal (.pointer (some ⟨bs, os + k * 9 + 1, none⟩)), step_field 46 (.tmp 55) 0 ⟨bs, os + k * 9 + 1, none⟩ ⟨bs, os + k * 9 + 1, none⟩ (by kernel_rfl) (wanted_none (by kernel_rfl)) (knows_new (V := isVal (.pointer (some ⟨bs, os + k * 9 + 1, none⟩))) 55 3 (by kernel_rfl) (by kernel_rfl) (by kernel_rfl)) (fs_va_0 (bs) (os + k * 9 + 1)), ?_⟩
  refine ⟨isVal (.int .i64 X.val.kind), step_read 3 (.tmp 56) ⟨bs, os + k * 9 + 1, none⟩ (.int .i64 X.val.kind) (by kernel_rfl) (wanted_none (by kernel_rfl)) (knows_new (V := isVal (.pointer (some ⟨bs, os + k * 9 + 1, none⟩))) 56 4 (by kernel_rfl) (by kernel_rfl) (by kernel_rfl)) (hxc 1 _ rfl) (hbs) (agg_noZ), ?_⟩
  refine ⟨isVal (.slice (some ⟨bs, os, none⟩) n cs), step_move (.tmp 12) (by kernel_rfl) (wanted_none (by kernel_rfl)) (stable_val _) (knows_old 12 (.slice (some ⟨bs, os, none⟩) n cs) (by kernel_rfl) e12), ?_⟩
  refine ⟨isVal (.int .i64 (k : Int)), step_move (.tmp 13) (by kernel_rfl) (wanted_none (by kernel_rfl)) (stable_val _) (knows_old 13 (.int .i64 (k : Int)) (by kernel_rfl) e13), ?_⟩
  refine ⟨isVal (.pointer (some ⟨bs, os + k * 9, none⟩)), step_placeE 22 48 (.tmp 58) (.tmp 59) bs (os) (n) (cs) (k) (os + k * 9) (by kernel_rfl) (wanted_none (by kernel_rfl)) (knows_new (V := isVal (.slice (some ⟨bs, os, none⟩) n cs)) 58 6 (by kernel_rfl) (by kernel_rfl) (by kernel_rfl)) (knows_new (V := isVal (.int .i64 (k : Int))) 59 7 (by kernel_rfl) (by kernel_rfl) (by kernel_rfl)) Tryz.underlying22 (by kernel_rfl) (⟨hk, rfl⟩), ?_⟩
  refine ⟨isVal (.pointer (some ⟨bs, os + k * 9, none⟩)), step_field 48 (.tmp 60) 0 ⟨bs, os + k * 9, none⟩ ⟨bs, os + k * 9, none⟩ (by kernel_rfl) (wanted_none (by kernel_rfl)) (knows_new (V := isVal (.pointer (some ⟨bs, os + k * 9, none⟩))) 60 8 (by kernel_rfl) (by kernel_rfl) (by kernel_rfl)) (fs_en_0 (bs) (os + k * 9)), ?_⟩
  refine ⟨isVal (.string ⟨X.key.toArray⟩), step_read 9 (.tmp 61) ⟨bs, os + k * 9, none⟩ (.string ⟨X.key.toArray⟩) (by kernel_rfl) (wanted_none (by kernel_rfl)) (knows_new (V := isVal (.pointer (some ⟨bs, os + k * 9, none⟩))) 61 9 (by kernel_rfl) (by kernel_rfl) (by kernel_rfl)) (hxc 0 _ rfl) (hbs) (agg_noT), ?_⟩
  refine ⟨isVal (.int .i64 (q : Int)), step_call 17 #[.tmp 57, .tmp 62] #[3, 9] #[.int .i64 X.val.kind, .string ⟨X.key.toArray⟩] (by kernel_rfl) (wanted_none (by kernel_rfl)) (stable_val _) (args2 (.tmp 57) (.tmp 62) (.int .i64 X.val.kind) (.string ⟨X.key.toArray⟩) (knows_new (V := isVal (.int .i64 X.val.kind)) 57 5 (by kernel_rfl) (by kernel_rfl) (by kernel_rfl)) (knows_new (V := isVal (.string ⟨X.key.toArray⟩)) 62 10 (by kernel_rfl) (by kernel_rfl) (by kernel_rfl))) (enters_of Tryz.func17 (by kernel_rfl) rfl) (by intro w' hb; exact (bucket_any X.val.kind X.key w' hl).mono (by rintro e w2 ⟨rfl, hb2⟩; exact ⟨_, rfl, by rw [show bucketN X.val.kind X.key = q from hq]; rfl, hb2⟩)), ?_⟩
  refine ⟨isVal (.int .i64 (q : Int)), step_move (.tmp 11) (by kernel_rfl) (wanted_none (by kernel_rfl)) (stable_val _) (knows_old 11 (.int .i64 (q : Int)) (by kernel_rfl) e11), ?_⟩
  refine ⟨isVal (.bool false), step_bin .neq 3 3 (.tmp 63) (.tmp 64) (.int .i64 (q : Int)) (.int .i64 (q : Int)) (.bool false) (by kernel_rfl) (wanted_none (by kernel_rfl)) (knows_new (V := isVal (.int .i64 (q : Int))) 63 11 (by kernel_rfl) (by kernel_rfl) (by kernel_rfl)) (knows_new (V := isVal (.int .i64 (q : Int))) 64 12 (by kernel_rfl) (by kernel_rfl) (by kernel_rfl)) (fun _ => rfl) (neq_f _ _ (by omega)), ?_⟩
  intro a w hkp hb hd
  rw [kept_of hkp [some 52, some 53, some 54, some 55, some 56, some 57, some 58, some 59, some 60, some 61, some 62, some 63, some 64, some 65] [52, 53, 54, 55, 56, 57, 58, 59, 60, 61, 62, 63, 64, 65] (by kernel_rfl) (by decide)]
  have d65 := fdone_of (hd 13 (by rw [show din17Ops.size = 14 by kernel_rfl]; decide)) (t := 65) (V := isVal (.bool false)) (by kernel_rfl) (by kernel_rfl)
  exact hQ (fun s => a.tmps.getD s undef) w d65 hb
set_option maxRecDepth 100000 in
set_option maxHeartbeats 4000000 in
theorem digestIn_walk (F0 : Ar) (v0 : Value) (a1 a2 : Int) (w0 : CameA F0) (w1 : (Lit.int .i64 a1).wf = true) (w2 : (Lit.int .i64 a2).wf = true) (w : World) (fl0 : isAr F0 v0 w) :
    Calls Tryz.prog 7 #[v0, .int .i64 a1, .int .i64 a2] w fun e w' => e = .returned (.bool true) ∧ Below w.heap.size w w' := by
  obtain ⟨pa, ma, rfl, hpa, hma⟩ := fl0
  obtain ⟨hB, Va⟩ := abox w F0 pa ma hpa hma (w.heap.size) (by simp)
  clear hpa hma
  go_enter Tryz.func7, Tryz.ntmps7
  go_wp2_with fail
  generalize (w.alloc (.cells #[.int .i64 F0.cap, pa, ma] 25)) = W0 at *
  ((with_reducible refine (dgworks_any _).mono ?_); rintro e W1 ⟨rfl, hb1⟩)
  replace hB := Kept.mk (hB.out.trans ((hb1).mono hB.out.size))
  replace Va := Kept.mk (Va.out.keep (hb1))
  clear hb1
  obtain ⟨qa, ra, xa, sa, ia, ka0, ka1, ka2⟩ := Va.out.open_
  have Xa := Kept.mk xa
  have Sa := Kept.mk sa
  have Ia := Kept.mk ia
  clear xa sa ia
  go_wp2_with fail
  ((with_reducible refine (afew_any F0 _ _ Xa.out (CameA.keys w0) w0.slots w0.index).mono ?_); rintro e W2 ⟨rfl, hb1⟩)
  clear Xa Sa Ia ka0 ka1 ka2
  replace hB := Kept.mk (hB.out.trans ((hb1).mono hB.out.size))
  replace Va := Kept.mk (Va.out.keep (hb1))
  clear hb1
  cases fa : fewA F0 with
  | false =>
    go_wp2
    all_goals go_ret
    all_goals exact ⟨rfl, hB.out⟩
  | true =>
    have FFa := Kept.mk (fewA_fit fa)
    have KFa := Kept.mk fa
    clear fa
    obtain ⟨qa, ra, xa, sa, ia, ka0, ka1, ka2⟩ := Va.out.open_
    have Xa := Kept.mk xa
    have Sa := Kept.mk sa
    have Ia := Kept.mk ia
    clear xa sa ia
    go_wp2_with fail
    cases oa : okA F0 with
    | false =>
      have Oa := Kept.mk (chk_A0 oa)
      clear oa
      ((with_reducible refine (acheck_any F0 _ _ Xa.out FFa.out).mono ?_); rintro e W3 ⟨rfl, hb1⟩)
      clear Xa Sa Ia ka0 ka1 ka2
      replace hB := Kept.mk (hB.out.trans ((hb1).mono hB.out.size))
      replace Va := Kept.mk (Va.out.keep (hb1))
      clear hb1
      rw [Oa.out]
      go_wp2
      all_goals go_ret
      all_goals exact ⟨rfl, hB.out⟩
    | true =>
      have Oa := Kept.mk (chk_A1 oa)
      have OA := Kept.mk (okA_iff.1 oa)
      clear oa
      ((with_reducible refine (acheck_any F0 _ _ Xa.out FFa.out).mono ?_); rintro e W3 ⟨rfl, hb1⟩)
      clear Xa Sa Ia ka0 ka1 ka2
      replace hB := Kept.mk (hB.out.trans ((hb1).mono hB.out.size))
      replace Va := Kept.mk (Va.out.keep (hb1))
      clear hb1
      rw [Oa.out]
      have hlen8 : F0.slots.length ≤ 8 := by have h1 := OA.out.fits; have h2 := OA.out.room; omega
      have HI := Kept.mk (in_all OA.out)
      go_wp2_with fail
      obtain ⟨qa, ra, ca, sa, ia⟩ := Va.out
      refine din7_region _ _ _ rfl w.heap.size F0 qa ra ca ⟨_, _, rfl, sa, ia⟩ sa FFa.out HI.out rfl ?_
      intro f9 W9 d9 hb1
      simp only [List.foldl_cons, List.foldl_nil, d9]
      generalize f9 28 = y28
      generalize f9 29 = y29
      generalize f9 30 = y30
      generalize f9 31 = y31
      generalize f9 32 = y32
      clear d9
      try simp only [List.setIfInBounds_toArray, List.set_cons_succ, List.set_cons_zero]
      clear ca sa ia
      replace hB := Kept.mk (hB.out.trans ((hb1).mono hB.out.size))
      replace Va := Kept.mk (Va.out.keep (hb1))
      clear hb1
      generalize hWZ : W9 = WZ at *
      go_wp2
      go_loopw [10, 11] (fun many i wr => ∃ j : Nat, j ≤ 4 ∧ i = .int .i64 (j : Int) ∧ many = .int .i64 (cntL F0.slots j : Int) ∧ Kept (VarA wr w.heap.size F0) ∧ Kept (Below w.heap.size w wr)) (fun _ i _ => 4 - (intOf i).toNat)
      case atStart => exact ⟨0, by omega, rfl, rfl, Va, hB⟩
      case round =>
        clear Va hB
        obtain ⟨j, hj, rfl, rfl, Va, hB⟩ := hrel
        have hcj := cnt_le F0.slots j
        by_cases hlt : j < 4
        · skip
          have hj4 : j = 0 ∨ j = 1 ∨ j = 2 ∨ j = 3 := by omega
          have hc32 : cntL F0.slots j ≤ 32 := by have : j * F0.slots.length ≤ 4 * 8 := Nat.mul_le_mul (by omega) hlen8; omega
          have HLK := Kept.mk (in_bucket OA.out hlt)
          have HCN := Kept.mk (show cntL F0.slots (j + 1) = cntL F0.slots j + (onlyK j F0.slots).length from rfl)
          have hlk : (onlyK j F0.slots).length ≤ 8 := by have := List.length_filter_le (fun e => decide (bkE e = j)) F0.slots; unfold onlyK; omega
          have FLK := Kept.mk (show ∀ e ∈ onlyK j F0.slots, okE e = true from fun e he => OA.out.ents e (List.mem_filter.1 he).1)
          have HBK := Kept.mk (show ∀ (i : Nat) (X : En), (onlyK j F0.slots)[i]? = some X → bkE X = j from fun i X h => only_bk h)
          generalize cntL F0.slots j = cj at *
          generalize onlyK j F0.slots = L at *
          obtain ⟨qa, ra, xa, sa, ia, ka0, ka1, ka2⟩ := Va.out.open_
          have Xa := Kept.mk xa
          clear xa sa ia hcj hlt
          rcases hj4 with rfl | rfl | rfl | rfl
          · skip
            go_wp2_with fail
            refine (gd_in F0 1 100 L _ _ Xa.out FFa.out HLK.out).mono ?_
            rintro e W1 ⟨u, rfl, hu, hb1⟩
            replace hB := Kept.mk (hB.out.trans (hb1.mono hB.out.size))
            replace Va := Kept.mk (Va.out.keep hb1)
            clear hb1 ka0 ka1 ka2 Xa
            have HU := Kept.mk hu
            obtain ⟨ua, uc, rfl⟩ := hu.len
            clear hu
            generalize hN : L.length = n at *
            have HN := Kept.mk hN
            clear hN
            go_wp2
            go_loopw [13] (fun i wi => ∃ q : Nat, q ≤ n ∧ i = .int .i64 (q : Int) ∧ Kept (isEns L (.slice ua n uc) wi) ∧ Kept (VarA wi w.heap.size F0) ∧ Kept (Below w.heap.size w wi)) (fun i _ => n - (intOf i).toNat)
            case atStart => exact ⟨0, Nat.zero_le _, rfl, HU, Va, hB⟩
            case round =>
              clear HU Va hB
              obtain ⟨q, hq, rfl, HU, Va, hB⟩ := hrel
              by_cases hlt : q < n
              · skip
                have hlt' : (q : Int) < (n : Int) := by omega
                obtain ⟨X, hX⟩ : ∃ X, L[q]? = some X := ⟨_, List.getElem?_eq_getElem (by rw [HN.out]; exact hlt)⟩
                have hbx := HBK.out q X hX
                have hokX := FLK.out X (List.mem_of_getElem? hX)
                obtain ⟨bs, os, cs', ea, hbs, xp, xm, hxc, hxp, hxm⟩ := HU.out.get hX
                rw [HN.out] at ea
                injection ea with ea1 ea2 ea3
                clear ea2
                subst ea1 ea3
                have HXC := Kept.mk hxc
                have HKL := Kept.mk (show X.key.length ≤ 1000 by have := okE_key hokX; omega)
                have HBX := Kept.mk hbx
                clear hxc hxp hxm hX hokX hbx
                go_wp2_with fail
                refine din17_region _ _ _ rfl n q 0 bs os uc xp xm X rfl rfl rfl hlt hbs HXC.out HKL.out HBX.out ?_
                intro f9 W9 d65 hb9
                simp only [List.foldl_cons, List.foldl_nil, d65]
                generalize f9 52 = y52
                generalize f9 53 = y53
                generalize f9 54 = y54
                generalize f9 55 = y55
                generalize f9 56 = y56
                generalize f9 57 = y57
                generalize f9 58 = y58
                generalize f9 59 = y59
                generalize f9 60 = y60
                generalize f9 61 = y61
                generalize f9 62 = y62
                generalize f9 63 = y63
                generalize f9 64 = y64
                clear d65
                simp only [List.setIfInBounds_toArray, List.set_cons_succ, List.set_cons_zero]
                have HU9 := Kept.mk (stable_ens _ _ _ _ HU.out hb9)
                have Va9 := Kept.mk (Va.out.keep hb9)
                have hB9 := Kept.mk (hB.out.trans (hb9.mono hB.out.size))
                clear hb9 HU Va hB HXC hbs
                go_wp2
                go_roundw
                case rel => exact ⟨q + 1, by omega, by go_num, HU9, Va9, hB9⟩
                case measure => simp [intOf]; omega
              · skip
                have hlt' : ¬ (q : Int) < (n : Int) := by omega
                go_wp2
                go_roundw
                case rel => exact ⟨1, by omega, by go_num, by rw [show cntL F0.slots 1 = _ from HCN.out]; go_num, Va, hB⟩
                case measure => simp [intOf]
          · skip
            go_wp2_with fail
            refine (gd_in F0 2 100 L _ _ Xa.out FFa.out HLK.out).mono ?_
            rintro e W1 ⟨u, rfl, hu, hb1⟩
            replace hB := Kept.mk (hB.out.trans (hb1.mono hB.out.size))
            replace Va := Kept.mk (Va.out.keep hb1)
            clear hb1 ka0 ka1 ka2 Xa
            have HU := Kept.mk hu
            obtain ⟨ua, uc, rfl⟩ := hu.len
            clear hu
            generalize hN : L.length = n at *
            have HN := Kept.mk hN
            clear hN
            go_wp2
            go_loopw [13] (fun i wi => ∃ q : Nat, q ≤ n ∧ i = .int .i64 (q : Int) ∧ Kept (isEns L (.slice ua n uc) wi) ∧ Kept (VarA wi w.heap.size F0) ∧ Kept (Below w.heap.size w wi)) (fun i _ => n - (intOf i).toNat)
            case atStart => exact ⟨0, Nat.zero_le _, rfl, HU, Va, hB⟩
            case round =>
              clear HU Va hB
              obtain ⟨q, hq, rfl, HU, Va, hB⟩ := hrel
              by_cases hlt : q < n
              · skip
                have hlt' : (q : Int) < (n : Int) := by omega
                obtain ⟨X, hX⟩ : ∃ X, L[q]? = some X := ⟨_, List.getElem?_eq_getElem (by rw [HN.out]; exact hlt)⟩
                have hbx := HBK.out q X hX
                have hokX := FLK.out X (List.mem_of_getElem? hX)
                obtain ⟨bs, os, cs', ea, hbs, xp, xm, hxc, hxp, hxm⟩ := HU.out.get hX
                rw [HN.out] at ea
                injection ea with ea1 ea2 ea3
                clear ea2
                subst ea1 ea3
                have HXC := Kept.mk hxc
                have HKL := Kept.mk (show X.key.length ≤ 1000 by have := okE_key hokX; omega)
                have HBX := Kept.mk hbx
                clear hxc hxp hxm hX hokX hbx
                go_wp2_with fail
                refine din17_region _ _ _ rfl n q 1 bs os uc xp xm X rfl rfl rfl hlt hbs HXC.out HKL.out HBX.out ?_
                intro f9 W9 d65 hb9
                simp only [List.foldl_cons, List.foldl_nil, d65]
                generalize f9 52 = y52
                generalize f9 53 = y53
                generalize f9 54 = y54
                generalize f9 55 = y55
                generalize f9 56 = y56
                generalize f9 57 = y57
                generalize f9 58 = y58
                generalize f9 59 = y59
                generalize f9 60 = y60
                generalize f9 61 = y61
                generalize f9 62 = y62
                generalize f9 63 = y63
                generalize f9 64 = y64
                clear d65
                simp only [List.setIfInBounds_toArray, List.set_cons_succ, List.set_cons_zero]
                have HU9 := Kept.mk (stable_ens _ _ _ _ HU.out hb9)
                have Va9 := Kept.mk (Va.out.keep hb9)
                have hB9 := Kept.mk (hB.out.trans (hb9.mono hB.out.size))
                clear hb9 HU Va hB HXC hbs
                go_wp2
                go_roundw
                case rel => exact ⟨q + 1, by omega, by go_num, HU9, Va9, hB9⟩
                case measure => simp [intOf]; omega
              · skip
                have hlt' : ¬ (q : Int) < (n : Int) := by omega
                go_wp2
                go_roundw
                case rel => exact ⟨2, by omega, by go_num, by rw [show cntL F0.slots 2 = _ from HCN.out]; go_num, Va, hB⟩
                case measure => simp [intOf]
          · skip
            go_wp2_with fail
            refine (gd_in F0 4 100 L _ _ Xa.out FFa.out HLK.out).mono ?_
            rintro e W1 ⟨u, rfl, hu, hb1⟩
            replace hB := Kept.mk (hB.out.trans (hb1.mono hB.out.size))
            replace Va := Kept.mk (Va.out.keep hb1)
            clear hb1 ka0 ka1 ka2 Xa
            have HU := Kept.mk hu
            obtain ⟨ua, uc, rfl⟩ := hu.len
            clear hu
            generalize hN : L.length = n at *
            have HN := Kept.mk hN
            clear hN
            go_wp2
            go_loopw [13] (fun i wi => ∃ q : Nat, q ≤ n ∧ i = .int .i64 (q : Int) ∧ Kept (isEns L (.slice ua n uc) wi) ∧ Kept (VarA wi w.heap.size F0) ∧ Kept (Below w.heap.size w wi)) (fun i _ => n - (intOf i).toNat)
            case atStart => exact ⟨0, Nat.zero_le _, rfl, HU, Va, hB⟩
            case round =>
              clear HU Va hB
              obtain ⟨q, hq, rfl, HU, Va, hB⟩ := hrel
              by_cases hlt : q < n
              · skip
                have hlt' : (q : Int) < (n : Int) := by omega
                obtain ⟨X, hX⟩ : ∃ X, L[q]? = some X := ⟨_, List.getElem?_eq_getElem (by rw [HN.out]; exact hlt)⟩
                have hbx := HBK.out q X hX
                have hokX := FLK.out X (List.mem_of_getElem? hX)
                obtain ⟨bs, os, cs', ea, hbs, xp, xm, hxc, hxp, hxm⟩ := HU.out.get hX
                rw [HN.out] at ea
                injection ea with ea1 ea2 ea3
                clear ea2
                subst ea1 ea3
                have HXC := Kept.mk hxc
                have HKL := Kept.mk (show X.key.length ≤ 1000 by have := okE_key hokX; omega)
                have HBX := Kept.mk hbx
                clear hxc hxp hxm hX hokX hbx
                go_wp2_with fail
                refine din17_region _ _ _ rfl n q 2 bs os uc xp xm X rfl rfl rfl hlt hbs HXC.out HKL.out HBX.out ?_
                intro f9 W9 d65 hb9
                simp only [List.foldl_cons, List.foldl_nil, d65]
                generalize f9 52 = y52
                generalize f9 53 = y53
                generalize f9 54 = y54
                generalize f9 55 = y55
                generalize f9 56 = y56
                generalize f9 57 = y57
                generalize f9 58 = y58
                generalize f9 59 = y59
                generalize f9 60 = y60
                generalize f9 61 = y61
                generalize f9 62 = y62
                generalize f9 63 = y63
                generalize f9 64 = y64
                clear d65
                simp only [List.setIfInBounds_toArray, List.set_cons_succ, List.set_cons_zero]
                have HU9 := Kept.mk (stable_ens _ _ _ _ HU.out hb9)
                have Va9 := Kept.mk (Va.out.keep hb9)
                have hB9 := Kept.mk (hB.out.trans (hb9.mono hB.out.size))
                clear hb9 HU Va hB HXC hbs
                go_wp2
                go_roundw
                case rel => exact ⟨q + 1, by omega, by go_num, HU9, Va9, hB9⟩
                case measure => simp [intOf]; omega
              · skip
                have hlt' : ¬ (q : Int) < (n : Int) := by omega
                go_wp2
                go_roundw
                case rel => exact ⟨3, by omega, by go_num, by rw [show cntL F0.slots 3 = _ from HCN.out]; go_num, Va, hB⟩
                case measure => simp [intOf]
          · skip
            go_wp2_with fail
            refine (gd_in F0 8 100 L _ _ Xa.out FFa.out HLK.out).mono ?_
            rintro e W1 ⟨u, rfl, hu, hb1⟩
            replace hB := Kept.mk (hB.out.trans (hb1.mono hB.out.size))
            replace Va := Kept.mk (Va.out.keep hb1)
            clear hb1 ka0 ka1 ka2 Xa
            have HU := Kept.mk hu
            obtain ⟨ua, uc, rfl⟩ := hu.len
            clear hu
            generalize hN : L.length = n at *
            have HN := Kept.mk hN
            clear hN
            go_wp2
            go_loopw [13] (fun i wi => ∃ q : Nat, q ≤ n ∧ i = .int .i64 (q : Int) ∧ Kept (isEns L (.slice ua n uc) wi) ∧ Kept (VarA wi w.heap.size F0) ∧ Kept (Below w.heap.size w wi)) (fun i _ => n - (intOf i).toNat)
            case atStart => exact ⟨0, Nat.zero_le _, rfl, HU, Va, hB⟩
            case round =>
              clear HU Va hB
              obtain ⟨q, hq, rfl, HU, Va, hB⟩ := hrel
              by_cases hlt : q < n
              · skip
                have hlt' : (q : Int) < (n : Int) := by omega
                obtain ⟨X, hX⟩ : ∃ X, L[q]? = some X := ⟨_, List.getElem?_eq_getElem (by rw [HN.out]; exact hlt)⟩
                have hbx := HBK.out q X hX
                have hokX := FLK.out X (List.mem_of_getElem? hX)
                obtain ⟨bs, os, cs', ea, hbs, xp, xm, hxc, hxp, hxm⟩ := HU.out.get hX
                rw [HN.out] at ea
                injection ea with ea1 ea2 ea3
                clear ea2
                subst ea1 ea3
                have HXC := Kept.mk hxc
                have HKL := Kept.mk (show X.key.length ≤ 1000 by have := okE_key hokX; omega)
                have HBX := Kept.mk hbx
                clear hxc hxp hxm hX hokX hbx
                go_wp2_with fail
                refine din17_region _ _ _ rfl n q 3 bs os uc xp xm X rfl rfl rfl hlt hbs HXC.out HKL.out HBX.out ?_
                intro f9 W9 d65 hb9
                simp only [List.foldl_cons, List.foldl_nil, d65]
                generalize f9 52 = y52
                generalize f9 53 = y53
                generalize f9 54 = y54
                generalize f9 55 = y55
                generalize f9 56 = y56
                generalize f9 57 = y57
                generalize f9 58 = y58
                generalize f9 59 = y59
                generalize f9 60 = y60
                generalize f9 61 = y61
                generalize f9 62 = y62
                generalize f9 63 = y63
                generalize f9 64 = y64
                clear d65
                simp only [List.setIfInBounds_toArray, List.set_cons_succ, List.set_cons_zero]
                have HU9 := Kept.mk (stable_ens _ _ _ _ HU.out hb9)
                have Va9 := Kept.mk (Va.out.keep hb9)
                have hB9 := Kept.mk (hB.out.trans (hb9.mono hB.out.size))
                clear hb9 HU Va hB HXC hbs
                go_wp2
                go_roundw
                case rel => exact ⟨q + 1, by omega, by go_num, HU9, Va9, hB9⟩
                case measure => simp [intOf]; omega
              · skip
                have hlt' : ¬ (q : Int) < (n : Int) := by omega
                go_wp2
                go_roundw
                case rel => exact ⟨4, by omega, by go_num, by rw [show cntL F0.slots 4 = _ from HCN.out]; go_num, Va, hB⟩
                case measure => simp [intOf]
        · skip
          obtain rfl : j = 4 := by omega
          have HCA := Kept.mk (cnt_all F0.slots)
          obtain ⟨n, hn⟩ : ∃ n : Nat, (inA F0 a1 a2).length = n := ⟨_, rfl⟩
          have HSM := Kept.mk (show (n : Int) = 0 ∨ (n : Int) ≤ a2 by rw [← hn]; exact in_some F0 a1 a2)
          have HN0 := Kept.mk (in_none (A := F0))
          have HIN := Kept.mk hn
          clear hn hcj hlt
          rw [HCA.out] at *
          obtain ⟨qa, ra, xa, sa, ia, ka0, ka1, ka2⟩ := Va.out.open_
          have Xa := Kept.mk xa
          have Sa := Kept.mk sa
          have Ia := Kept.mk ia
          clear xa sa ia
          go_wp2_with fail
          refine (gd_in F0 a1 a2 _ _ _ Xa.out FFa.out rfl).mono ?_
          rintro e W51 ⟨u, rfl, hu, hb1⟩
          clear Xa Sa Ia ka0 ka1 ka2
          replace hB := Kept.mk (hB.out.trans ((hb1).mono hB.out.size))
          replace Va := Kept.mk (Va.out.keep (hb1))
          clear hb1
          obtain ⟨ua, uc, rfl⟩ := hu.len
          clear hu
          rw [HIN.out]
          obtain ⟨qa, ra, xa, sa, ia, ka0, ka1, ka2⟩ := Va.out.open_
          have Xa := Kept.mk xa
          have Sa := Kept.mk sa
          have Ia := Kept.mk ia
          clear xa sa ia
          obtain ⟨sba, sca, rfl⟩ := Sa.out.len
          generalize hN8 : F0.slots.length = N at *
          clear hN8
          have hsm := HSM.out
          by_cases hn0 : (n : Int) = 0
          · skip
            go_wp2_with fail
            refine (gd_in F0 0 100 _ _ _ Xa.out FFa.out HN0.out).mono ?_
            rintro e W52 ⟨u, rfl, hu, hb1⟩
            replace hB := Kept.mk (hB.out.trans (hb1.mono hB.out.size))
            clear hb1
            obtain ⟨va, vc, rfl⟩ := hu.len
            clear hu
            go_wp2
            all_goals go_ret
            all_goals exact ⟨rfl, hB.out⟩
          · skip
            have hle : (n : Int) ≤ a2 := by omega
            go_wp2_with fail
            refine (gd_in F0 0 100 _ _ _ Xa.out FFa.out HN0.out).mono ?_
            rintro e W52 ⟨u, rfl, hu, hb1⟩
            replace hB := Kept.mk (hB.out.trans (hb1.mono hB.out.size))
            clear hb1
            obtain ⟨va, vc, rfl⟩ := hu.len
            clear hu
            go_wp2
            all_goals go_ret
            all_goals exact ⟨rfl, hB.out⟩
set_option maxRecDepth 100000 in
theorem digestIn_lifted (os : Os) (started : os.Started) (H : Type) (enc : TypeId × Value → H) :
    ReturnsInHanded {} Tryz.checked os 7 .any (Rows.digestInSpec.pre6 enc Tryz.prog Tryz.f7 Rows.digestInRow.domain false) (Rows.digestInSpec.post enc Tryz.prog Tryz.f7 false true false false) := by
  refine returnsInHanded_of_change (C := Tryz.checked) (by kernel_rfl : ownKnob Tryz.prog.godebug = none) started (by kernel_rfl) Tryz.func7
    (ChangeSpec.witness6 (enc := enc) (C := Tryz.checked) false ⟨#[], #[.agg #[.int .i64 0, .slice none 0 0, .slice none 0 0], .int .i64 0, .int .i64 0], []⟩ 8 (by kernel_rfl) (by kernel_rfl) (by kernel_rfl) (by kernel_rfl)) ?_
  intro W base args ds gs before hval0 hW hcnd _
  have hval : ∀ (j : Nat) t v, Tryz.f7.params[j]? = some t → args[j]? = some v → Value.okWide Tryz.prog W .any base t v := hval0
  have hW' := hW
  obtain ⟨p, q, hA0, hV, rfl, hfz, hnd⟩ := hW
  have hA : DataW.TrodAll enc Tryz.prog W 0 (fun _ => true) true Tryz.f7.params.toList args.toList ds p := hA0
  rw [Tryz.params7] at hA hval
  obtain ⟨v0, vs0, d0, ds0, p0, q0, hargs, rfl, rfl, h0, r0⟩ := trodAll_cons hA
  obtain ⟨v1, vs1, d1, ds1, p1, q1, rfl, rfl, rfl, h1, r1⟩ := trodAll_cons r0
  obtain ⟨v2, vs2, d2, ds2, p2, q2, rfl, rfl, rfl, h2, r2⟩ := trodAll_cons r1
  obtain ⟨rfl, rfl, rfl⟩ := trodAll_nil r2
  obtain rfl : args = #[v0, v1, v2] := by cases args; simp_all
  obtain ⟨rfl, rfl⟩ := trodVars_none hV
  obtain ⟨F0, fl0, w0⟩ := open_ar (hval 0 25 v0 rfl rfl) h0
  have lt0 : ∀ x ∈ p0, x.block < W.heap.size := fun x hx => by obtain ⟨fuel, hf⟩ := h0; exact DataW.trod_lt fuel _ _ _ hf x hx
  obtain ⟨a1, rfl, rfl, rfl, w1⟩ := open_int Tryz.underlying3 (hval 1 3 v1 rfl rfl) h1
  obtain ⟨a2, rfl, rfl, rfl, w2⟩ := open_int Tryz.underlying3 (hval 2 3 v2 rfl rfl) h2
  clear hA0 hval0
  simp only [List.append_nil] at hW'
  refine (digestIn_walk F0 v0 a1 a2 w0 w1 w2 W fl0).mono fun e W' ⟨he, bel⟩ => ?_
  subst he
  exact ⟨_, rfl, _, _, _, [], _, [], hW', trodAll_mk1 (shut_bool Tryz.underlying4 _), (trodAll_cons_mk (Below.trod (by kernel_rfl) (by kernel_rfl) (of_decide_eq_true (by kernel_rfl)) h0 bel lt0) (trodAll_cons_mk (shut_int Tryz.underlying3 w1) (trodAll_cons_mk (shut_int Tryz.underlying3 w2) trodAll_mk0))), rfl, bel.frame _, fun h => by cases h⟩
/-- THE STATEMENT. -/
theorem digestIn_proved : Rows.DigestInSaid :=
  OpenClaim.holds_of_wide 7 Tryz.f7 rfl rfl rfl rfl rfl rfl rfl ⟨rfl, rfl, rfl, rfl, rfl⟩ rfl rfl rfl rfl rfl (by kernel_rfl) Tryz.func7 (by kernel_rfl)
    (of_decide_eq_true (by kernel_rfl)) (by unfold Func.isWrapper; first | (rw [if_pos (by decide +kernel)]; kernel_rfl) | (rw [if_neg (by decide +kernel)]; exact ⟨rfl, rfl⟩))
    (fun os started H enc _ => digestIn_lifted os started H enc)
#print axioms digestIn_proved
end Go.Proofs.YtkjghoomdefbbaaGreatDoor
