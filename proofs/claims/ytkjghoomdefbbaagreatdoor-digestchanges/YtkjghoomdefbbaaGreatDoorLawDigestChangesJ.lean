/- An entry that is new changes the sum of its bucket, unless its own sum is nought; what changes nothing changes none; and no other bucket's is changed (arena.Join, Find; digest.Sums, Differ, Bucket; entry.Put; crc.Sum). -/
import Derived.Test.YtkjghoomdefbbaaGreatDoorPartG
import Derived.SizedLaws
import Derived.ProofKit
import Derived.OpenShut
import Derived.ShutString
import Derived.ChangeOld
import Derived.Below
namespace Go.Proofs.YtkjghoomdefbbaaGreatDoor
open Go.RowKit
open Go.ChangeShapes Go.WideShapes Go.ChangeAt Go.RowKit
open Go.ChangeMaps (open_string shut_string)
set_option linter.unusedVariables false
set_option linter.unusedSimpArgs false
attribute [local irreducible] setN

theorem dcall_v {f : FuncId} {vs : Array Value} {w : World} {r : Value} (h : Calls Tryz.prog f vs w fun e w' => e = .returned r ∧ Below w.heap.size w w') : Calls Tryz.prog f vs w fun e w' => ∃ x, e = .returned x ∧ isVal r x w' ∧ Below w.heap.size w w' := h.mono (by rintro e w' ⟨rfl, hb⟩; exact ⟨_, rfl, rfl, hb⟩)
theorem refAll_selfD (l : List En) (v u : Value) (w : World) (hv : isEns l v w) (hu : isEns l u w) (hl : l.length ≤ 1000) (fl : ∀ e ∈ l, FitE e) : Calls Tryz.prog 14 #[v, u] w fun e w' => e = .returned (.bool true) ∧ Below w.heap.size w w' := by
  have h := refAll_any l l v u w hv hu hl hl fl fl
  rwa [show decide (l = l) = true by simp] at h
theorem gd_in (A : Ar) (m n : Int) (L : List En) (v : Value) (w : World) (hv : isAr A v w) (hF : FitA A) (hL : inA A m n = L) : Calls Tryz.prog 15 #[v, .int .i64 m, .int .i64 n] w fun e w' => ∃ x, e = .returned x ∧ isEns L x w' ∧ Below w.heap.size w w' := by subst hL; exact in_any A m n v w hv hF
theorem inA_fit {A : Ar} (hF : FitA A) (m n : Int) : (inA A m n).length ≤ 1000 ∧ ∀ e ∈ inA A m n, FitE e := by
  have h1 := hF.slots
  have h2 := hF.ents
  unfold inA
  split
  · unfold inL
    refine ⟨?_, fun e he => h2 e (List.mem_filter.1 (List.mem_of_mem_take he)).1⟩
    have := List.length_filter_le (askB m) A.slots
    rw [List.length_take]; omega
  · exact ⟨by decide, fun e he => by cases he⟩
theorem join_zero {A : Ar} {x : En} (h : joinAE A x = 0) : OkA A ∧ okE x = true := by
  unfold joinAE at h
  split at h
  · rename_i h2
    rw [Bool.and_eq_true] at h2
    exact ⟨okA_iff.1 h2.1, h2.2⟩
  · cases h
theorem gd_ejoin (A : Ar) (Y : En) (G : Ar) (b : Bool) (r : Int) (v u : Value) (w : World) (hv : isAr A v w) (hu : isEn Y u w) (hF : FitA A) (hY : FitE Y) (hG : joinAF A Y = G) (hb : joinAB A Y = b) (hr : joinAE A Y = r) : Calls Tryz.prog 29 #[v, u] w fun e w' => ∃ v', e = .returned (.tuple #[v', .bool b, .int .i64 r]) ∧ isAr G v' w' ∧ Below w.heap.size w w' := by
  subst hG hb hr; exact ajoin_any A Y v u w hv hu hF hY
theorem gd_find (A : Ar) (x : En) (p : Int) (v : Value) (w : World) (hv : isAr A v w) (hF : FitA A) (hp : findI A x = p) : Calls Tryz.prog 30 #[v, .int .i64 x.val.kind, .string ⟨x.key.toArray⟩] w fun e w' => e = .returned (.int .i64 p) ∧ Below w.heap.size w w' := by
  subst hp
  have h := find_any A x.val.kind x.key v w hv hF
  rwa [find_nameE A x] at h
theorem gd_eput (E : En) (q : List UInt8) (v : Value) (w : World) (hv : isEn E v w) (hF : FitE E) (hok : okE E = true) (hq : putEn E = q) : Calls Tryz.prog 31 #[v] w fun e w' => e = .returned (.tuple #[.string ⟨q.toArray⟩, .int .i64 0]) ∧ Below w.heap.size w w' := by
  have h := eput_any E v w hv hF
  rwa [show putF E = q by unfold putF; rw [if_pos hok, hq], show chkE E = 0 by unfold chkE; rw [if_pos hok]] at h
theorem gd_crc (q : List UInt8) (c : Nat) (w : World) (hl : q.length ≤ 1024) (hc : crcN q = c) : Calls Tryz.prog 32 #[.string ⟨q.toArray⟩] w fun e w' => e = .returned (.int .i64 (c : Int)) ∧ Below w.heap.size w w' := by
  subst hc; exact (sum_any q w hl).mono (by rintro e w' ⟨rfl, rfl⟩; exact ⟨rfl, Below.refl _ _⟩)
/-- Where sums differ in one place at most. -/
theorem dmk_one {a b : Nat → Nat} {k : Nat} (hk : k < 4) (h : ∀ j, j ≠ k → a j = b j) : dmk (a 0) (a 1) (a 2) (a 3) (b 0) (b 1) (b 2) (b 3) 4 = if a k = b k then 0 else 2 ^ k := by
  have key : ∀ j, j ≠ k → ((a j : Nat) : Int) = ((b j : Nat) : Int) := fun j hj => by rw [h j hj]
  have hz : ∀ (x y : Nat) (p : Nat), d1 (x : Int) (y : Int) p = if x = y then 0 else p := fun x y p => by
    unfold d1
    by_cases e : x = y
    · rw [if_pos (by rw [e]), if_pos e]
    · rw [if_neg (by omega), if_neg e]
  unfold dmk
  rw [hz, hz, hz, hz]
  have h4 : k = 0 ∨ k = 1 ∨ k = 2 ∨ k = 3 := by omega
  rcases h4 with rfl | rfl | rfl | rfl
  · rw [if_pos (h 1 (by decide)), if_pos (h 2 (by decide)), if_pos (h 3 (by decide))]; simp
  · rw [if_pos (h 0 (by decide)), if_pos (h 2 (by decide)), if_pos (h 3 (by decide))]; simp
  · rw [if_pos (h 0 (by decide)), if_pos (h 1 (by decide)), if_pos (h 3 (by decide))]; simp
  · rw [if_pos (h 0 (by decide)), if_pos (h 1 (by decide)), if_pos (h 2 (by decide))]; simp
theorem xor_zero_iff {a b : Nat} : a = a ^^^ b ↔ b = 0 := by
  constructor
  · intro h
    have : a ^^^ a = a ^^^ (a ^^^ b) := by rw [← h]
    rw [Nat.xor_self, ← Nat.xor_assoc, Nat.xor_self, Nat.zero_xor] at this
    exact this.symm
  · intro h; rw [h, Nat.xor_zero]
/-- All that joining tells of the mask. -/
theorem mask_facts {A : Ar} {x : En} (h0 : joinAE A x = 0) {m : Nat} (hm : dmk (sumA A 0) (sumA A 1) (sumA A 2) (sumA A 3) (sumA (joinAF A x) 0) (sumA (joinAF A x) 1) (sumA (joinAF A x) 2) (sumA (joinAF A x) 3) 4 = m) :
    (joinAB A x = false → m = 0) ∧ (m = 0 ∨ m = 2 ^ bkE x) ∧ (hitB (ordA A) x = false → (m = 0 ↔ sumE x = 0)) := by
  obtain ⟨hA, hx⟩ := join_zero h0
  have hs := fun k => join_sums hA h0 k
  rw [dmk_one (a := sumA A) (b := sumA (joinAF A x)) (bucketN_lt x.val.kind x.key) (fun j hj => ((hs j).2.1 (fun e => hj e.symm)).symm)] at hm
  have hbk : bucketN x.val.kind x.key = bkE x := rfl
  rw [hbk] at hm
  have hp : 2 ^ bkE x ≠ 0 := by have := Nat.two_pow_pos (bkE x); omega
  subst hm
  refine ⟨fun hf => by rw [if_pos ((hs _).1 hf).symm], ?_, fun hh => ?_⟩
  · split
    · exact .inl rfl
    · exact .inr rfl
  · rw [((hs 0).2.2.1 hh).2.2]
    by_cases e : sumE x = 0
    · rw [if_pos (xor_zero_iff.2 e)]; simp [e]
    · rw [if_neg (fun h => e (xor_zero_iff.1 h))]; simp [e, hp]
theorem find_hitN {A : Ar} (h : OkA A) {x : En} (hh : hitB (ordA A) x = true) : ∃ p : Nat, findI A x = (p : Int) ∧ p < A.slots.length ∧ A.slots[p]? = some (slotOf A x) := by
  have h1 := (place_spec h hh).1
  have h2 := (slot_spec h hh).2.2.2
  exact ⟨(placeI A x).toNat, by rw [find_hit h hh]; omega, by omega, h2⟩
noncomputable def dch10Ops : Array Oper := regionOf Tryz.f6 10
set_option maxRecDepth 100000 in
set_option maxHeartbeats 2000000 in
theorem dch10_region (Q : Exit → Act → World → Prop) (a0 : Act) (w0 : World) (hsz : a0.tmps.size = 101) (ga gb mm : Nat) (A B : Ar) (va ia vb ib : Value) (s0 s1 s2 s3 t0 t1 t2 t3 : Int) (HA : CellsN w0 ga [.int .i64 A.cap, va, ia]) (HB : CellsN w0 gb [.int .i64 B.cap, vb, ib]) (XA : isAr A (.agg #[.int .i64 A.cap, va, ia]) w0) (XB : isAr B (.agg #[.int .i64 B.cap, vb, ib]) w0) (hFA : FitA A) (hFB : FitA B) (hsA : sumsV A = .agg #[.int .i64 s0, .int .i64 s1, .int .i64 s2, .int .i64 s3]) (hsB : sumsV B = .agg #[.int .i64 t0, .int .i64 t1, .int .i64 t2, .int .i64 t3]) (hmm : dmk s0 s1 s2 s3 t0 t1 t2 t3 4 = mm) (e2 : a0.tmps.getD 2 undef = .pointer (some ⟨ga, 0, none⟩)) (e7 : a0.tmps.getD 7 undef = .pointer (some ⟨gb, 0, none⟩))
    (hQ : ∀ (g : Nat → Value) (w : World), g 10 = .int .i64 (mm : Int) → Below w0.heap.size w0 w → Q .normal { tmps := [38, 39, 40, 41, 42, 10].foldl (fun t s => t.setIfInBounds s (g s)) a0.tmps, defers := a0.defers } w) :
    (Code.region 10 dch10Ops true).wp Tryz.prog Q a0 w0 := by
  refine wp_region_flow mixed (by rw [hsz]; kernel_rfl) ?_
  rw [show dch10Ops.size = 6 by kernel_rfl]
  refine ⟨isVal (.agg #[.int .i64 A.cap, va, ia]), step_loadN 25 (.tmp 2) (ga) [.int .i64 A.cap, va, ia] (by kernel_rfl) (wanted_none (by kernel_rfl)) (knows_old 2 (.pointer (some ⟨ga, 0, none⟩)) (by kernel_rfl) e2) size_ar agg_ar (HA), ?_⟩
  refine ⟨isVal (.agg #[.int .i64 s0, .int .i64 s1, .int .i64 s2, .int .i64 s3]), step_call 18 #[.tmp 38] #[25] #[.agg #[.int .i64 A.cap, va, ia]] (by kernel_rfl) (wanted_none (by kernel_rfl)) (stable_val _) (args1 (.tmp 38) (.agg #[.int .i64 A.cap, va, ia]) (knows_new (V := isVal (.agg #[.int .i64 A.cap, va, ia])) 38 0 (by kernel_rfl) (by kernel_rfl) (by kernel_rfl))) (enters_of Tryz.func18 (by kernel_rfl) rfl) (by intro w' hb; exact dcall_v (gd_sums A s0 s1 s2 s3 _ w' (stable_ar _ _ _ _ XA hb) hFA hsA)), ?_⟩
  refine ⟨isVal (.agg #[.int .i64 B.cap, vb, ib]), step_loadN 25 (.tmp 7) (gb) [.int .i64 B.cap, vb, ib] (by kernel_rfl) (wanted_none (by kernel_rfl)) (knows_old 7 (.pointer (some ⟨gb, 0, none⟩)) (by kernel_rfl) e7) size_ar agg_ar (HB), ?_⟩
  refine ⟨isVal (.agg #[.int .i64 t0, .int .i64 t1, .int .i64 t2, .int .i64 t3]), step_call 18 #[.tmp 40] #[25] #[.agg #[.int .i64 B.cap, vb, ib]] (by kernel_rfl) (wanted_none (by kernel_rfl)) (stable_val _) (args1 (.tmp 40) (.agg #[.int .i64 B.cap, vb, ib]) (knows_new (V := isVal (.agg #[.int .i64 B.cap, vb, ib])) 40 2 (by kernel_rfl) (by kernel_rfl) (by kernel_rfl))) (enters_of Tryz.func18 (by kernel_rfl) rfl) (by intro w' hb; exact dcall_v (gd_sums B t0 t1 t2 t3 _ w' (stable_ar _ _ _ _ XB hb) hFB hsB)), ?_⟩
  refine ⟨isVal (.int .i64 (mm : Int)), step_call 19 #[.tmp 39, .tmp 41] #[26, 26] #[.agg #[.int .i64 s0, .int .i64 s1, .int .i64 s2, .int .i64 s3], .agg #[.int .i64 t0, .int .i64 t1, .int .i64 t2, .int .i64 t3]] (by kernel_rfl) (wanted_none (by kernel_rfl)) (stable_val _) (args2 (.tmp 39) (.tmp 41) (.agg #[.int .i64 s0, .int .i64 s1, .int .i64 s2, .int .i64 s3]) (.agg #[.int .i64 t0, .int .i64 t1, .int .i64 t2, .int .i64 t3]) (knows_new (V := isVal (.agg #[.int .i64 s0, .int .i64 s1, .int .i64 s2, .int .i64 s3])) 39 1 (by kernel_rfl) (by kernel_rfl) (by kernel_rfl)) (knows_new (V := isVal (.agg #[.int .i64 t0, .int .i64 t1, .int .i64 t2, .int .i64 t3])) 41 3 (by kernel_rfl) (by kernel_rfl) (by kernel_rfl))) (enters_of Tryz.func19 (by kernel_rfl) rfl) (by intro w' hb; exact dcall_v (gd_differ s0 s1 s2 s3 t0 t1 t2 t3 mm w' hmm)), ?_⟩
  refine ⟨isVal (.int .i64 (mm : Int)), step_assign (.tmp 42) (by kernel_rfl) (wanted_none (by kernel_rfl)) (stable_val _) (knows_new (V := isVal (.int .i64 (mm : Int))) 42 4 (by kernel_rfl) (by kernel_rfl) (by kernel_rfl)), ?_⟩
  intro a w hkp hb hd
  rw [kept_of hkp [some 38, some 39, some 40, some 41, some 42, some 10] [38, 39, 40, 41, 42, 10] (by kernel_rfl) (by decide)]
  have d10 := fdone_of (hd 5 (by rw [show dch10Ops.size = 6 by kernel_rfl]; decide)) (t := 10) (V := isVal (.int .i64 (mm : Int))) (by kernel_rfl) (by kernel_rfl)
  exact hQ (fun s => a.tmps.getD s undef) w d10 hb
set_option maxRecDepth 100000 in
set_option maxHeartbeats 4000000 in
theorem digestChanges_walk (F0 : Ar) (v0 : Value) (F1 : En) (v1 : Value) (w0 : CameA F0) (w1 : CameE F1) (w : World) (fl0 : isAr F0 v0 w) (fl1 : isEn F1 v1 w) :
    Calls Tryz.prog 6 #[v0, v1] w fun e w' => e = .returned (.bool true) ∧ Below w.heap.size w w' := by
  obtain ⟨pa, ma, rfl, hpa, hma⟩ := fl0
  obtain ⟨hB, Va⟩ := abox w F0 pa ma hpa hma (w.heap.size) (by simp)
  clear hpa hma
  obtain ⟨px, mx, rfl, hpx, hmx⟩ := fl1
  obtain ⟨hBn, Vx⟩ := ebox (w.alloc (.cells #[.int .i64 F0.cap, pa, ma] 25)) F1 px mx (stable_cells _ _ _ _ hpx hB.out) (stable_cells _ _ _ _ hmx hB.out) (w.heap.size + 1) (by simp)
  clear hpx hmx
  replace Va := Kept.mk (Va.out.keep hBn.out)
  replace hB := Kept.mk (hB.out.trans (hBn.out.mono hB.out.size))
  clear hBn
  go_enter Tryz.func6, Tryz.ntmps6
  go_wp2_with fail
  generalize ((w.alloc (.cells #[.int .i64 F0.cap, pa, ma] 25)).alloc (.cells #[.string ⟨F1.key.toArray⟩, .int .i64 F1.val.kind, .int .i64 F1.val.time, .int .i64 F1.val.node, .bool F1.val.dead, .string ⟨F1.val.text.toArray⟩, px, mx, .int .u64 (F1.val.flags.toNat : Int)] 48)) = W0 at *
  ((with_reducible refine (dgworks_any _).mono ?_); rintro e W1 ⟨rfl, hb1⟩)
  replace hB := Kept.mk (hB.out.trans ((hb1).mono hB.out.size))
  replace Va := Kept.mk (Va.out.keep (hb1))
  replace Vx := Kept.mk (Vx.out.keep (hb1))
  clear hb1
  obtain ⟨qa, ra, xa, sa, ia, ka0, ka1, ka2⟩ := Va.out.open_
  have Xa := Kept.mk xa
  have Sa := Kept.mk sa
  have Ia := Kept.mk ia
  clear xa sa ia
  go_wp2_with fail
  ((with_reducible refine (afew_any F0 _ _ Xa.out (CameA.keys w0) w0.slots w0.index).mono ?_); rintro e W2 ⟨rfl, hb1⟩)
  clear Xa Sa Ia ka0 ka1 ka2
  replace hB := Kept.mk (hB.out.trans ((hb1).mono hB.out.size))
  replace Va := Kept.mk (Va.out.keep (hb1))
  replace Vx := Kept.mk (Vx.out.keep (hb1))
  clear hb1
  cases fa : fewA F0 with
  | false =>
    go_wp2
    all_goals go_ret
    all_goals exact ⟨rfl, hB.out⟩
  | true =>
    have FFa := Kept.mk (fewA_fit fa)
    have KFa := Kept.mk fa
    clear fa
    obtain ⟨qx, rx, xx, yx, kx0, kx1, kx2, kx3, kx4, kx5, kx6, kx7, kx8⟩ := Vx.out.open_
    have Xx := Kept.mk xx
    have Yx := Kept.mk yx
    clear xx yx
    go_wp2_with fail
    ((with_reducible refine (efew_any F1 _ _ Xx.out w1.key).mono ?_); rintro e W3 ⟨rfl, hb1⟩)
    clear Xx Yx kx0 kx1 kx2 kx3 kx4 kx5 kx6 kx7 kx8
    replace hB := Kept.mk (hB.out.trans ((hb1).mono hB.out.size))
    replace Va := Kept.mk (Va.out.keep (hb1))
    replace Vx := Kept.mk (Vx.out.keep (hb1))
    clear hb1
    cases fx : fewE F1 with
    | false =>
      go_wp2
      all_goals go_ret
      all_goals exact ⟨rfl, hB.out⟩
    | true =>
      have FFx := Kept.mk (fewE_fit fx)
      have KFx := Kept.mk fx
      clear fx
      obtain ⟨qa, ra, xa, sa, ia, ka0, ka1, ka2⟩ := Va.out.open_
      have Xa := Kept.mk xa
      have Sa := Kept.mk sa
      have Ia := Kept.mk ia
      clear xa sa ia
      obtain ⟨qx, rx, xx, yx, kx0, kx1, kx2, kx3, kx4, kx5, kx6, kx7, kx8⟩ := Vx.out.open_
      have Xx := Kept.mk xx
      have Yx := Kept.mk yx
      clear xx yx
      go_wp2_with fail
      obtain ⟨B, hG⟩ : ∃ G, joinAF F0 F1 = G := ⟨_, rfl⟩
      obtain ⟨z, hz⟩ : ∃ z, joinAB F0 F1 = z := ⟨_, rfl⟩
      have HG := Kept.mk hG
      have HZ := Kept.mk hz
      clear hG hz
      by_cases h0 : joinAE F0 F1 = 0
      · skip
        have H0 := Kept.mk h0
        obtain ⟨OA, OX⟩ := join_zero h0
        have FB := Kept.mk (show FitA B by rw [← HG.out]; exact okA_fit (join_okA OA F1))
        obtain ⟨mm, hmm⟩ : ∃ m, dmk (sumA F0 0) (sumA F0 1) (sumA F0 2) (sumA F0 3) (sumA B 0) (sumA B 1) (sumA B 2) (sumA B 3) 4 = m := ⟨_, rfl⟩
        have HMM := Kept.mk hmm
        obtain ⟨m1, m2, m3⟩ := mask_facts h0 (show dmk (sumA F0 0) (sumA F0 1) (sumA F0 2) (sumA F0 3) (sumA (joinAF F0 F1) 0) (sumA (joinAF F0 F1) 1) (sumA (joinAF F0 F1) 2) (sumA (joinAF F0 F1) 3) 4 = mm by rw [HG.out]; exact hmm)
        have hkl : F1.key.length ≤ 1000 := by have := okE_key OX; omega
        have M1 := Kept.mk (show z = false → mm = 0 by rw [← HZ.out]; exact m1)
        have M2 := Kept.mk m2
        have M3 := Kept.mk m3
        have OAK := Kept.mk OA
        have OXK := Kept.mk OX
        clear OA OX hmm m1 m2 m3 h0
        ((with_reducible refine (gd_ejoin F0 F1 B z 0 _ _ _ Xa.out Xx.out FFa.out FFx.out HG.out HZ.out H0.out).mono ?_); rintro e U ⟨v', rfl, ⟨p', m', rfl, hp', hm'⟩, hb1⟩)
        obtain ⟨K1, K2, K3, K4, K5⟩ := anew U B p' m' hp' hm' U.heap.size rfl
        clear hp' hm'
        clear Xa Sa Ia ka0 ka1 ka2
        clear Xx Yx kx0 kx1 kx2 kx3 kx4 kx5 kx6 kx7 kx8
        replace hB := Kept.mk (hB.out.trans ((hb1).mono hB.out.size))
        replace Va := Kept.mk (Va.out.keep (hb1))
        replace Vx := Kept.mk (Vx.out.keep (hb1))
        clear hb1
        go_wp2_with (have hz0 := K1; refine wpList_storeN 25 rfl (.tmp 7) (.tmp 32) rfl U.heap.size [.int .i64 B.cap, p', m'] size_ar rfl rfl K1.out rfl K2.out K5.out ?_; replace hB := Kept.mk (hB.out.trans ((K3.out).mono hB.out.size)); replace Va := Kept.mk (Va.out.keep (K3.out)); replace Vx := Kept.mk (Vx.out.keep (K3.out)); have Vb := Kept.mk K4.out; clear hz0 K1 K2 K3 K4 K5; generalize setN (U.alloc (.cells #[.int .i64 0, .slice none 0 0, .slice none 0 0] 25)) U.heap.size 0 [.int .i64 B.cap, p', m'] = W4 at *; generalize U.heap.size = gb at *)
        obtain ⟨qa, ra, ca, sa, ia⟩ := Va.out
        obtain ⟨qb, rb, cb, sb, ib⟩ := Vb.out
        refine dch10_region _ _ _ rfl w.heap.size gb mm F0 B qa ra qb rb _ _ _ _ _ _ _ _ ca cb ⟨_, _, rfl, sa, ia⟩ ⟨_, _, rfl, sb, ib⟩ FFa.out FB.out rfl rfl HMM.out rfl rfl ?_
        intro f9 W9 d10 hb1
        simp only [List.foldl_cons, List.foldl_nil, d10]
        generalize f9 38 = y38
        generalize f9 39 = y39
        generalize f9 40 = y40
        generalize f9 41 = y41
        generalize f9 42 = y42
        clear d10
        try simp only [List.setIfInBounds_toArray, List.set_cons_succ, List.set_cons_zero]
        clear ca sa ia cb sb ib
        replace hB := Kept.mk (hB.out.trans ((hb1).mono hB.out.size))
        replace Va := Kept.mk (Va.out.keep (hb1))
        replace Vx := Kept.mk (Vx.out.keep (hb1))
        replace Vb := Kept.mk (Vb.out.keep (hb1))
        clear hb1
        obtain ⟨bk, hbk⟩ : ∃ n, bucketN F1.val.kind F1.key = n := ⟨_, rfl⟩
        have HBK := Kept.mk hbk
        have hb4 : bk = 0 ∨ bk = 1 ∨ bk = 2 ∨ bk = 3 := by have := bucketN_lt F1.val.kind F1.key; omega
        have hm2 := M2.out
        rw [show bkE F1 = bk from hbk] at hm2
        obtain ⟨p, hp⟩ : ∃ p, findI F0 F1 = p := ⟨_, rfl⟩
        have HP := Kept.mk hp
        have hz := HZ.out
        clear hbk M2 hp
        obtain ⟨qx, rx, xx, yx, kx0, kx1, kx2, kx3, kx4, kx5, kx6, kx7, kx8⟩ := Vx.out.open_
        have Xx := Kept.mk xx
        have Yx := Kept.mk yx
        clear xx yx
        go_wp2_with fail
        ((with_reducible refine (gd_bucket F1.val.kind F1.key bk _ hkl HBK.out).mono ?_); rintro e W6 ⟨rfl, hb1⟩)
        clear Xx Yx kx0 kx1 kx2 kx3 kx4 kx5 kx6 kx7 kx8
        replace hB := Kept.mk (hB.out.trans ((hb1).mono hB.out.size))
        replace Va := Kept.mk (Va.out.keep (hb1))
        replace Vx := Kept.mk (Vx.out.keep (hb1))
        replace Vb := Kept.mk (Vb.out.keep (hb1))
        clear hb1
        rcases hb4 with rfl | rfl | rfl | rfl
        · skip
          obtain ⟨qa, ra, xa, sa, ia, ka0, ka1, ka2⟩ := Va.out.open_
          have Xa := Kept.mk xa
          have Sa := Kept.mk sa
          have Ia := Kept.mk ia
          clear xa sa ia
          obtain ⟨qx, rx, xx, yx, kx0, kx1, kx2, kx3, kx4, kx5, kx6, kx7, kx8⟩ := Vx.out.open_
          have Xx := Kept.mk xx
          have Yx := Kept.mk yx
          clear xx yx
          go_wp2_with fail
          ((with_reducible refine (gd_find F0 F1 p _ _ Xa.out FFa.out HP.out).mono ?_); rintro e W7 ⟨rfl, hb1⟩)
          clear Xa Sa Ia ka0 ka1 ka2
          clear Xx Yx kx0 kx1 kx2 kx3 kx4 kx5 kx6 kx7 kx8
          replace hB := Kept.mk (hB.out.trans ((hb1).mono hB.out.size))
          replace Va := Kept.mk (Va.out.keep (hb1))
          replace Vx := Kept.mk (Vx.out.keep (hb1))
          replace Vb := Kept.mk (Vb.out.keep (hb1))
          clear hb1
          cases z with
          | false =>
            obtain rfl := M1.out rfl
            go_wp2
            all_goals go_ret
            all_goals exact ⟨rfl, hB.out⟩
          | true =>
            by_cases hpp : 0 ≤ p
            · skip
              rcases hm2 with rfl | rfl
              · skip
                go_wp2
                all_goals go_ret
                all_goals exact ⟨rfl, hB.out⟩
              · skip
                go_wp2
                all_goals go_ret
                all_goals exact ⟨rfl, hB.out⟩
            · skip
              have hh : hitB (ordA F0) F1 = false := by
                cases hq : hitB (ordA F0) F1 with
                | false => rfl
                | true => exact absurd (by obtain ⟨n, h1, _⟩ := find_hitN OAK.out hq; rw [HP.out] at h1; omega) hpp
              have hm3 := M3.out hh
              clear hh
              obtain ⟨c, hc⟩ : ∃ c, crcN (putEn F1) = c := ⟨_, rfl⟩
              rw [show sumE F1 = c from hc] at hm3
              have HCC := Kept.mk hc
              obtain ⟨pe, hpe⟩ : ∃ q, putEn F1 = q := ⟨_, rfl⟩
              have hpl : pe.length ≤ 1024 := by rw [← hpe, length_putEn OXK.out]; decide
              rw [hpe] at HCC
              have HPE := Kept.mk hpe
              clear hc hpe
              rcases hm2 with rfl | rfl
              · skip
                have hc0 : c = 0 := hm3.1 rfl
                subst hc0
                clear hm3
                obtain ⟨qx, rx, xx, yx, kx0, kx1, kx2, kx3, kx4, kx5, kx6, kx7, kx8⟩ := Vx.out.open_
                have Xx := Kept.mk xx
                have Yx := Kept.mk yx
                clear xx yx
                go_wp2_with fail
                ((with_reducible refine (gd_eput F1 pe _ _ Xx.out FFx.out OXK.out HPE.out).mono ?_); rintro e W8 ⟨rfl, hb1⟩)
                clear Xx Yx kx0 kx1 kx2 kx3 kx4 kx5 kx6 kx7 kx8
                replace hB := Kept.mk (hB.out.trans ((hb1).mono hB.out.size))
                replace Va := Kept.mk (Va.out.keep (hb1))
                replace Vx := Kept.mk (Vx.out.keep (hb1))
                replace Vb := Kept.mk (Vb.out.keep (hb1))
                clear hb1
                go_wp2_with fail
                ((with_reducible refine (gd_crc pe 0 _ hpl HCC.out).mono ?_); rintro e W9 ⟨rfl, hb1⟩)
                replace hB := Kept.mk (hB.out.trans ((hb1).mono hB.out.size))
                replace Va := Kept.mk (Va.out.keep (hb1))
                replace Vx := Kept.mk (Vx.out.keep (hb1))
                replace Vb := Kept.mk (Vb.out.keep (hb1))
                clear hb1
                go_wp2
                all_goals go_ret
                all_goals exact ⟨rfl, hB.out⟩
              · skip
                have hc0 : ¬ c = 0 := fun h => absurd (hm3.2 h) (by decide)
                have hcz : ¬ (c : Int) = 0 := by omega
                have hcn : ((c : Int) != 0) = true := by simp; omega
                clear hm3
                obtain ⟨qx, rx, xx, yx, kx0, kx1, kx2, kx3, kx4, kx5, kx6, kx7, kx8⟩ := Vx.out.open_
                have Xx := Kept.mk xx
                have Yx := Kept.mk yx
                clear xx yx
                go_wp2_with fail
                ((with_reducible refine (gd_eput F1 pe _ _ Xx.out FFx.out OXK.out HPE.out).mono ?_); rintro e W8 ⟨rfl, hb1⟩)
                clear Xx Yx kx0 kx1 kx2 kx3 kx4 kx5 kx6 kx7 kx8
                replace hB := Kept.mk (hB.out.trans ((hb1).mono hB.out.size))
                replace Va := Kept.mk (Va.out.keep (hb1))
                replace Vx := Kept.mk (Vx.out.keep (hb1))
                replace Vb := Kept.mk (Vb.out.keep (hb1))
                clear hb1
                go_wp2_with fail
                ((with_reducible refine (gd_crc pe c _ hpl HCC.out).mono ?_); rintro e W9 ⟨rfl, hb1⟩)
                replace hB := Kept.mk (hB.out.trans ((hb1).mono hB.out.size))
                replace Va := Kept.mk (Va.out.keep (hb1))
                replace Vx := Kept.mk (Vx.out.keep (hb1))
                replace Vb := Kept.mk (Vb.out.keep (hb1))
                clear hb1
                go_wp2
                all_goals go_ret
                all_goals exact ⟨rfl, hB.out⟩
        · skip
          obtain ⟨qa, ra, xa, sa, ia, ka0, ka1, ka2⟩ := Va.out.open_
          have Xa := Kept.mk xa
          have Sa := Kept.mk sa
          have Ia := Kept.mk ia
          clear xa sa ia
          obtain ⟨qx, rx, xx, yx, kx0, kx1, kx2, kx3, kx4, kx5, kx6, kx7, kx8⟩ := Vx.out.open_
          have Xx := Kept.mk xx
          have Yx := Kept.mk yx
          clear xx yx
          go_wp2_with fail
          ((with_reducible refine (gd_find F0 F1 p _ _ Xa.out FFa.out HP.out).mono ?_); rintro e W7 ⟨rfl, hb1⟩)
          clear Xa Sa Ia ka0 ka1 ka2
          clear Xx Yx kx0 kx1 kx2 kx3 kx4 kx5 kx6 kx7 kx8
          replace hB := Kept.mk (hB.out.trans ((hb1).mono hB.out.size))
          replace Va := Kept.mk (Va.out.keep (hb1))
          replace Vx := Kept.mk (Vx.out.keep (hb1))
          replace Vb := Kept.mk (Vb.out.keep (hb1))
          clear hb1
          cases z with
          | false =>
            obtain rfl := M1.out rfl
            go_wp2
            all_goals go_ret
            all_goals exact ⟨rfl, hB.out⟩
          | true =>
            by_cases hpp : 0 ≤ p
            · skip
              rcases hm2 with rfl | rfl
              · skip
                go_wp2
                all_goals go_ret
                all_goals exact ⟨rfl, hB.out⟩
              · skip
                go_wp2
                all_goals go_ret
                all_goals exact ⟨rfl, hB.out⟩
            · skip
              have hh : hitB (ordA F0) F1 = false := by
                cases hq : hitB (ordA F0) F1 with
                | false => rfl
                | true => exact absurd (by obtain ⟨n, h1, _⟩ := find_hitN OAK.out hq; rw [HP.out] at h1; omega) hpp
              have hm3 := M3.out hh
              clear hh
              obtain ⟨c, hc⟩ : ∃ c, crcN (putEn F1) = c := ⟨_, rfl⟩
              rw [show sumE F1 = c from hc] at hm3
              have HCC := Kept.mk hc
              obtain ⟨pe, hpe⟩ : ∃ q, putEn F1 = q := ⟨_, rfl⟩
              have hpl : pe.length ≤ 1024 := by rw [← hpe, length_putEn OXK.out]; decide
              rw [hpe] at HCC
              have HPE := Kept.mk hpe
              clear hc hpe
              rcases hm2 with rfl | rfl
              · skip
                have hc0 : c = 0 := hm3.1 rfl
                subst hc0
                clear hm3
                obtain ⟨qx, rx, xx, yx, kx0, kx1, kx2, kx3, kx4, kx5, kx6, kx7, kx8⟩ := Vx.out.open_
                have Xx := Kept.mk xx
                have Yx := Kept.mk yx
                clear xx yx
                go_wp2_with fail
                ((with_reducible refine (gd_eput F1 pe _ _ Xx.out FFx.out OXK.out HPE.out).mono ?_); rintro e W8 ⟨rfl, hb1⟩)
                clear Xx Yx kx0 kx1 kx2 kx3 kx4 kx5 kx6 kx7 kx8
                replace hB := Kept.mk (hB.out.trans ((hb1).mono hB.out.size))
                replace Va := Kept.mk (Va.out.keep (hb1))
                replace Vx := Kept.mk (Vx.out.keep (hb1))
                replace Vb := Kept.mk (Vb.out.keep (hb1))
                clear hb1
                go_wp2_with fail
                ((with_reducible refine (gd_crc pe 0 _ hpl HCC.out).mono ?_); rintro e W9 ⟨rfl, hb1⟩)
                replace hB := Kept.mk (hB.out.trans ((hb1).mono hB.out.size))
                replace Va := Kept.mk (Va.out.keep (hb1))
                replace Vx := Kept.mk (Vx.out.keep (hb1))
                replace Vb := Kept.mk (Vb.out.keep (hb1))
                clear hb1
                go_wp2
                all_goals go_ret
                all_goals exact ⟨rfl, hB.out⟩
              · skip
                have hc0 : ¬ c = 0 := fun h => absurd (hm3.2 h) (by decide)
                have hcz : ¬ (c : Int) = 0 := by omega
                have hcn : ((c : Int) != 0) = true := by simp; omega
                clear hm3
                obtain ⟨qx, rx, xx, yx, kx0, kx1, kx2, kx3, kx4, kx5, kx6, kx7, kx8⟩ := Vx.out.open_
                have Xx := Kept.mk xx
                have Yx := Kept.mk yx
                clear xx yx
                go_wp2_with fail
                ((with_reducible refine (gd_eput F1 pe _ _ Xx.out FFx.out OXK.out HPE.out).mono ?_); rintro e W8 ⟨rfl, hb1⟩)
                clear Xx Yx kx0 kx1 kx2 kx3 kx4 kx5 kx6 kx7 kx8
                replace hB := Kept.mk (hB.out.trans ((hb1).mono hB.out.size))
                replace Va := Kept.mk (Va.out.keep (hb1))
                replace Vx := Kept.mk (Vx.out.keep (hb1))
                replace Vb := Kept.mk (Vb.out.keep (hb1))
                clear hb1
                go_wp2_with fail
                ((with_reducible refine (gd_crc pe c _ hpl HCC.out).mono ?_); rintro e W9 ⟨rfl, hb1⟩)
                replace hB := Kept.mk (hB.out.trans ((hb1).mono hB.out.size))
                replace Va := Kept.mk (Va.out.keep (hb1))
                replace Vx := Kept.mk (Vx.out.keep (hb1))
                replace Vb := Kept.mk (Vb.out.keep (hb1))
                clear hb1
                go_wp2
                all_goals go_ret
                all_goals exact ⟨rfl, hB.out⟩
        · skip
          obtain ⟨qa, ra, xa, sa, ia, ka0, ka1, ka2⟩ := Va.out.open_
          have Xa := Kept.mk xa
          have Sa := Kept.mk sa
          have Ia := Kept.mk ia
          clear xa sa ia
          obtain ⟨qx, rx, xx, yx, kx0, kx1, kx2, kx3, kx4, kx5, kx6, kx7, kx8⟩ := Vx.out.open_
          have Xx := Kept.mk xx
          have Yx := Kept.mk yx
          clear xx yx
          go_wp2_with fail
          ((with_reducible refine (gd_find F0 F1 p _ _ Xa.out FFa.out HP.out).mono ?_); rintro e W7 ⟨rfl, hb1⟩)
          clear Xa Sa Ia ka0 ka1 ka2
          clear Xx Yx kx0 kx1 kx2 kx3 kx4 kx5 kx6 kx7 kx8
          replace hB := Kept.mk (hB.out.trans ((hb1).mono hB.out.size))
          replace Va := Kept.mk (Va.out.keep (hb1))
          replace Vx := Kept.mk (Vx.out.keep (hb1))
          replace Vb := Kept.mk (Vb.out.keep (hb1))
          clear hb1
          cases z with
          | false =>
            obtain rfl := M1.out rfl
            go_wp2
            all_goals go_ret
            all_goals exact ⟨rfl, hB.out⟩
          | true =>
            by_cases hpp : 0 ≤ p
            · skip
              rcases hm2 with rfl | rfl
              · skip
                go_wp2
                all_goals go_ret
                all_goals exact ⟨rfl, hB.out⟩
              · skip
                go_wp2
                all_goals go_ret
                all_goals exact ⟨rfl, hB.out⟩
            · skip
              have hh : hitB (ordA F0) F1 = false := by
                cases hq : hitB (ordA F0) F1 with
                | false => rfl
                | true => exact absurd (by obtain ⟨n, h1, _⟩ := find_hitN OAK.out hq; rw [HP.out] at h1; omega) hpp
              have hm3 := M3.out hh
              clear hh
              obtain ⟨c, hc⟩ : ∃ c, crcN (putEn F1) = c := ⟨_, rfl⟩
              rw [show sumE F1 = c from hc] at hm3
              have HCC := Kept.mk hc
              obtain ⟨pe, hpe⟩ : ∃ q, putEn F1 = q := ⟨_, rfl⟩
              have hpl : pe.length ≤ 1024 := by rw [← hpe, length_putEn OXK.out]; decide
              rw [hpe] at HCC
              have HPE := Kept.mk hpe
              clear hc hpe
              rcases hm2 with rfl | rfl
              · skip
                have hc0 : c = 0 := hm3.1 rfl
                subst hc0
                clear hm3
                obtain ⟨qx, rx, xx, yx, kx0, kx1, kx2, kx3, kx4, kx5, kx6, kx7, kx8⟩ := Vx.out.open_
                have Xx := Kept.mk xx
                have Yx := Kept.mk yx
                clear xx yx
                go_wp2_with fail
                ((with_reducible refine (gd_eput F1 pe _ _ Xx.out FFx.out OXK.out HPE.out).mono ?_); rintro e W8 ⟨rfl, hb1⟩)
                clear Xx Yx kx0 kx1 kx2 kx3 kx4 kx5 kx6 kx7 kx8
                replace hB := Kept.mk (hB.out.trans ((hb1).mono hB.out.size))
                replace Va := Kept.mk (Va.out.keep (hb1))
                replace Vx := Kept.mk (Vx.out.keep (hb1))
                replace Vb := Kept.mk (Vb.out.keep (hb1))
                clear hb1
                go_wp2_with fail
                ((with_reducible refine (gd_crc pe 0 _ hpl HCC.out).mono ?_); rintro e W9 ⟨rfl, hb1⟩)
                replace hB := Kept.mk (hB.out.trans ((hb1).mono hB.out.size))
                replace Va := Kept.mk (Va.out.keep (hb1))
                replace Vx := Kept.mk (Vx.out.keep (hb1))
                replace Vb := Kept.mk (Vb.out.keep (hb1))
                clear hb1
                go_wp2
                all_goals go_ret
                all_goals exact ⟨rfl, hB.out⟩
              · skip
                have hc0 : ¬ c = 0 := fun h => absurd (hm3.2 h) (by decide)
                have hcz : ¬ (c : Int) = 0 := by omega
                have hcn : ((c : Int) != 0) = true := by simp; omega
                clear hm3
                obtain ⟨qx, rx, xx, yx, kx0, kx1, kx2, kx3, kx4, kx5, kx6, kx7, kx8⟩ := Vx.out.open_
                have Xx := Kept.mk xx
                have Yx := Kept.mk yx
                clear xx yx
                go_wp2_with fail
                ((with_reducible refine (gd_eput F1 pe _ _ Xx.out FFx.out OXK.out HPE.out).mono ?_); rintro e W8 ⟨rfl, hb1⟩)
                clear Xx Yx kx0 kx1 kx2 kx3 kx4 kx5 kx6 kx7 kx8
                replace hB := Kept.mk (hB.out.trans ((hb1).mono hB.out.size))
                replace Va := Kept.mk (Va.out.keep (hb1))
                replace Vx := Kept.mk (Vx.out.keep (hb1))
                replace Vb := Kept.mk (Vb.out.keep (hb1))
                clear hb1
                go_wp2_with fail
                ((with_reducible refine (gd_crc pe c _ hpl HCC.out).mono ?_); rintro e W9 ⟨rfl, hb1⟩)
                replace hB := Kept.mk (hB.out.trans ((hb1).mono hB.out.size))
                replace Va := Kept.mk (Va.out.keep (hb1))
                replace Vx := Kept.mk (Vx.out.keep (hb1))
                replace Vb := Kept.mk (Vb.out.keep (hb1))
                clear hb1
                go_wp2
                all_goals go_ret
                all_goals exact ⟨rfl, hB.out⟩
        · skip
          obtain ⟨qa, ra, xa, sa, ia, ka0, ka1, ka2⟩ := Va.out.open_
          have Xa := Kept.mk xa
          have Sa := Kept.mk sa
          have Ia := Kept.mk ia
          clear xa sa ia
          obtain ⟨qx, rx, xx, yx, kx0, kx1, kx2, kx3, kx4, kx5, kx6, kx7, kx8⟩ := Vx.out.open_
          have Xx := Kept.mk xx
          have Yx := Kept.mk yx
          clear xx yx
          go_wp2_with fail
          ((with_reducible refine (gd_find F0 F1 p _ _ Xa.out FFa.out HP.out).mono ?_); rintro e W7 ⟨rfl, hb1⟩)
          clear Xa Sa Ia ka0 ka1 ka2
          clear Xx Yx kx0 kx1 kx2 kx3 kx4 kx5 kx6 kx7 kx8
          replace hB := Kept.mk (hB.out.trans ((hb1).mono hB.out.size))
          replace Va := Kept.mk (Va.out.keep (hb1))
          replace Vx := Kept.mk (Vx.out.keep (hb1))
          replace Vb := Kept.mk (Vb.out.keep (hb1))
          clear hb1
          cases z with
          | false =>
            obtain rfl := M1.out rfl
            go_wp2
            all_goals go_ret
            all_goals exact ⟨rfl, hB.out⟩
          | true =>
            by_cases hpp : 0 ≤ p
            · skip
              rcases hm2 with rfl | rfl
              · skip
                go_wp2
                all_goals go_ret
                all_goals exact ⟨rfl, hB.out⟩
              · skip
                go_wp2
                all_goals go_ret
                all_goals exact ⟨rfl, hB.out⟩
            · skip
              have hh : hitB (ordA F0) F1 = false := by
                cases hq : hitB (ordA F0) F1 with
                | false => rfl
                | true => exact absurd (by obtain ⟨n, h1, _⟩ := find_hitN OAK.out hq; rw [HP.out] at h1; omega) hpp
              have hm3 := M3.out hh
              clear hh
              obtain ⟨c, hc⟩ : ∃ c, crcN (putEn F1) = c := ⟨_, rfl⟩
              rw [show sumE F1 = c from hc] at hm3
              have HCC := Kept.mk hc
              obtain ⟨pe, hpe⟩ : ∃ q, putEn F1 = q := ⟨_, rfl⟩
              have hpl : pe.length ≤ 1024 := by rw [← hpe, length_putEn OXK.out]; decide
              rw [hpe] at HCC
              have HPE := Kept.mk hpe
              clear hc hpe
              rcases hm2 with rfl | rfl
              · skip
                have hc0 : c = 0 := hm3.1 rfl
                subst hc0
                clear hm3
                obtain ⟨qx, rx, xx, yx, kx0, kx1, kx2, kx3, kx4, kx5, kx6, kx7, kx8⟩ := Vx.out.open_
                have Xx := Kept.mk xx
                have Yx := Kept.mk yx
                clear xx yx
                go_wp2_with fail
                ((with_reducible refine (gd_eput F1 pe _ _ Xx.out FFx.out OXK.out HPE.out).mono ?_); rintro e W8 ⟨rfl, hb1⟩)
                clear Xx Yx kx0 kx1 kx2 kx3 kx4 kx5 kx6 kx7 kx8
                replace hB := Kept.mk (hB.out.trans ((hb1).mono hB.out.size))
                replace Va := Kept.mk (Va.out.keep (hb1))
                replace Vx := Kept.mk (Vx.out.keep (hb1))
                replace Vb := Kept.mk (Vb.out.keep (hb1))
                clear hb1
                go_wp2_with fail
                ((with_reducible refine (gd_crc pe 0 _ hpl HCC.out).mono ?_); rintro e W9 ⟨rfl, hb1⟩)
                replace hB := Kept.mk (hB.out.trans ((hb1).mono hB.out.size))
                replace Va := Kept.mk (Va.out.keep (hb1))
                replace Vx := Kept.mk (Vx.out.keep (hb1))
                replace Vb := Kept.mk (Vb.out.keep (hb1))
                clear hb1
                go_wp2
                all_goals go_ret
                all_goals exact ⟨rfl, hB.out⟩
              · skip
                have hc0 : ¬ c = 0 := fun h => absurd (hm3.2 h) (by decide)
                have hcz : ¬ (c : Int) = 0 := by omega
                have hcn : ((c : Int) != 0) = true := by simp; omega
                clear hm3
                obtain ⟨qx, rx, xx, yx, kx0, kx1, kx2, kx3, kx4, kx5, kx6, kx7, kx8⟩ := Vx.out.open_
                have Xx := Kept.mk xx
                have Yx := Kept.mk yx
                clear xx yx
                go_wp2_with fail
                ((with_reducible refine (gd_eput F1 pe _ _ Xx.out FFx.out OXK.out HPE.out).mono ?_); rintro e W8 ⟨rfl, hb1⟩)
                clear Xx Yx kx0 kx1 kx2 kx3 kx4 kx5 kx6 kx7 kx8
                replace hB := Kept.mk (hB.out.trans ((hb1).mono hB.out.size))
                replace Va := Kept.mk (Va.out.keep (hb1))
                replace Vx := Kept.mk (Vx.out.keep (hb1))
                replace Vb := Kept.mk (Vb.out.keep (hb1))
                clear hb1
                go_wp2_with fail
                ((with_reducible refine (gd_crc pe c _ hpl HCC.out).mono ?_); rintro e W9 ⟨rfl, hb1⟩)
                replace hB := Kept.mk (hB.out.trans ((hb1).mono hB.out.size))
                replace Va := Kept.mk (Va.out.keep (hb1))
                replace Vx := Kept.mk (Vx.out.keep (hb1))
                replace Vb := Kept.mk (Vb.out.keep (hb1))
                clear hb1
                go_wp2
                all_goals go_ret
                all_goals exact ⟨rfl, hB.out⟩
      · skip
        obtain ⟨e, he⟩ : ∃ e, joinAE F0 F1 = e := ⟨_, rfl⟩
        rw [he] at h0
        have HE := Kept.mk he
        clear he
        ((with_reducible refine (gd_ejoin F0 F1 B z e _ _ _ Xa.out Xx.out FFa.out FFx.out HG.out HZ.out HE.out).mono ?_); rintro e U ⟨v', rfl, ⟨p', m', rfl, hp', hm'⟩, hb1⟩)
        obtain ⟨K1, K2, K3, K4, K5⟩ := anew U B p' m' hp' hm' U.heap.size rfl
        clear hp' hm'
        clear Xa Sa Ia ka0 ka1 ka2
        clear Xx Yx kx0 kx1 kx2 kx3 kx4 kx5 kx6 kx7 kx8
        replace hB := Kept.mk (hB.out.trans ((hb1).mono hB.out.size))
        replace Va := Kept.mk (Va.out.keep (hb1))
        replace Vx := Kept.mk (Vx.out.keep (hb1))
        clear hb1
        go_wp2_with (have hz0 := K1; refine wpList_storeN 25 rfl (.tmp 7) (.tmp 32) rfl U.heap.size [.int .i64 B.cap, p', m'] size_ar rfl rfl K1.out rfl K2.out K5.out ?_; replace hB := Kept.mk (hB.out.trans ((K3.out).mono hB.out.size)); replace Va := Kept.mk (Va.out.keep (K3.out)); replace Vx := Kept.mk (Vx.out.keep (K3.out)); have Vb := Kept.mk K4.out; clear hz0 K1 K2 K3 K4 K5; generalize setN (U.alloc (.cells #[.int .i64 0, .slice none 0 0, .slice none 0 0] 25)) U.heap.size 0 [.int .i64 B.cap, p', m'] = W4 at *; generalize U.heap.size = gb at *)
        go_wp2
        all_goals go_ret
        all_goals exact ⟨rfl, hB.out⟩
set_option maxRecDepth 100000 in
theorem digestChanges_lifted (os : Os) (started : os.Started) (H : Type) (enc : TypeId × Value → H) :
    ReturnsInHanded {} Tryz.checked os 6 .any (Rows.digestChangesSpec.pre6 enc Tryz.prog Tryz.f6 Rows.digestChangesRow.domain false) (Rows.digestChangesSpec.post enc Tryz.prog Tryz.f6 false true false false) := by
  refine returnsInHanded_of_change (C := Tryz.checked) (by kernel_rfl : ownKnob Tryz.prog.godebug = none) started (by kernel_rfl) Tryz.func6
    (ChangeSpec.witness6 (enc := enc) (C := Tryz.checked) false ⟨#[], #[.agg #[.int .i64 0, .slice none 0 0, .slice none 0 0], .agg #[.string ByteArray.empty, .int .i64 0, .int .i64 0, .int .i64 0, .bool false, .string ByteArray.empty, .slice none 0 0, .slice none 0 0, .int .u64 0]], []⟩ 8 (by kernel_rfl) (by kernel_rfl) (by kernel_rfl) (by kernel_rfl)) ?_
  intro W base args ds gs before hval0 hW hcnd _
  have hval : ∀ (j : Nat) t v, Tryz.f6.params[j]? = some t → args[j]? = some v → Value.okWide Tryz.prog W .any base t v := hval0
  have hW' := hW
  obtain ⟨p, q, hA0, hV, rfl, hfz, hnd⟩ := hW
  have hA : DataW.TrodAll enc Tryz.prog W 0 (fun _ => true) true Tryz.f6.params.toList args.toList ds p := hA0
  rw [Tryz.params6] at hA hval
  obtain ⟨v0, vs0, d0, ds0, p0, q0, hargs, rfl, rfl, h0, r0⟩ := trodAll_cons hA
  obtain ⟨v1, vs1, d1, ds1, p1, q1, rfl, rfl, rfl, h1, r1⟩ := trodAll_cons r0
  obtain ⟨rfl, rfl, rfl⟩ := trodAll_nil r1
  obtain rfl : args = #[v0, v1] := by cases args; simp_all
  obtain ⟨rfl, rfl⟩ := trodVars_none hV
  obtain ⟨F0, fl0, w0⟩ := open_ar (hval 0 25 v0 rfl rfl) h0
  have lt0 : ∀ x ∈ p0, x.block < W.heap.size := fun x hx => by obtain ⟨fuel, hf⟩ := h0; exact DataW.trod_lt fuel _ _ _ hf x hx
  obtain ⟨F1, fl1, w1⟩ := open_en (hval 1 48 v1 rfl rfl) h1
  have lt1 : ∀ x ∈ p1, x.block < W.heap.size := fun x hx => by obtain ⟨fuel, hf⟩ := h1; exact DataW.trod_lt fuel _ _ _ hf x hx
  clear hA0 hval0
  simp only [List.append_nil] at hW'
  refine (digestChanges_walk F0 v0 F1 v1 w0 w1 W fl0 fl1).mono fun e W' ⟨he, bel⟩ => ?_
  subst he
  exact ⟨_, rfl, _, _, _, [], _, [], hW', trodAll_mk1 (shut_bool Tryz.underlying4 _), (trodAll_cons_mk (Below.trod (by kernel_rfl) (by kernel_rfl) (of_decide_eq_true (by kernel_rfl)) h0 bel lt0) (trodAll_cons_mk (Below.trod (by kernel_rfl) (by kernel_rfl) (of_decide_eq_true (by kernel_rfl)) h1 bel lt1) trodAll_mk0)), rfl, bel.frame _, fun h => by cases h⟩
/-- THE STATEMENT. -/
theorem digestChanges_proved : Rows.DigestChangesSaid :=
  OpenClaim.holds_of_wide 6 Tryz.f6 rfl rfl rfl rfl rfl rfl rfl ⟨rfl, rfl, rfl, rfl, rfl⟩ rfl rfl rfl rfl rfl (by kernel_rfl) Tryz.func6 (by kernel_rfl)
    (of_decide_eq_true (by kernel_rfl)) (by unfold Func.isWrapper; first | (rw [if_pos (by decide +kernel)]; kernel_rfl) | (rw [if_neg (by decide +kernel)]; exact ⟨rfl, rfl⟩))
    (fun os started H enc _ => digestChanges_lifted os started H enc)
#print axioms digestChanges_proved
end Go.Proofs.YtkjghoomdefbbaaGreatDoor
