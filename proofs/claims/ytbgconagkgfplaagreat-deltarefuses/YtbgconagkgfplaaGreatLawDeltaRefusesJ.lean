/- What is refused for one reason is so whatever else it is; what is told is an entry of that key; a counter's delta has one number alone (delta.Add, Put, Delete; arena.Check; value.Check). -/
import Derived.Test.YtbgconagkgfplaaGreatPartG
import Derived.SizedLaws
import Derived.ProofKit
import Derived.OpenShut
import Derived.ShutString
import Derived.ChangeOld
import Derived.Below
namespace Go.Proofs.YtbgconagkgfplaaGreat
open Go.RowKit
open Go.ChangeShapes Go.WideShapes Go.ChangeAt Go.RowKit
open Go.ChangeMaps (open_string shut_string)
set_option linter.unusedVariables false
set_option linter.unusedSimpArgs false
attribute [local irreducible] setN

theorem rep8 (j : Nat) (hj : j < 8) : (List.replicate 8 (0 : Int))[j]? = some 0 := by rw [List.getElem?_replicate, if_pos hj]
theorem only_at (k : Nat) (x : Int) (j : Nat) (hj : j < 8) : (onlyI (k : Int) x)[j]? = some (if j = k then x else 0) := by
  unfold onlyI
  rw [Int.toNat_natCast]
  by_cases h : j = k
  · subst h; rw [if_pos rfl, List.getElem?_set_self (by rw [List.length_replicate]; exact hj)]
  · rw [if_neg h, List.getElem?_set_ne (Ne.symm h), rep8 j hj]
theorem cnt_plus (K : List UInt8) (k : Nat) (n x : Int) (j : Nat) (hj : j < 8) (hx : 1 ≤ x) : ∃ p : Int, (cntE K (k : Int) n x).val.plus[j]? = some p ∧ (0 < p ↔ ¬ n < 0 ∧ j = k) := by
  show ∃ p : Int, (if n < 0 then List.replicate 8 (0 : Int) else onlyI (k : Int) x)[j]? = some p ∧ _
  by_cases c : n < 0
  · rw [if_pos c]; exact ⟨0, rep8 j hj, by simp [c]⟩
  · rw [if_neg c]; refine ⟨_, only_at k x j hj, ?_⟩
    by_cases h : j = k
    · rw [if_pos h]; simp [c, h]; omega
    · rw [if_neg h]; simp [h]
theorem cnt_minus (K : List UInt8) (k : Nat) (n x : Int) (j : Nat) (hj : j < 8) (hx : 1 ≤ x) : ∃ p : Int, (cntE K (k : Int) n x).val.minus[j]? = some p ∧ (0 < p ↔ n < 0 ∧ j = k) := by
  show ∃ p : Int, (if n < 0 then onlyI (k : Int) x else List.replicate 8 (0 : Int))[j]? = some p ∧ _
  by_cases c : n < 0
  · rw [if_pos c]; refine ⟨_, only_at k x j hj, ?_⟩
    by_cases h : j = k
    · rw [if_pos h]; simp [c, h]; omega
    · rw [if_neg h]; simp [h]
  · rw [if_neg c]; exact ⟨0, rep8 j hj, by simp [c]⟩
theorem only_len (k : Nat) (x : Int) : (onlyI (k : Int) x).length = 8 := by unfold onlyI; simp
theorem cnt_len1 (K : List UInt8) (k : Nat) (n x : Int) : (cntE K (k : Int) n x).val.plus.length = 8 := by
  show (if n < 0 then List.replicate 8 (0 : Int) else onlyI (k : Int) x).length = 8
  split
  · rfl
  · exact only_len k x
theorem cnt_len2 (K : List UInt8) (k : Nat) (n x : Int) : (cntE K (k : Int) n x).val.minus.length = 8 := by
  show (if n < 0 then onlyI (k : Int) x else List.replicate 8 (0 : Int)).length = 8
  split
  · exact only_len k x
  · rfl
set_option maxRecDepth 100000 in
set_option maxHeartbeats 4000000 in
theorem deltaRefuses_walk (F0 : Ar) (v0 : Value) (a1 : Int) (a2 : ByteArray) (a3 : Int) (w0 : CameA F0) (w1 : (Lit.int .i64 a1).wf = true) (w2 : a2.size ≤ maxLen) (w3 : (Lit.int .i64 a3).wf = true) (w : World) (fl0 : isAr F0 v0 w) :
    Calls Tryz.prog 8 #[v0, .int .i64 a1, .string a2, .int .i64 a3] w fun e w' => e = .returned (.bool true) ∧ Below w.heap.size w w' := by
  rw [str_eta a2]
  generalize a2.data.toList = K
  obtain ⟨pa, ma, rfl, hpa, hma⟩ := fl0
  obtain ⟨hB, Va⟩ := abox w F0 pa ma hpa hma (w.heap.size) (by simp)
  clear hpa hma
  go_enter Tryz.func8, Tryz.ntmps8
  go_wp2_with fail
  generalize (w.alloc (.cells #[.int .i64 F0.cap, pa, ma] 25)) = W0 at *
  ((with_reducible refine (dworks_any _).mono ?_); rintro e W1 ⟨rfl, hb1⟩)
  replace hB := Kept.mk (hB.out.trans ((hb1).mono hB.out.size))
  replace Va := Kept.mk (Va.out.keep (hb1))
  clear hb1
  obtain ⟨qa, ra, xa, sa, ia, ka0, ka1, ka2⟩ := Va.out.open_
  have Xa := Kept.mk xa
  have Sa := Kept.mk sa
  have Ia := Kept.mk ia
  clear xa sa ia
  go_wp2_with fail
  ((with_reducible refine (afew_any F0 _ _ Xa.out (CameA.keys w0) w0.slots w0.index).mono ?_); rintro e W2 ⟨rfl, hb1⟩)
  clear Xa Sa Ia ka0 ka1 ka2
  replace hB := Kept.mk (hB.out.trans ((hb1).mono hB.out.size))
  replace Va := Kept.mk (Va.out.keep (hb1))
  clear hb1
  cases fa : fewA F0 with
  | false =>
    go_wp2
    all_goals go_ret
    all_goals exact ⟨rfl, hB.out⟩
  | true =>
    have FFa := Kept.mk (fewA_fit fa)
    have KFa := Kept.mk fa
    clear fa
    by_cases h0 : 100 < K.length
    · skip
      have c0 : decide (100 < (K.length : Int)) = true := by simp; omega
      go_wp2
      all_goals go_ret
      all_goals exact ⟨rfl, hB.out⟩
    · skip
      have c0 : decide (100 < (K.length : Int)) = false := by simp; omega
      have g0 : K.length ≤ 1000 := by omega
      obtain ⟨ex, hex⟩ : ∃ r : Int, addDE F0 a1 K a3 = r := ⟨_, rfl⟩
      obtain ⟨Gx, hGx⟩ : ∃ r : En, addDF F0 a1 K a3 = r := ⟨_, rfl⟩
      have Hex := Kept.mk hex
      have HGx := Kept.mk hGx
      clear hex hGx
      obtain ⟨ep, hep⟩ : ∃ r : Int, putDE F0 a1 K [] = r := ⟨_, rfl⟩
      obtain ⟨Gp, hGp⟩ : ∃ r : En, putDF F0 a1 K [] = r := ⟨_, rfl⟩
      have Hep := Kept.mk hep
      have HGp := Kept.mk hGp
      clear hep hGp
      obtain ⟨ed, hed⟩ : ∃ r : Int, delDE F0 a1 K = r := ⟨_, rfl⟩
      obtain ⟨Gd, hGd⟩ : ∃ r : En, delDF F0 a1 K = r := ⟨_, rfl⟩
      have Hed := Kept.mk hed
      have HGd := Kept.mk hGd
      clear hed hGd
      obtain ⟨ce, hce⟩ : ∃ r : Int, chkA F0 = r := ⟨_, rfl⟩
      have Hce := Kept.mk hce
      clear hce
      obtain ⟨qa, ra, xa, sa, ia, ka0, ka1, ka2⟩ := Va.out.open_
      have Xa := Kept.mk xa
      have Sa := Kept.mk sa
      have Ia := Kept.mk ia
      clear xa sa ia
      go_wp2_with fail
      clear c0 h0
      ((with_reducible refine (gd_add F0 a1 K a3 ex Gx _ _ Xa.out FFa.out g0 Hex.out HGx.out).mono ?_); rintro e U ⟨v', rfl, ⟨p', m', rfl, hp', hm'⟩, hb1⟩)
      obtain ⟨K1, K2, K3, K4, K5⟩ := enew U Gx p' m' hp' hm' U.heap.size rfl
      clear hp' hm'
      clear Xa Sa Ia ka0 ka1 ka2
      replace hB := Kept.mk (hB.out.trans ((hb1).mono hB.out.size))
      replace Va := Kept.mk (Va.out.keep (hb1))
      clear hb1
      go_wp2_with (have hz0 := K1; refine wpList_storeN 30 rfl (.tmp 11) (.tmp 39) rfl U.heap.size [.string ⟨Gx.key.toArray⟩, .int .i64 Gx.val.kind, .int .i64 Gx.val.time, .int .i64 Gx.val.node, .bool Gx.val.dead, .string ⟨Gx.val.text.toArray⟩, p', m', .int .u64 (Gx.val.flags.toNat : Int)] size_en rfl rfl K1.out rfl K2.out K5.out ?_; replace hB := Kept.mk (hB.out.trans ((K3.out).mono hB.out.size)); replace Va := Kept.mk (Va.out.keep (K3.out)); have Vx := Kept.mk (show VarN _ _ Gx from ⟨_, _, K4.out⟩); clear hz0 K1 K2 K3 K4 K5; generalize setN (U.alloc (.cells #[.string ⟨#[]⟩, .int .i64 0, .int .i64 0, .int .i64 0, .bool false, .string ⟨#[]⟩, .slice none 0 0, .slice none 0 0, .int .u64 0] 30)) U.heap.size 0 [.string ⟨Gx.key.toArray⟩, .int .i64 Gx.val.kind, .int .i64 Gx.val.time, .int .i64 Gx.val.node, .bool Gx.val.dead, .string ⟨Gx.val.text.toArray⟩, p', m', .int .u64 (Gx.val.flags.toNat : Int)] = W3 at *; generalize U.heap.size = gx at *; obtain ⟨qa, ra, xa, sa, ia, ka0, ka1, ka2⟩ := Va.out.open_; have Xa := Kept.mk xa; have Sa := Kept.mk sa; have Ia := Kept.mk ia; clear xa sa ia)
      ((with_reducible refine (gd_put F0 a1 K [] ep Gp _ _ Xa.out FFa.out g0 (by simp) Hep.out HGp.out).mono ?_); rintro e U ⟨v', rfl, ⟨p', m', rfl, hp', hm'⟩, hb1⟩)
      obtain ⟨K1, K2, K3, K4, K5⟩ := enew U Gp p' m' hp' hm' U.heap.size rfl
      clear hp' hm'
      clear Xa Sa Ia ka0 ka1 ka2
      replace hB := Kept.mk (hB.out.trans ((hb1).mono hB.out.size))
      replace Va := Kept.mk (Va.out.keep (hb1))
      replace Vx := Kept.mk (Vx.out.keep (hb1))
      clear hb1
      go_wp2_with (have hz0 := K1; refine wpList_storeN 30 rfl (.tmp 13) (.tmp 46) rfl U.heap.size [.string ⟨Gp.key.toArray⟩, .int .i64 Gp.val.kind, .int .i64 Gp.val.time, .int .i64 Gp.val.node, .bool Gp.val.dead, .string ⟨Gp.val.text.toArray⟩, p', m', .int .u64 (Gp.val.flags.toNat : Int)] size_en rfl rfl K1.out rfl K2.out K5.out ?_; replace hB := Kept.mk (hB.out.trans ((K3.out).mono hB.out.size)); replace Va := Kept.mk (Va.out.keep (K3.out)); replace Vx := Kept.mk (Vx.out.keep (K3.out)); have Vp := Kept.mk (show VarN _ _ Gp from ⟨_, _, K4.out⟩); clear hz0 K1 K2 K3 K4 K5; generalize setN (U.alloc (.cells #[.string ⟨#[]⟩, .int .i64 0, .int .i64 0, .int .i64 0, .bool false, .string ⟨#[]⟩, .slice none 0 0, .slice none 0 0, .int .u64 0] 30)) U.heap.size 0 [.string ⟨Gp.key.toArray⟩, .int .i64 Gp.val.kind, .int .i64 Gp.val.time, .int .i64 Gp.val.node, .bool Gp.val.dead, .string ⟨Gp.val.text.toArray⟩, p', m', .int .u64 (Gp.val.flags.toNat : Int)] = W4 at *; generalize U.heap.size = gp at *; obtain ⟨qa, ra, xa, sa, ia, ka0, ka1, ka2⟩ := Va.out.open_; have Xa := Kept.mk xa; have Sa := Kept.mk sa; have Ia := Kept.mk ia; clear xa sa ia)
      clear Vp
      ((with_reducible refine (gd_del F0 a1 K ed Gd _ _ Xa.out FFa.out g0 Hed.out HGd.out).mono ?_); rintro e U ⟨v', rfl, ⟨p', m', rfl, hp', hm'⟩, hb1⟩)
      obtain ⟨K1, K2, K3, K4, K5⟩ := enew U Gd p' m' hp' hm' U.heap.size rfl
      clear hp' hm'
      clear Xa Sa Ia ka0 ka1 ka2
      replace hB := Kept.mk (hB.out.trans ((hb1).mono hB.out.size))
      replace Va := Kept.mk (Va.out.keep (hb1))
      replace Vx := Kept.mk (Vx.out.keep (hb1))
      clear hb1
      go_wp2_with (have hz0 := K1; refine wpList_storeN 30 rfl (.tmp 15) (.tmp 53) rfl U.heap.size [.string ⟨Gd.key.toArray⟩, .int .i64 Gd.val.kind, .int .i64 Gd.val.time, .int .i64 Gd.val.node, .bool Gd.val.dead, .string ⟨Gd.val.text.toArray⟩, p', m', .int .u64 (Gd.val.flags.toNat : Int)] size_en rfl rfl K1.out rfl K2.out K5.out ?_; replace hB := Kept.mk (hB.out.trans ((K3.out).mono hB.out.size)); replace Va := Kept.mk (Va.out.keep (K3.out)); replace Vx := Kept.mk (Vx.out.keep (K3.out)); have Vd := Kept.mk (show VarN _ _ Gd from ⟨_, _, K4.out⟩); clear hz0 K1 K2 K3 K4 K5; generalize setN (U.alloc (.cells #[.string ⟨#[]⟩, .int .i64 0, .int .i64 0, .int .i64 0, .bool false, .string ⟨#[]⟩, .slice none 0 0, .slice none 0 0, .int .u64 0] 30)) U.heap.size 0 [.string ⟨Gd.key.toArray⟩, .int .i64 Gd.val.kind, .int .i64 Gd.val.time, .int .i64 Gd.val.node, .bool Gd.val.dead, .string ⟨Gd.val.text.toArray⟩, p', m', .int .u64 (Gd.val.flags.toNat : Int)] = W5 at *; generalize U.heap.size = gd at *; obtain ⟨qa, ra, xa, sa, ia, ka0, ka1, ka2⟩ := Va.out.open_; have Xa := Kept.mk xa; have Sa := Kept.mk sa; have Ia := Kept.mk ia; clear xa sa ia)
      clear Vd
      ((with_reducible refine (w_check F0 ce _ _ Xa.out FFa.out Hce.out).mono ?_); rintro e W6 ⟨rfl, hb1⟩)
      clear Xa Sa Ia ka0 ka1 ka2
      replace hB := Kept.mk (hB.out.trans ((hb1).mono hB.out.size))
      replace Va := Kept.mk (Va.out.keep (hb1))
      replace Vx := Kept.mk (Vx.out.keep (hb1))
      clear hb1
      by_cases hc : ce = 0
      case neg =>
        have HB := Kept.mk (bad_same (A := F0) (node := a1) (key := K) (n := a3) (by rw [Hce.out]; exact .inl hc))
        obtain ⟨e9, n9, q1, q2, q3⟩ := HB.out
        rw [Hex.out] at q1
        rw [Hep.out] at q2
        rw [Hed.out] at q3
        subst q1 q2 q3
        clear HB
        have n9b := bne_iff_ne.2 n9
        go_wp2
        all_goals go_ret
        all_goals exact ⟨rfl, hB.out⟩
      by_cases h1 : a1 < 0
      case pos =>
        have HB := Kept.mk (bad_same (A := F0) (node := a1) (key := K) (n := a3) (by rw [Hce.out]; exact .inr (.inl h1)))
        obtain ⟨e9, n9, q1, q2, q3⟩ := HB.out
        rw [Hex.out] at q1
        rw [Hep.out] at q2
        rw [Hed.out] at q3
        subst q1 q2 q3
        clear HB
        have n9b := bne_iff_ne.2 n9
        go_wp2
        all_goals go_ret
        all_goals exact ⟨rfl, hB.out⟩
      by_cases h2 : 7 < a1
      case pos =>
        have HB := Kept.mk (bad_same (A := F0) (node := a1) (key := K) (n := a3) (by rw [Hce.out]; exact .inr (.inr (.inl h2))))
        obtain ⟨e9, n9, q1, q2, q3⟩ := HB.out
        rw [Hex.out] at q1
        rw [Hep.out] at q2
        rw [Hed.out] at q3
        subst q1 q2 q3
        clear HB
        have n9b := bne_iff_ne.2 n9
        go_wp2
        all_goals go_ret
        all_goals exact ⟨rfl, hB.out⟩
      by_cases h3 : K = []
      case pos =>
        have HB := Kept.mk (bad_same (A := F0) (node := a1) (key := K) (n := a3) (by rw [Hce.out]; exact .inr (.inr (.inr (.inl h3)))))
        obtain ⟨e9, n9, q1, q2, q3⟩ := HB.out
        rw [Hex.out] at q1
        rw [Hep.out] at q2
        rw [Hed.out] at q3
        subst q1 q2 q3
        clear HB
        have n9b := bne_iff_ne.2 n9
        subst h3
        go_wp2
        all_goals go_ret
        all_goals exact ⟨rfl, hB.out⟩
      have h3b : (K == []) = false := by rw [beq_eq_false_iff_ne]; exact h3
      by_cases h4 : 8 < K.length
      case pos =>
        have HB := Kept.mk (bad_same (A := F0) (node := a1) (key := K) (n := a3) (by rw [Hce.out]; exact .inr (.inr (.inr (.inr h4)))))
        obtain ⟨e9, n9, q1, q2, q3⟩ := HB.out
        rw [Hex.out] at q1
        rw [Hep.out] at q2
        rw [Hed.out] at q3
        subst q1 q2 q3
        clear HB
        have n9b := bne_iff_ne.2 n9
        have h4i : (8 : Int) < K.length := by omega
        go_wp2
        all_goals go_ret
        all_goals exact ⟨rfl, hB.out⟩
      have h4i : ¬ (8 : Int) < K.length := by omega
      by_cases h0 : ex = 0
      case neg =>
        have HK := Kept.mk (show Gx.key = [] by rw [← HGx.out]; unfold addDF; rw [if_neg (by rw [Hex.out]; exact h0)]; rfl)
        obtain ⟨qx, rx, xx, yx, kx0, kx1, kx2, kx3, kx4, kx5, kx6, kx7, kx8⟩ := Vx.out.open_
        have Xx := Kept.mk xx
        have Yx := Kept.mk yx
        clear xx yx
        rw [HK.out] at kx0
        go_wp2
        all_goals go_ret
        all_goals exact ⟨rfl, hB.out⟩
      subst h0
      obtain ⟨_, ⟨k, hk, hk8, y, hy, hy0, hyx, hd, _⟩, hok, _, hn0, _⟩ := add_delta Hex.out
      rw [HGx.out] at hd hok
      obtain ⟨X, hX⟩ : ∃ X, y + absI a3 = X := ⟨_, rfl⟩
      have hX1 : 1 ≤ X ∧ X ≤ 65535 := by rw [← hX]; unfold absI at *; split at hyx <;> omega
      rw [hX] at hd
      have HD := Kept.mk hd
      have HOK := Kept.mk (okE_val hok)
      clear hk hy hy0 hyx hd hok hn0 hX
      have HPL := Kept.mk (show ∀ j : Nat, j < 8 → ∃ p : Int, Gx.val.plus[j]? = some p ∧ (0 < p ↔ ¬ a3 < 0 ∧ j = k) from fun j hj => by rw [HD.out]; exact cnt_plus K k a3 X j hj hX1.1)
      have HMI := Kept.mk (show ∀ j : Nat, j < 8 → ∃ p : Int, Gx.val.minus[j]? = some p ∧ (0 < p ↔ a3 < 0 ∧ j = k) from fun j hj => by rw [HD.out]; exact cnt_minus K k a3 X j hj hX1.1)
      have HLP := Kept.mk (show Gx.val.plus.length = 8 by rw [HD.out]; exact cnt_len1 K k a3 X)
      have HLM := Kept.mk (show Gx.val.minus.length = 8 by rw [HD.out]; exact cnt_len2 K k a3 X)
      have HKE := Kept.mk (show Gx.key = K by rw [HD.out]; rfl)
      obtain ⟨px, mx, cx, hpx, hmx⟩ := Vx.out
      rcases hpx with ⟨_, h0⟩ | ⟨_, _, _, h0⟩ | ⟨bp, op, cp, ep, lp, tp⟩
      · rw [List.map_eq_nil_iff] at h0; have := HLP.out; rw [h0] at this; cases this
      · rw [List.map_eq_nil_iff] at h0; have := HLP.out; rw [h0] at this; cases this
      rcases hmx with ⟨_, h0⟩ | ⟨_, _, _, h0⟩ | ⟨bm, om, cm, em, lm, tm⟩
      · rw [List.map_eq_nil_iff] at h0; have := HLM.out; rw [h0] at this; cases this
      · rw [List.map_eq_nil_iff] at h0; have := HLM.out; rw [h0] at this; cases this
      rw [List.length_map, HLP.out] at ep
      rw [List.length_map, HLM.out] at em
      subst ep em
      have CX := Kept.mk cx
      have TP := Kept.mk tp
      have TM := Kept.mk tm
      clear tp tm
      have kx0 := cx.2 0 _ rfl
      have kx6 := cx.2 6 _ rfl
      have kx7 := cx.2 7 _ rfl
      clear cx
      rw [HKE.out] at kx0
      go_wp2_with fail
      go_loopw [18, 19] (fun m j wr => ∃ q : Nat, q ≤ 8 ∧ j = .int .i64 (q : Int) ∧ m = .int .i64 (if k < q then 1 else 0) ∧ Kept (Below W6.heap.size W6 wr)) (fun _ j _ => 8 - (intOf j).toNat)
      case atStart => exact ⟨0, by omega, rfl, by rw [if_neg (by omega)], ⟨Below.refl _ _⟩⟩
      case round =>
        obtain ⟨q, hq, rfl, rfl, B⟩ := hrel
        have CX2 := Kept.mk (CX.out.keep B.out CX.out.1)
        have k0 := CX2.out.2 0 _ rfl
        have k6 := CX2.out.2 6 _ rfl
        have k7 := CX2.out.2 7 _ rfl
        rw [HKE.out] at k0
        by_cases hlt : q < 8
        · skip
          have hlt' : (q : Int) < 8 := by omega
          obtain ⟨p1, hp1, hpk⟩ := HPL.out q hlt
          obtain ⟨m1, hm1, hmk⟩ := HMI.out q hlt
          have cp1 : wr.cell? ⟨bp, op + q, none⟩ = some (.int .i64 p1) := (B.out.cell (p := ⟨bp, op + q, none⟩) lp).trans (TP.out q _ (by rw [List.getElem?_map, hp1]; rfl))
          have cm1 : wr.cell? ⟨bm, om + q, none⟩ = some (.int .i64 m1) := (B.out.cell (p := ⟨bm, om + q, none⟩) lm).trans (TM.out q _ (by rw [List.getElem?_map, hm1]; rfl))
          have HPK := Kept.mk hpk
          have HMK := Kept.mk hmk
          clear hp1 hm1 hpk hmk
          have hkq : k < q ∨ k = q ∨ q < k := by omega
          rcases hkq with hkq | hkq | hkq
          · skip
            rw [if_pos (by omega)]
            have p0 : ¬ 0 < p1 := fun h => by have := (HPK.out.1 h).2; omega
            have m0 : ¬ 0 < m1 := fun h => by have := (HMK.out.1 h).2; omega
            go_wp2
            go_roundw
            case rel => exact ⟨q + 1, by omega, by go_num, by rw [if_pos (by omega)], B⟩
            case measure => simp [intOf]; omega
          · skip
            subst hkq
            rw [if_neg (by omega)]
            by_cases hs : a3 < 0
            · have p0 : ¬ 0 < p1 := fun h => by have := (HPK.out.1 h).1; omega
              have m0 : 0 < m1 := HMK.out.2 ⟨by omega, rfl⟩
              go_wp2
              go_roundw
              case rel => exact ⟨k + 1, by omega, by go_num, by rw [if_pos (by omega)], B⟩
              case measure => simp [intOf]; omega
            · have p0 : 0 < p1 := HPK.out.2 ⟨by omega, rfl⟩
              have m0 : ¬ 0 < m1 := fun h => by have := (HMK.out.1 h).1; omega
              go_wp2
              go_roundw
              case rel => exact ⟨k + 1, by omega, by go_num, by rw [if_pos (by omega)], B⟩
              case measure => simp [intOf]; omega
          · skip
            rw [if_neg (by omega)]
            have p0 : ¬ 0 < p1 := fun h => by have := (HPK.out.1 h).2; omega
            have m0 : ¬ 0 < m1 := fun h => by have := (HMK.out.1 h).2; omega
            go_wp2
            go_roundw
            case rel => exact ⟨q + 1, by omega, by go_num, by rw [if_neg (by omega)], B⟩
            case measure => simp [intOf]; omega
        · skip
          obtain rfl : q = 8 := by omega
          rw [if_pos hk8]
          have k1 := CX2.out.2 1 _ rfl
          have k2 := CX2.out.2 2 _ rfl
          have k3 := CX2.out.2 3 _ rfl
          have k4 := CX2.out.2 4 _ rfl
          have k5 := CX2.out.2 5 _ rfl
          have k8 := CX2.out.2 8 _ rfl
          have XV := Kept.mk (show isVa Gx.val (.agg #[.int .i64 Gx.val.kind, .int .i64 Gx.val.time, .int .i64 Gx.val.node, .bool Gx.val.dead, .string ⟨Gx.val.text.toArray⟩, (.slice (some ⟨bp, op, none⟩) 8 cp), (.slice (some ⟨bm, om, none⟩) 8 cm), .int .u64 (Gx.val.flags.toNat : Int)]) wr from ⟨_, _, rfl, .inr (.inr ⟨bp, op, cp, by rw [List.length_map, HLP.out], Nat.lt_of_lt_of_le lp B.out.size, fun j x hx => (B.out.cell (p := ⟨bp, op + j, none⟩) lp).trans (TP.out j x hx)⟩), .inr (.inr ⟨bm, om, cm, by rw [List.length_map, HLM.out], Nat.lt_of_lt_of_le lm B.out.size, fun j x hx => (B.out.cell (p := ⟨bm, om + j, none⟩) lm).trans (TM.out j x hx)⟩)⟩)
          have HFI := Kept.mk (show Fit Gx.val by have h := (ok_fit' (E := Gx) (by rw [← HGx.out]; exact (add_writes Hex.out).2.1)).val; exact h)
          have hB9 := hB.out.trans (B.out.mono hB.out.size)
          have hck : (checkV Gx.val == 0) = true := by rw [checkV_zero]; exact HOK.out
          have hc0 : checkV Gx.val = 0 := by simpa using hck
          clear hck
          go_wp2_with fail
          refine (vcheck_any Gx.val _ _ XV.out HFI.out).mono ?_
          rintro e W9 ⟨rfl, hb9⟩
          rw [hc0]
          have hBZ := hB9.trans (hb9.mono hB9.size)
          clear hb9 hB9 XV k0 k6 k7 k1 k2 k3 k4 k5 k8 kx0 kx6 kx7
          go_wp2
          go_ret
          exact ⟨rfl, hBZ⟩
set_option maxRecDepth 100000 in
theorem deltaRefuses_lifted (os : Os) (started : os.Started) (H : Type) (enc : TypeId × Value → H) :
    ReturnsInHanded {} Tryz.checked os 8 .any (Rows.deltaRefusesSpec.pre6 enc Tryz.prog Tryz.f8 Rows.deltaRefusesRow.domain false) (Rows.deltaRefusesSpec.post enc Tryz.prog Tryz.f8 false true false false) := by
  refine returnsInHanded_of_change (C := Tryz.checked) (by kernel_rfl : ownKnob Tryz.prog.godebug = none) started (by kernel_rfl) Tryz.func8
    (ChangeSpec.witness6 (enc := enc) (C := Tryz.checked) false ⟨#[], #[.agg #[.int .i64 0, .slice none 0 0, .slice none 0 0], .int .i64 0, .string ByteArray.empty, .int .i64 0], []⟩ 8 (by kernel_rfl) (by kernel_rfl) (by kernel_rfl) (by kernel_rfl)) ?_
  intro W base args ds gs before hval0 hW hcnd _
  have hval : ∀ (j : Nat) t v, Tryz.f8.params[j]? = some t → args[j]? = some v → Value.okWide Tryz.prog W .any base t v := hval0
  have hW' := hW
  obtain ⟨p, q, hA0, hV, rfl, hfz, hnd⟩ := hW
  have hA : DataW.TrodAll enc Tryz.prog W 0 (fun _ => true) true Tryz.f8.params.toList args.toList ds p := hA0
  rw [Tryz.params8] at hA hval
  obtain ⟨v0, vs0, d0, ds0, p0, q0, hargs, rfl, rfl, h0, r0⟩ := trodAll_cons hA
  obtain ⟨v1, vs1, d1, ds1, p1, q1, rfl, rfl, rfl, h1, r1⟩ := trodAll_cons r0
  obtain ⟨v2, vs2, d2, ds2, p2, q2, rfl, rfl, rfl, h2, r2⟩ := trodAll_cons r1
  obtain ⟨v3, vs3, d3, ds3, p3, q3, rfl, rfl, rfl, h3, r3⟩ := trodAll_cons r2
  obtain ⟨rfl, rfl, rfl⟩ := trodAll_nil r3
  obtain rfl : args = #[v0, v1, v2, v3] := by cases args; simp_all
  obtain ⟨rfl, rfl⟩ := trodVars_none hV
  obtain ⟨F0, fl0, w0⟩ := open_ar (hval 0 25 v0 rfl rfl) h0
  have lt0 : ∀ x ∈ p0, x.block < W.heap.size := fun x hx => by obtain ⟨fuel, hf⟩ := h0; exact DataW.trod_lt fuel _ _ _ hf x hx
  obtain ⟨a1, rfl, rfl, rfl, w1⟩ := open_int Tryz.underlying3 (hval 1 3 v1 rfl rfl) h1
  obtain ⟨a2, rfl, rfl, rfl, w2⟩ := open_string Tryz.underlying9 (hval 2 9 v2 rfl rfl) h2
  obtain ⟨a3, rfl, rfl, rfl, w3⟩ := open_int Tryz.underlying3 (hval 3 3 v3 rfl rfl) h3
  clear hA0 hval0
  simp only [List.append_nil] at hW'
  refine (deltaRefuses_walk F0 v0 a1 a2 a3 w0 w1 w2 w3 W fl0).mono fun e W' ⟨he, bel⟩ => ?_
  subst he
  exact ⟨_, rfl, _, _, _, [], _, [], hW', trodAll_mk1 (shut_bool Tryz.underlying4 _), (trodAll_cons_mk (Below.trod (by kernel_rfl) (by kernel_rfl) (of_decide_eq_true (by kernel_rfl)) h0 bel lt0) (trodAll_cons_mk (shut_int Tryz.underlying3 w1) (trodAll_cons_mk (shut_string Tryz.underlying9 w2) (trodAll_cons_mk (shut_int Tryz.underlying3 w3) trodAll_mk0)))), rfl, bel.frame _, fun h => by cases h⟩
/-- THE STATEMENT. -/
theorem deltaRefuses_proved : Rows.DeltaRefusesSaid :=
  OpenClaim.holds_of_wide 8 Tryz.f8 rfl rfl rfl rfl rfl rfl rfl ⟨rfl, rfl, rfl, rfl, rfl⟩ rfl rfl rfl rfl rfl (by kernel_rfl) Tryz.func8 (by kernel_rfl)
    (of_decide_eq_true (by kernel_rfl)) (by unfold Func.isWrapper; first | (rw [if_pos (by decide +kernel)]; kernel_rfl) | (rw [if_neg (by decide +kernel)]; exact ⟨rfl, rfl⟩))
    (fun os started H enc _ => deltaRefuses_lifted os started H enc)
#print axioms deltaRefuses_proved
end Go.Proofs.YtbgconagkgfplaaGreat
