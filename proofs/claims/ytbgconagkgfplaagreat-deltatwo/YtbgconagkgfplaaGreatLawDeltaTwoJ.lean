/- Two nodes that count apart count together; of registers that are put the greater node's is read (delta.Add, Put; arena.Merge; delta.Sum, Text). -/
import Derived.Test.YtbgconagkgfplaaGreatPartG
import Derived.SizedLaws
import Derived.ProofKit
import Derived.OpenShut
import Derived.ShutString
import Derived.ChangeOld
import Derived.Below
namespace Go.Proofs.YtbgconagkgfplaaGreat
open Go.RowKit
open Go.ChangeShapes Go.WideShapes Go.ChangeAt Go.RowKit
open Go.ChangeMaps (open_string shut_string)
set_option linter.unusedVariables false
set_option linter.unusedSimpArgs false
attribute [local irreducible] setN

theorem wf_u8 {x : Int} (h : (Lit.int .u8 x).wf = true) : 0 ≤ x ∧ x ≤ 255 := by
  unfold Lit.wf at h
  rw [Bool.and_eq_true] at h
  exact ⟨of_decide_eq_true h.1, of_decide_eq_true h.2⟩
theorem en_rows' {E : En} {vp vm : Value} {w : World} (h : isEn E (.agg #[.string ⟨E.key.toArray⟩, .int .i64 E.val.kind, .int .i64 E.val.time, .int .i64 E.val.node, .bool E.val.dead, .string ⟨E.val.text.toArray⟩, vp, vm, .int .u64 (E.val.flags.toNat : Int)]) w) : isCells (E.val.plus.map intC) vp w ∧ isCells (E.val.minus.map intC) vm w := by
  obtain ⟨p, m, e, hp, hm⟩ := h
  injection e with e
  simp only [Array.mk.injEq, List.cons.injEq] at e
  obtain ⟨_, _, _, _, _, _, rfl, rfl, _⟩ := e
  exact ⟨hp, hm⟩
theorem w_row2 (E1 E2 : En) (p1 m1 p2 m2 : Value) (w : World) (h1 : isEn E1 (.agg #[.string ⟨E1.key.toArray⟩, .int .i64 E1.val.kind, .int .i64 E1.val.time, .int .i64 E1.val.node, .bool E1.val.dead, .string ⟨E1.val.text.toArray⟩, p1, m1, .int .u64 (E1.val.flags.toNat : Int)]) w) (h2 : isEn E2 (.agg #[.string ⟨E2.key.toArray⟩, .int .i64 E2.val.kind, .int .i64 E2.val.time, .int .i64 E2.val.node, .bool E2.val.dead, .string ⟨E2.val.text.toArray⟩, p2, m2, .int .u64 (E2.val.flags.toNat : Int)]) w) : isEns [E1, E2] (.slice (some ⟨w.heap.size, 0, none⟩) 2 2) (w.alloc (.cells #[.string ⟨E1.key.toArray⟩, .int .i64 E1.val.kind, .int .i64 E1.val.time, .int .i64 E1.val.node, .bool E1.val.dead, .string ⟨E1.val.text.toArray⟩, p1, m1, .int .u64 (E1.val.flags.toNat : Int), .string ⟨E2.key.toArray⟩, .int .i64 E2.val.kind, .int .i64 E2.val.time, .int .i64 E2.val.node, .bool E2.val.dead, .string ⟨E2.val.text.toArray⟩, p2, m2, .int .u64 (E2.val.flags.toNat : Int)] 30)) := by
  have hb := lit_below w (.cells #[.string ⟨E1.key.toArray⟩, .int .i64 E1.val.kind, .int .i64 E1.val.time, .int .i64 E1.val.node, .bool E1.val.dead, .string ⟨E1.val.text.toArray⟩, p1, m1, .int .u64 (E1.val.flags.toNat : Int), .string ⟨E2.key.toArray⟩, .int .i64 E2.val.kind, .int .i64 E2.val.time, .int .i64 E2.val.node, .bool E2.val.dead, .string ⟨E2.val.text.toArray⟩, p2, m2, .int .u64 (E2.val.flags.toNat : Int)] 30)
  refine .inr (.inr ⟨w.heap.size, 0, 2, rfl, by simp, fun j E hE => ?_⟩)
  match j, hE with
  | 0, h => obtain rfl : _ = E := Option.some.inj h; exact ⟨p1, m1, fun i x hi => by rw [World.cell?_alloc_new]; match i, hi with | 0, h => exact h | 1, h => exact h | 2, h => exact h | 3, h => exact h | 4, h => exact h | 5, h => exact h | 6, h => exact h | 7, h => exact h | 8, h => exact h | n + 9, h => simp at h, stable_cells _ _ _ _ (en_rows' h1).1 hb, stable_cells _ _ _ _ (en_rows' h1).2 hb⟩
  | 1, h => obtain rfl : _ = E := Option.some.inj h; exact ⟨p2, m2, fun i x hi => by rw [World.cell?_alloc_new]; match i, hi with | 0, h => exact h | 1, h => exact h | 2, h => exact h | 3, h => exact h | 4, h => exact h | 5, h => exact h | 6, h => exact h | 7, h => exact h | 8, h => exact h | n + 9, h => simp at h, stable_cells _ _ _ _ (en_rows' h2).1 hb, stable_cells _ _ _ _ (en_rows' h2).2 hb⟩
  | n + 2, h => simp at h
theorem w_mrow2 (A : Ar) (E1 E2 : En) (G : Ar) (W : World) (va p1 m1 p2 m2 : Value) (ha : isAr A va W) (h1 : isEn E1 (.agg #[.string ⟨E1.key.toArray⟩, .int .i64 E1.val.kind, .int .i64 E1.val.time, .int .i64 E1.val.node, .bool E1.val.dead, .string ⟨E1.val.text.toArray⟩, p1, m1, .int .u64 (E1.val.flags.toNat : Int)]) W) (h2 : isEn E2 (.agg #[.string ⟨E2.key.toArray⟩, .int .i64 E2.val.kind, .int .i64 E2.val.time, .int .i64 E2.val.node, .bool E2.val.dead, .string ⟨E2.val.text.toArray⟩, p2, m2, .int .u64 (E2.val.flags.toNat : Int)]) W) (hF : FitA A) (f1 : FitE E1) (f2 : FitE E2) (hG : mergeF A [E1, E2] = G) (ho : mergeO A [E1, E2] = 0) : Calls Tryz.prog 16 #[va, .slice (some ⟨W.heap.size, 0, none⟩) 2 2] (W.alloc (.cells #[.string ⟨E1.key.toArray⟩, .int .i64 E1.val.kind, .int .i64 E1.val.time, .int .i64 E1.val.node, .bool E1.val.dead, .string ⟨E1.val.text.toArray⟩, p1, m1, .int .u64 (E1.val.flags.toNat : Int), .string ⟨E2.key.toArray⟩, .int .i64 E2.val.kind, .int .i64 E2.val.time, .int .i64 E2.val.node, .bool E2.val.dead, .string ⟨E2.val.text.toArray⟩, p2, m2, .int .u64 (E2.val.flags.toNat : Int)] 30)) fun e w' => ∃ v' n, e = .returned (.tuple #[v', .int .i64 n, .int .i64 0]) ∧ isAr G v' w' ∧ Below W.heap.size W w' := by
  have hb := lit_below W (.cells #[.string ⟨E1.key.toArray⟩, .int .i64 E1.val.kind, .int .i64 E1.val.time, .int .i64 E1.val.node, .bool E1.val.dead, .string ⟨E1.val.text.toArray⟩, p1, m1, .int .u64 (E1.val.flags.toNat : Int), .string ⟨E2.key.toArray⟩, .int .i64 E2.val.kind, .int .i64 E2.val.time, .int .i64 E2.val.node, .bool E2.val.dead, .string ⟨E2.val.text.toArray⟩, p2, m2, .int .u64 (E2.val.flags.toNat : Int)] 30)
  have hm := amerge_any A [E1, E2] va (.slice (some ⟨W.heap.size, 0, none⟩) 2 2) (W.alloc (.cells #[.string ⟨E1.key.toArray⟩, .int .i64 E1.val.kind, .int .i64 E1.val.time, .int .i64 E1.val.node, .bool E1.val.dead, .string ⟨E1.val.text.toArray⟩, p1, m1, .int .u64 (E1.val.flags.toNat : Int), .string ⟨E2.key.toArray⟩, .int .i64 E2.val.kind, .int .i64 E2.val.time, .int .i64 E2.val.node, .bool E2.val.dead, .string ⟨E2.val.text.toArray⟩, p2, m2, .int .u64 (E2.val.flags.toNat : Int)] 30)) (stable_ar _ _ _ _ ha hb) (w_row2 E1 E2 _ _ _ _ _ h1 h2) hF (fun e he => by
    rcases List.mem_cons.1 he with rfl | he
    · exact f1
    · rw [List.mem_singleton] at he; subst he; exact f2) (by simp)
  refine hm.mono ?_
  rintro e w' ⟨v', rfl, hv, hb'⟩
  exact ⟨v', _, by rw [ho]; rfl, by rw [← hG]; exact hv, hb.trans (hb'.mono hb.size)⟩
set_option maxRecDepth 100000 in
set_option maxHeartbeats 4000000 in
theorem deltaTwo_walk (F0 : Ar) (v0 : Value) (a1 a2 : Int) (a3 : ByteArray) (a4 a5 : Int) (a6 a7 : ByteArray) (w0 : CameA F0) (w1 : (Lit.int .u8 a1).wf = true) (w2 : (Lit.int .u8 a2).wf = true) (w3 : a3.size ≤ maxLen) (w4 : (Lit.int .i64 a4).wf = true) (w5 : (Lit.int .i64 a5).wf = true) (w6 : a6.size ≤ maxLen) (w7 : a7.size ≤ maxLen) (w : World) (fl0 : isAr F0 v0 w) :
    Calls Tryz.prog 7 #[v0, .int .u8 a1, .int .u8 a2, .string a3, .int .i64 a4, .int .i64 a5, .string a6, .string a7] w fun e w' => e = .returned (.bool true) ∧ Below w.heap.size w w' := by
  rw [str_eta a3, str_eta a6, str_eta a7]
  generalize a3.data.toList = K
  generalize a6.data.toList = X
  generalize a7.data.toList = Y
  have b1 := wf_u8 w1
  have b2 := wf_u8 w2
  have i4 := wf_i64 w4
  have i5 := wf_i64 w5
  obtain ⟨P, hP⟩ : ∃ P, Int.tmod a1 8 = P := ⟨_, rfl⟩
  obtain ⟨Q, hQ⟩ : ∃ Q, Int.tmod a2 8 = Q := ⟨_, rfl⟩
  have hP8 : 0 ≤ P ∧ P < 8 := by rw [← hP, Int.tmod_eq_emod_of_nonneg b1.1]; omega
  have hQ8 : 0 ≤ Q ∧ Q < 8 := by rw [← hQ, Int.tmod_eq_emod_of_nonneg b2.1]; omega
  obtain ⟨pa, ma, rfl, hpa, hma⟩ := fl0
  obtain ⟨hB, Va⟩ := abox w F0 pa ma hpa hma (w.heap.size) (by simp)
  clear hpa hma
  go_enter Tryz.func7, Tryz.ntmps7
  go_wp2_with fail
  generalize (w.alloc (.cells #[.int .i64 F0.cap, pa, ma] 25)) = W0 at *
  ((with_reducible refine (dworks_any _).mono ?_); rintro e W1 ⟨rfl, hb1⟩)
  replace hB := Kept.mk (hB.out.trans ((hb1).mono hB.out.size))
  replace Va := Kept.mk (Va.out.keep (hb1))
  clear hb1
  obtain ⟨qa, ra, xa, sa, ia, ka0, ka1, ka2⟩ := Va.out.open_
  have Xa := Kept.mk xa
  have Sa := Kept.mk sa
  have Ia := Kept.mk ia
  clear xa sa ia
  go_wp2_with fail
  ((with_reducible refine (afew_any F0 _ _ Xa.out (CameA.keys w0) w0.slots w0.index).mono ?_); rintro e W2 ⟨rfl, hb1⟩)
  clear Xa Sa Ia ka0 ka1 ka2
  replace hB := Kept.mk (hB.out.trans ((hb1).mono hB.out.size))
  replace Va := Kept.mk (Va.out.keep (hb1))
  clear hb1
  cases fa : fewA F0 with
  | false =>
    go_wp2
    all_goals go_ret
    all_goals exact ⟨rfl, hB.out⟩
  | true =>
    have FFa := Kept.mk (fewA_fit fa)
    have KFa := Kept.mk fa
    clear fa
    by_cases h0 : 100 < K.length
    · skip
      have c0 : decide (100 < (K.length : Int)) = true := by simp; omega
      go_wp2
      all_goals go_ret
      all_goals exact ⟨rfl, hB.out⟩
    · skip
      have c0 : decide (100 < (K.length : Int)) = false := by simp; omega
      by_cases h1 : 100 < X.length
      · skip
        have c1 : decide (100 < (X.length : Int)) = true := by simp; omega
        go_wp2
        all_goals go_ret
        all_goals exact ⟨rfl, hB.out⟩
      · skip
        have c1 : decide (100 < (X.length : Int)) = false := by simp; omega
        by_cases h2 : 100 < Y.length
        · skip
          have c2 : decide (100 < (Y.length : Int)) = true := by simp; omega
          go_wp2
          all_goals go_ret
          all_goals exact ⟨rfl, hB.out⟩
        · skip
          have c2 : decide (100 < (Y.length : Int)) = false := by simp; omega
          have g0 : K.length ≤ 1000 := by omega
          have g1 : X.length ≤ 1000 := by omega
          have g2 : Y.length ≤ 1000 := by omega
          by_cases hge : Q ≤ P
          · skip
            go_wp2
            all_goals go_ret
            all_goals exact ⟨rfl, hB.out⟩
          · skip
            obtain ⟨ex, hex⟩ : ∃ r : Int, addDE F0 P K a4 = r := ⟨_, rfl⟩
            obtain ⟨Gx, hGx⟩ : ∃ r : En, addDF F0 P K a4 = r := ⟨_, rfl⟩
            have Hex := Kept.mk hex
            have HGx := Kept.mk hGx
            clear hex hGx
            obtain ⟨ey, hey⟩ : ∃ r : Int, addDE F0 Q K a5 = r := ⟨_, rfl⟩
            obtain ⟨Gy, hGy⟩ : ∃ r : En, addDF F0 Q K a5 = r := ⟨_, rfl⟩
            have Hey := Kept.mk hey
            have HGy := Kept.mk hGy
            clear hey hGy
            obtain ⟨ev, hev⟩ : ∃ r : Int, putDE F0 P K X = r := ⟨_, rfl⟩
            obtain ⟨Gv, hGv⟩ : ∃ r : En, putDF F0 P K X = r := ⟨_, rfl⟩
            have Hev := Kept.mk hev
            have HGv := Kept.mk hGv
            clear hev hGv
            obtain ⟨eu, heu⟩ : ∃ r : Int, putDE F0 Q K Y = r := ⟨_, rfl⟩
            obtain ⟨Gu, hGu⟩ : ∃ r : En, putDF F0 Q K Y = r := ⟨_, rfl⟩
            have Heu := Kept.mk heu
            have HGu := Kept.mk hGu
            clear heu hGu
            obtain ⟨qa, ra, xa, sa, ia, ka0, ka1, ka2⟩ := Va.out.open_
            have Xa := Kept.mk xa
            have Sa := Kept.mk sa
            have Ia := Kept.mk ia
            clear xa sa ia
            go_wp2_with fail
            clear c0 c1 c2 h0 h1 h2 hP hQ
            ((with_reducible refine (gd_add F0 P K a4 ex Gx _ _ Xa.out FFa.out g0 Hex.out HGx.out).mono ?_); rintro e U ⟨v', rfl, ⟨p', m', rfl, hp', hm'⟩, hb1⟩)
            obtain ⟨K1, K2, K3, K4, K5⟩ := enew U Gx p' m' hp' hm' U.heap.size rfl
            clear hp' hm'
            clear Xa Sa Ia ka0 ka1 ka2
            replace hB := Kept.mk (hB.out.trans ((hb1).mono hB.out.size))
            replace Va := Kept.mk (Va.out.keep (hb1))
            clear hb1
            go_wp2_with (have hz0 := K1; refine wpList_storeN 30 rfl (.tmp 21) (.tmp 81) rfl U.heap.size [.string ⟨Gx.key.toArray⟩, .int .i64 Gx.val.kind, .int .i64 Gx.val.time, .int .i64 Gx.val.node, .bool Gx.val.dead, .string ⟨Gx.val.text.toArray⟩, p', m', .int .u64 (Gx.val.flags.toNat : Int)] size_en rfl rfl K1.out rfl K2.out K5.out ?_; replace hB := Kept.mk (hB.out.trans ((K3.out).mono hB.out.size)); replace Va := Kept.mk (Va.out.keep (K3.out)); have Vx := Kept.mk (show VarN _ _ Gx from ⟨_, _, K4.out⟩); clear hz0 K1 K2 K3 K4 K5; generalize setN (U.alloc (.cells #[.string ⟨#[]⟩, .int .i64 0, .int .i64 0, .int .i64 0, .bool false, .string ⟨#[]⟩, .slice none 0 0, .slice none 0 0, .int .u64 0] 30)) U.heap.size 0 [.string ⟨Gx.key.toArray⟩, .int .i64 Gx.val.kind, .int .i64 Gx.val.time, .int .i64 Gx.val.node, .bool Gx.val.dead, .string ⟨Gx.val.text.toArray⟩, p', m', .int .u64 (Gx.val.flags.toNat : Int)] = W3 at *; generalize U.heap.size = gx at *; obtain ⟨qa, ra, xa, sa, ia, ka0, ka1, ka2⟩ := Va.out.open_; have Xa := Kept.mk xa; have Sa := Kept.mk sa; have Ia := Kept.mk ia; clear xa sa ia)
            ((with_reducible refine (gd_add F0 Q K a5 ey Gy _ _ Xa.out FFa.out g0 Hey.out HGy.out).mono ?_); rintro e U ⟨v', rfl, ⟨p', m', rfl, hp', hm'⟩, hb1⟩)
            obtain ⟨K1, K2, K3, K4, K5⟩ := enew U Gy p' m' hp' hm' U.heap.size rfl
            clear hp' hm'
            clear Xa Sa Ia ka0 ka1 ka2
            replace hB := Kept.mk (hB.out.trans ((hb1).mono hB.out.size))
            replace Va := Kept.mk (Va.out.keep (hb1))
            replace Vx := Kept.mk (Vx.out.keep (hb1))
            clear hb1
            by_cases h0 : ex = 0
            · skip
              by_cases h1 : ey = 0
              · skip
                subst h0 h1
                obtain ⟨m1, m2⟩ := add_two Hex.out Hey.out (by omega)
                obtain ⟨f1, _, _, _, _, _, n1, n2⟩ := add_facts Hex.out
                obtain ⟨f2, _, _, _, _, _, n3, n4⟩ := add_facts Hey.out
                have FB := Kept.mk (show FitA (mergeF F0 [addDF F0 P K a4, addDF F0 Q K a5]) from okA_fit (join_okA (join_okA (add_writes Hex.out).1 _) _))
                rw [HGx.out, HGy.out] at m1 m2 FB
                rw [HGx.out] at f1
                rw [HGy.out] at f2
                obtain ⟨B, hB0⟩ : ∃ B, mergeF F0 [Gx, Gy] = B := ⟨_, rfl⟩
                have HB0 := Kept.mk hB0
                rw [hB0] at m2 FB
                have hsb := sumT_bound F0 K
                obtain ⟨T, hT⟩ : ∃ T, sumT F0 K = T := ⟨_, rfl⟩
                rw [hT] at m2 hsb
                have HT := Kept.mk hT
                have M1 := Kept.mk m1
                have M2 := Kept.mk m2
                have FX := Kept.mk f1
                have FY := Kept.mk f2
                clear hB0 hT m1 m2 f1 f2
                go_wp2_with (have hz0 := K1; refine wpList_storeN 30 rfl (.tmp 23) (.tmp 89) rfl U.heap.size [.string ⟨Gy.key.toArray⟩, .int .i64 Gy.val.kind, .int .i64 Gy.val.time, .int .i64 Gy.val.node, .bool Gy.val.dead, .string ⟨Gy.val.text.toArray⟩, p', m', .int .u64 (Gy.val.flags.toNat : Int)] size_en rfl rfl K1.out rfl K2.out K5.out ?_; replace hB := Kept.mk (hB.out.trans ((K3.out).mono hB.out.size)); replace Va := Kept.mk (Va.out.keep (K3.out)); replace Vx := Kept.mk (Vx.out.keep (K3.out)); have Vy := Kept.mk (show VarN _ _ Gy from ⟨_, _, K4.out⟩); clear hz0 K1 K2 K3 K4 K5; generalize setN (U.alloc (.cells #[.string ⟨#[]⟩, .int .i64 0, .int .i64 0, .int .i64 0, .bool false, .string ⟨#[]⟩, .slice none 0 0, .slice none 0 0, .int .u64 0] 30)) U.heap.size 0 [.string ⟨Gy.key.toArray⟩, .int .i64 Gy.val.kind, .int .i64 Gy.val.time, .int .i64 Gy.val.node, .bool Gy.val.dead, .string ⟨Gy.val.text.toArray⟩, p', m', .int .u64 (Gy.val.flags.toNat : Int)] = W4 at *; generalize U.heap.size = gy at *; obtain ⟨qa, ra, xa, sa, ia, ka0, ka1, ka2⟩ := Va.out.open_; have Xa := Kept.mk xa; have Sa := Kept.mk sa; have Ia := Kept.mk ia; clear xa sa ia; obtain ⟨qx, rx, xx, yx, kx0, kx1, kx2, kx3, kx4, kx5, kx6, kx7, kx8⟩ := Vx.out.open_; have Xx := Kept.mk xx; have Yx := Kept.mk yx; clear xx yx; obtain ⟨qy, ry, xy, yy, ky0, ky1, ky2, ky3, ky4, ky5, ky6, ky7, ky8⟩ := Vy.out.open_; have Xy := Kept.mk xy; have Yy := Kept.mk yy; clear xy yy; skip)
                ((with_reducible refine (w_mrow2 F0 Gx Gy B _ _ _ _ _ _ Xa.out Xx.out Xy.out FFa.out FX.out FY.out HB0.out M1.out).mono ?_); rintro e U ⟨v', n9, rfl, ⟨p', m', rfl, hp', hm'⟩, hb1⟩)
                obtain ⟨K1, K2, K3, K4, K5⟩ := anew U B p' m' hp' hm' U.heap.size rfl
                clear hp' hm'
                clear Xa Sa Ia ka0 ka1 ka2
                clear Xx Yx kx0 kx1 kx2 kx3 kx4 kx5 kx6 kx7 kx8
                clear Xy Yy ky0 ky1 ky2 ky3 ky4 ky5 ky6 ky7 ky8
                replace hB := Kept.mk (hB.out.trans ((hb1).mono hB.out.size))
                replace Va := Kept.mk (Va.out.keep (hb1))
                replace Vx := Kept.mk (Vx.out.keep (hb1))
                replace Vy := Kept.mk (Vy.out.keep (hb1))
                clear hb1
                go_wp2_with (have hz0 := K1; refine wpList_storeN 25 rfl (.tmp 25) (.tmp 103) rfl U.heap.size [.int .i64 B.cap, p', m'] size_ar rfl rfl K1.out rfl K2.out K5.out ?_; replace hB := Kept.mk (hB.out.trans ((K3.out).mono hB.out.size)); replace Va := Kept.mk (Va.out.keep (K3.out)); replace Vx := Kept.mk (Vx.out.keep (K3.out)); replace Vy := Kept.mk (Vy.out.keep (K3.out)); have Vb := Kept.mk K4.out; clear hz0 K1 K2 K3 K4 K5; generalize setN (U.alloc (.cells #[.int .i64 0, .slice none 0 0, .slice none 0 0] 25)) U.heap.size 0 [.int .i64 B.cap, p', m'] = W5 at *; generalize U.heap.size = gb at *; obtain ⟨qa, ra, xa, sa, ia, ka0, ka1, ka2⟩ := Va.out.open_; have Xa := Kept.mk xa; have Sa := Kept.mk sa; have Ia := Kept.mk ia; clear xa sa ia)
                ((with_reducible refine (gd_sum F0 K T _ _ _ Xa.out FFa.out HT.out rfl).mono ?_); rintro e W6 ⟨rfl, hb1⟩)
                clear Xa Sa Ia ka0 ka1 ka2
                replace hB := Kept.mk (hB.out.trans ((hb1).mono hB.out.size))
                replace Va := Kept.mk (Va.out.keep (hb1))
                replace Vx := Kept.mk (Vx.out.keep (hb1))
                replace Vy := Kept.mk (Vy.out.keep (hb1))
                replace Vb := Kept.mk (Vb.out.keep (hb1))
                clear hb1
                obtain ⟨qb, rb, xb, sb, ib, kb0, kb1, kb2⟩ := Vb.out.open_
                have Xb := Kept.mk xb
                have Sb := Kept.mk sb
                have Ib := Kept.mk ib
                clear xb sb ib
                go_wp2_with fail
                ((with_reducible refine (gd_sum B K (T + a4 + a5) _ _ _ Xb.out FB.out M2.out rfl).mono ?_); rintro e W7 ⟨rfl, hb1⟩)
                clear Xb Sb Ib kb0 kb1 kb2
                replace hB := Kept.mk (hB.out.trans ((hb1).mono hB.out.size))
                replace Va := Kept.mk (Va.out.keep (hb1))
                replace Vx := Kept.mk (Vx.out.keep (hb1))
                replace Vy := Kept.mk (Vy.out.keep (hb1))
                replace Vb := Kept.mk (Vb.out.keep (hb1))
                clear hb1
                clear Vx Vy Vb
                obtain ⟨qa, ra, xa, sa, ia, ka0, ka1, ka2⟩ := Va.out.open_
                have Xa := Kept.mk xa
                have Sa := Kept.mk sa
                have Ia := Kept.mk ia
                clear xa sa ia
                go_wp2_with fail
                clear n1 n2 n3 n4 hsb HT M1 M2 FX FY FB HB0
                ((with_reducible refine (gd_put F0 P K X ev Gv _ _ Xa.out FFa.out g0 g1 Hev.out HGv.out).mono ?_); rintro e U ⟨v', rfl, ⟨p', m', rfl, hp', hm'⟩, hb1⟩)
                obtain ⟨K1, K2, K3, K4, K5⟩ := enew U Gv p' m' hp' hm' U.heap.size rfl
                clear hp' hm'
                clear Xa Sa Ia ka0 ka1 ka2
                replace hB := Kept.mk (hB.out.trans ((hb1).mono hB.out.size))
                replace Va := Kept.mk (Va.out.keep (hb1))
                clear hb1
                go_wp2_with (have hz0 := K1; refine wpList_storeN 30 rfl (.tmp 32) (.tmp 135) rfl U.heap.size [.string ⟨Gv.key.toArray⟩, .int .i64 Gv.val.kind, .int .i64 Gv.val.time, .int .i64 Gv.val.node, .bool Gv.val.dead, .string ⟨Gv.val.text.toArray⟩, p', m', .int .u64 (Gv.val.flags.toNat : Int)] size_en rfl rfl K1.out rfl K2.out K5.out ?_; replace hB := Kept.mk (hB.out.trans ((K3.out).mono hB.out.size)); replace Va := Kept.mk (Va.out.keep (K3.out)); have Vv := Kept.mk (show VarN _ _ Gv from ⟨_, _, K4.out⟩); clear hz0 K1 K2 K3 K4 K5; generalize setN (U.alloc (.cells #[.string ⟨#[]⟩, .int .i64 0, .int .i64 0, .int .i64 0, .bool false, .string ⟨#[]⟩, .slice none 0 0, .slice none 0 0, .int .u64 0] 30)) U.heap.size 0 [.string ⟨Gv.key.toArray⟩, .int .i64 Gv.val.kind, .int .i64 Gv.val.time, .int .i64 Gv.val.node, .bool Gv.val.dead, .string ⟨Gv.val.text.toArray⟩, p', m', .int .u64 (Gv.val.flags.toNat : Int)] = W8 at *; generalize U.heap.size = gv at *; obtain ⟨qa, ra, xa, sa, ia, ka0, ka1, ka2⟩ := Va.out.open_; have Xa := Kept.mk xa; have Sa := Kept.mk sa; have Ia := Kept.mk ia; clear xa sa ia)
                by_cases h0 : ev = 0
                · skip
                  by_cases h1 : eu = 0
                  · skip
                    subst h0 h1
                    obtain ⟨m1, m2⟩ := put_two Hev.out Heu.out (by omega)
                    have f1 := (put_facts Hev.out).1
                    have f2 := (put_facts Heu.out).1
                    have FB := Kept.mk (show FitA (mergeF F0 [putDF F0 Q K Y, putDF F0 P K X]) from okA_fit (join_okA (join_okA (put_writes Heu.out).1 _) _))
                    rw [HGv.out, HGu.out] at m1 m2 FB
                    rw [HGv.out] at f1
                    rw [HGu.out] at f2
                    obtain ⟨B, hB0⟩ : ∃ B, mergeF F0 [Gu, Gv] = B := ⟨_, rfl⟩
                    have HB0 := Kept.mk hB0
                    rw [hB0] at m2 FB
                    have M1 := Kept.mk m1
                    have M2 := Kept.mk m2
                    have FX := Kept.mk f1
                    have FY := Kept.mk f2
                    clear hB0 m1 m2 f1 f2
                    ((with_reducible refine (gd_put F0 Q K Y 0 Gu _ _ Xa.out FFa.out g0 g2 Heu.out HGu.out).mono ?_); rintro e U ⟨v', rfl, ⟨p', m', rfl, hp', hm'⟩, hb1⟩)
                    obtain ⟨K1, K2, K3, K4, K5⟩ := enew U Gu p' m' hp' hm' U.heap.size rfl
                    clear hp' hm'
                    clear Xa Sa Ia ka0 ka1 ka2
                    replace hB := Kept.mk (hB.out.trans ((hb1).mono hB.out.size))
                    replace Va := Kept.mk (Va.out.keep (hb1))
                    replace Vv := Kept.mk (Vv.out.keep (hb1))
                    clear hb1
                    go_wp2_with (have hz0 := K1; refine wpList_storeN 30 rfl (.tmp 34) (.tmp 143) rfl U.heap.size [.string ⟨Gu.key.toArray⟩, .int .i64 Gu.val.kind, .int .i64 Gu.val.time, .int .i64 Gu.val.node, .bool Gu.val.dead, .string ⟨Gu.val.text.toArray⟩, p', m', .int .u64 (Gu.val.flags.toNat : Int)] size_en rfl rfl K1.out rfl K2.out K5.out ?_; replace hB := Kept.mk (hB.out.trans ((K3.out).mono hB.out.size)); replace Va := Kept.mk (Va.out.keep (K3.out)); replace Vv := Kept.mk (Vv.out.keep (K3.out)); have Vu := Kept.mk (show VarN _ _ Gu from ⟨_, _, K4.out⟩); clear hz0 K1 K2 K3 K4 K5; generalize setN (U.alloc (.cells #[.string ⟨#[]⟩, .int .i64 0, .int .i64 0, .int .i64 0, .bool false, .string ⟨#[]⟩, .slice none 0 0, .slice none 0 0, .int .u64 0] 30)) U.heap.size 0 [.string ⟨Gu.key.toArray⟩, .int .i64 Gu.val.kind, .int .i64 Gu.val.time, .int .i64 Gu.val.node, .bool Gu.val.dead, .string ⟨Gu.val.text.toArray⟩, p', m', .int .u64 (Gu.val.flags.toNat : Int)] = W9 at *; generalize U.heap.size = gu at *; obtain ⟨qa, ra, xa, sa, ia, ka0, ka1, ka2⟩ := Va.out.open_; have Xa := Kept.mk xa; have Sa := Kept.mk sa; have Ia := Kept.mk ia; clear xa sa ia; obtain ⟨qu, ru, xu, yu, ku0, ku1, ku2, ku3, ku4, ku5, ku6, ku7, ku8⟩ := Vu.out.open_; have Xu := Kept.mk xu; have Yu := Kept.mk yu; clear xu yu; obtain ⟨qv, rv, xv, yv, kv0, kv1, kv2, kv3, kv4, kv5, kv6, kv7, kv8⟩ := Vv.out.open_; have Xv := Kept.mk xv; have Yv := Kept.mk yv; clear xv yv)
                    ((with_reducible refine (w_mrow2 F0 Gu Gv B _ _ _ _ _ _ Xa.out Xu.out Xv.out FFa.out FY.out FX.out HB0.out M1.out).mono ?_); rintro e U ⟨v', n9, rfl, ⟨p', m', rfl, hp', hm'⟩, hb1⟩)
                    obtain ⟨K1, K2, K3, K4, K5⟩ := anew U B p' m' hp' hm' U.heap.size rfl
                    clear hp' hm'
                    clear Xa Sa Ia ka0 ka1 ka2
                    clear Xu Yu ku0 ku1 ku2 ku3 ku4 ku5 ku6 ku7 ku8
                    clear Xv Yv kv0 kv1 kv2 kv3 kv4 kv5 kv6 kv7 kv8
                    replace hB := Kept.mk (hB.out.trans ((hb1).mono hB.out.size))
                    replace Va := Kept.mk (Va.out.keep (hb1))
                    replace Vv := Kept.mk (Vv.out.keep (hb1))
                    replace Vu := Kept.mk (Vu.out.keep (hb1))
                    clear hb1
                    go_wp2_with (have hz0 := K1; refine wpList_storeN 25 rfl (.tmp 36) (.tmp 158) rfl U.heap.size [.int .i64 B.cap, p', m'] size_ar rfl rfl K1.out rfl K2.out K5.out ?_; replace hB := Kept.mk (hB.out.trans ((K3.out).mono hB.out.size)); replace Va := Kept.mk (Va.out.keep (K3.out)); replace Vv := Kept.mk (Vv.out.keep (K3.out)); replace Vu := Kept.mk (Vu.out.keep (K3.out)); have Vb := Kept.mk K4.out; clear hz0 K1 K2 K3 K4 K5; generalize setN (U.alloc (.cells #[.int .i64 0, .slice none 0 0, .slice none 0 0] 25)) U.heap.size 0 [.int .i64 B.cap, p', m'] = W10 at *; generalize U.heap.size = gb at *; obtain ⟨qb, rb, xb, sb, ib, kb0, kb1, kb2⟩ := Vb.out.open_; have Xb := Kept.mk xb; have Sb := Kept.mk sb; have Ib := Kept.mk ib; clear xb sb ib)
                    ((with_reducible refine (gd_text B K Y _ _ _ Xb.out FB.out M2.out rfl).mono ?_); rintro e W11 ⟨rfl, hb1⟩)
                    clear Xb Sb Ib kb0 kb1 kb2
                    replace hB := Kept.mk (hB.out.trans ((hb1).mono hB.out.size))
                    replace Va := Kept.mk (Va.out.keep (hb1))
                    replace Vv := Kept.mk (Vv.out.keep (hb1))
                    replace Vu := Kept.mk (Vu.out.keep (hb1))
                    replace Vb := Kept.mk (Vb.out.keep (hb1))
                    clear hb1
                    go_wp2
                    all_goals go_ret
                    all_goals exact ⟨rfl, hB.out⟩
                  · skip
                    subst h0
                    ((with_reducible refine (gd_put F0 Q K Y eu Gu _ _ Xa.out FFa.out g0 g2 Heu.out HGu.out).mono ?_); rintro e U ⟨v', rfl, ⟨p', m', rfl, hp', hm'⟩, hb1⟩)
                    obtain ⟨K1, K2, K3, K4, K5⟩ := enew U Gu p' m' hp' hm' U.heap.size rfl
                    clear hp' hm'
                    clear Xa Sa Ia ka0 ka1 ka2
                    replace hB := Kept.mk (hB.out.trans ((hb1).mono hB.out.size))
                    replace Va := Kept.mk (Va.out.keep (hb1))
                    replace Vv := Kept.mk (Vv.out.keep (hb1))
                    clear hb1
                    go_wp2_with (have hz0 := K1; refine wpList_storeN 30 rfl (.tmp 34) (.tmp 143) rfl U.heap.size [.string ⟨Gu.key.toArray⟩, .int .i64 Gu.val.kind, .int .i64 Gu.val.time, .int .i64 Gu.val.node, .bool Gu.val.dead, .string ⟨Gu.val.text.toArray⟩, p', m', .int .u64 (Gu.val.flags.toNat : Int)] size_en rfl rfl K1.out rfl K2.out K5.out ?_; replace hB := Kept.mk (hB.out.trans ((K3.out).mono hB.out.size)); replace Va := Kept.mk (Va.out.keep (K3.out)); replace Vv := Kept.mk (Vv.out.keep (K3.out)); have Vu := Kept.mk (show VarN _ _ Gu from ⟨_, _, K4.out⟩); clear hz0 K1 K2 K3 K4 K5; generalize setN (U.alloc (.cells #[.string ⟨#[]⟩, .int .i64 0, .int .i64 0, .int .i64 0, .bool false, .string ⟨#[]⟩, .slice none 0 0, .slice none 0 0, .int .u64 0] 30)) U.heap.size 0 [.string ⟨Gu.key.toArray⟩, .int .i64 Gu.val.kind, .int .i64 Gu.val.time, .int .i64 Gu.val.node, .bool Gu.val.dead, .string ⟨Gu.val.text.toArray⟩, p', m', .int .u64 (Gu.val.flags.toNat : Int)] = W9 at *; generalize U.heap.size = gu at *)
                    go_wp2
                    all_goals go_ret
                    all_goals exact ⟨rfl, hB.out⟩
                · skip
                  ((with_reducible refine (gd_put F0 Q K Y eu Gu _ _ Xa.out FFa.out g0 g2 Heu.out HGu.out).mono ?_); rintro e U ⟨v', rfl, ⟨p', m', rfl, hp', hm'⟩, hb1⟩)
                  obtain ⟨K1, K2, K3, K4, K5⟩ := enew U Gu p' m' hp' hm' U.heap.size rfl
                  clear hp' hm'
                  clear Xa Sa Ia ka0 ka1 ka2
                  replace hB := Kept.mk (hB.out.trans ((hb1).mono hB.out.size))
                  replace Va := Kept.mk (Va.out.keep (hb1))
                  replace Vv := Kept.mk (Vv.out.keep (hb1))
                  clear hb1
                  go_wp2_with (have hz0 := K1; refine wpList_storeN 30 rfl (.tmp 34) (.tmp 143) rfl U.heap.size [.string ⟨Gu.key.toArray⟩, .int .i64 Gu.val.kind, .int .i64 Gu.val.time, .int .i64 Gu.val.node, .bool Gu.val.dead, .string ⟨Gu.val.text.toArray⟩, p', m', .int .u64 (Gu.val.flags.toNat : Int)] size_en rfl rfl K1.out rfl K2.out K5.out ?_; replace hB := Kept.mk (hB.out.trans ((K3.out).mono hB.out.size)); replace Va := Kept.mk (Va.out.keep (K3.out)); replace Vv := Kept.mk (Vv.out.keep (K3.out)); have Vu := Kept.mk (show VarN _ _ Gu from ⟨_, _, K4.out⟩); clear hz0 K1 K2 K3 K4 K5; generalize setN (U.alloc (.cells #[.string ⟨#[]⟩, .int .i64 0, .int .i64 0, .int .i64 0, .bool false, .string ⟨#[]⟩, .slice none 0 0, .slice none 0 0, .int .u64 0] 30)) U.heap.size 0 [.string ⟨Gu.key.toArray⟩, .int .i64 Gu.val.kind, .int .i64 Gu.val.time, .int .i64 Gu.val.node, .bool Gu.val.dead, .string ⟨Gu.val.text.toArray⟩, p', m', .int .u64 (Gu.val.flags.toNat : Int)] = W9 at *; generalize U.heap.size = gu at *)
                  go_wp2
                  all_goals go_ret
                  all_goals exact ⟨rfl, hB.out⟩
              · skip
                subst h0
                go_wp2_with (have hz0 := K1; refine wpList_storeN 30 rfl (.tmp 23) (.tmp 89) rfl U.heap.size [.string ⟨Gy.key.toArray⟩, .int .i64 Gy.val.kind, .int .i64 Gy.val.time, .int .i64 Gy.val.node, .bool Gy.val.dead, .string ⟨Gy.val.text.toArray⟩, p', m', .int .u64 (Gy.val.flags.toNat : Int)] size_en rfl rfl K1.out rfl K2.out K5.out ?_; replace hB := Kept.mk (hB.out.trans ((K3.out).mono hB.out.size)); replace Va := Kept.mk (Va.out.keep (K3.out)); replace Vx := Kept.mk (Vx.out.keep (K3.out)); have Vy := Kept.mk (show VarN _ _ Gy from ⟨_, _, K4.out⟩); clear hz0 K1 K2 K3 K4 K5; generalize setN (U.alloc (.cells #[.string ⟨#[]⟩, .int .i64 0, .int .i64 0, .int .i64 0, .bool false, .string ⟨#[]⟩, .slice none 0 0, .slice none 0 0, .int .u64 0] 30)) U.heap.size 0 [.string ⟨Gy.key.toArray⟩, .int .i64 Gy.val.kind, .int .i64 Gy.val.time, .int .i64 Gy.val.node, .bool Gy.val.dead, .string ⟨Gy.val.text.toArray⟩, p', m', .int .u64 (Gy.val.flags.toNat : Int)] = W4 at *; generalize U.heap.size = gy at *; obtain ⟨qa, ra, xa, sa, ia, ka0, ka1, ka2⟩ := Va.out.open_; have Xa := Kept.mk xa; have Sa := Kept.mk sa; have Ia := Kept.mk ia; clear xa sa ia; obtain ⟨qx, rx, xx, yx, kx0, kx1, kx2, kx3, kx4, kx5, kx6, kx7, kx8⟩ := Vx.out.open_; have Xx := Kept.mk xx; have Yx := Kept.mk yx; clear xx yx; obtain ⟨qy, ry, xy, yy, ky0, ky1, ky2, ky3, ky4, ky5, ky6, ky7, ky8⟩ := Vy.out.open_; have Xy := Kept.mk xy; have Yy := Kept.mk yy; clear xy yy; skip)
                clear Vx Vy h1
                clear Xx Yx Xy Yy kx0 kx1 kx2 kx3 kx4 kx5 kx6 kx7 kx8 ky0 ky1 ky2 ky3 ky4 ky5 ky6 ky7 ky8
                ((with_reducible refine (gd_put F0 P K X ev Gv _ _ Xa.out FFa.out g0 g1 Hev.out HGv.out).mono ?_); rintro e U ⟨v', rfl, ⟨p', m', rfl, hp', hm'⟩, hb1⟩)
                obtain ⟨K1, K2, K3, K4, K5⟩ := enew U Gv p' m' hp' hm' U.heap.size rfl
                clear hp' hm'
                clear Xa Sa Ia ka0 ka1 ka2
                replace hB := Kept.mk (hB.out.trans ((hb1).mono hB.out.size))
                replace Va := Kept.mk (Va.out.keep (hb1))
                clear hb1
                go_wp2_with (have hz0 := K1; refine wpList_storeN 30 rfl (.tmp 32) (.tmp 135) rfl U.heap.size [.string ⟨Gv.key.toArray⟩, .int .i64 Gv.val.kind, .int .i64 Gv.val.time, .int .i64 Gv.val.node, .bool Gv.val.dead, .string ⟨Gv.val.text.toArray⟩, p', m', .int .u64 (Gv.val.flags.toNat : Int)] size_en rfl rfl K1.out rfl K2.out K5.out ?_; replace hB := Kept.mk (hB.out.trans ((K3.out).mono hB.out.size)); replace Va := Kept.mk (Va.out.keep (K3.out)); have Vv := Kept.mk (show VarN _ _ Gv from ⟨_, _, K4.out⟩); clear hz0 K1 K2 K3 K4 K5; generalize setN (U.alloc (.cells #[.string ⟨#[]⟩, .int .i64 0, .int .i64 0, .int .i64 0, .bool false, .string ⟨#[]⟩, .slice none 0 0, .slice none 0 0, .int .u64 0] 30)) U.heap.size 0 [.string ⟨Gv.key.toArray⟩, .int .i64 Gv.val.kind, .int .i64 Gv.val.time, .int .i64 Gv.val.node, .bool Gv.val.dead, .string ⟨Gv.val.text.toArray⟩, p', m', .int .u64 (Gv.val.flags.toNat : Int)] = W5 at *; generalize U.heap.size = gv at *; obtain ⟨qa, ra, xa, sa, ia, ka0, ka1, ka2⟩ := Va.out.open_; have Xa := Kept.mk xa; have Sa := Kept.mk sa; have Ia := Kept.mk ia; clear xa sa ia)
                by_cases h0 : ev = 0
                · skip
                  by_cases h1 : eu = 0
                  · skip
                    subst h0 h1
                    obtain ⟨m1, m2⟩ := put_two Hev.out Heu.out (by omega)
                    have f1 := (put_facts Hev.out).1
                    have f2 := (put_facts Heu.out).1
                    have FB := Kept.mk (show FitA (mergeF F0 [putDF F0 Q K Y, putDF F0 P K X]) from okA_fit (join_okA (join_okA (put_writes Heu.out).1 _) _))
                    rw [HGv.out, HGu.out] at m1 m2 FB
                    rw [HGv.out] at f1
                    rw [HGu.out] at f2
                    obtain ⟨B, hB0⟩ : ∃ B, mergeF F0 [Gu, Gv] = B := ⟨_, rfl⟩
                    have HB0 := Kept.mk hB0
                    rw [hB0] at m2 FB
                    have M1 := Kept.mk m1
                    have M2 := Kept.mk m2
                    have FX := Kept.mk f1
                    have FY := Kept.mk f2
                    clear hB0 m1 m2 f1 f2
                    ((with_reducible refine (gd_put F0 Q K Y 0 Gu _ _ Xa.out FFa.out g0 g2 Heu.out HGu.out).mono ?_); rintro e U ⟨v', rfl, ⟨p', m', rfl, hp', hm'⟩, hb1⟩)
                    obtain ⟨K1, K2, K3, K4, K5⟩ := enew U Gu p' m' hp' hm' U.heap.size rfl
                    clear hp' hm'
                    clear Xa Sa Ia ka0 ka1 ka2
                    replace hB := Kept.mk (hB.out.trans ((hb1).mono hB.out.size))
                    replace Va := Kept.mk (Va.out.keep (hb1))
                    replace Vv := Kept.mk (Vv.out.keep (hb1))
                    clear hb1
                    go_wp2_with (have hz0 := K1; refine wpList_storeN 30 rfl (.tmp 34) (.tmp 143) rfl U.heap.size [.string ⟨Gu.key.toArray⟩, .int .i64 Gu.val.kind, .int .i64 Gu.val.time, .int .i64 Gu.val.node, .bool Gu.val.dead, .string ⟨Gu.val.text.toArray⟩, p', m', .int .u64 (Gu.val.flags.toNat : Int)] size_en rfl rfl K1.out rfl K2.out K5.out ?_; replace hB := Kept.mk (hB.out.trans ((K3.out).mono hB.out.size)); replace Va := Kept.mk (Va.out.keep (K3.out)); replace Vv := Kept.mk (Vv.out.keep (K3.out)); have Vu := Kept.mk (show VarN _ _ Gu from ⟨_, _, K4.out⟩); clear hz0 K1 K2 K3 K4 K5; generalize setN (U.alloc (.cells #[.string ⟨#[]⟩, .int .i64 0, .int .i64 0, .int .i64 0, .bool false, .string ⟨#[]⟩, .slice none 0 0, .slice none 0 0, .int .u64 0] 30)) U.heap.size 0 [.string ⟨Gu.key.toArray⟩, .int .i64 Gu.val.kind, .int .i64 Gu.val.time, .int .i64 Gu.val.node, .bool Gu.val.dead, .string ⟨Gu.val.text.toArray⟩, p', m', .int .u64 (Gu.val.flags.toNat : Int)] = W6 at *; generalize U.heap.size = gu at *; obtain ⟨qa, ra, xa, sa, ia, ka0, ka1, ka2⟩ := Va.out.open_; have Xa := Kept.mk xa; have Sa := Kept.mk sa; have Ia := Kept.mk ia; clear xa sa ia; obtain ⟨qu, ru, xu, yu, ku0, ku1, ku2, ku3, ku4, ku5, ku6, ku7, ku8⟩ := Vu.out.open_; have Xu := Kept.mk xu; have Yu := Kept.mk yu; clear xu yu; obtain ⟨qv, rv, xv, yv, kv0, kv1, kv2, kv3, kv4, kv5, kv6, kv7, kv8⟩ := Vv.out.open_; have Xv := Kept.mk xv; have Yv := Kept.mk yv; clear xv yv)
                    ((with_reducible refine (w_mrow2 F0 Gu Gv B _ _ _ _ _ _ Xa.out Xu.out Xv.out FFa.out FY.out FX.out HB0.out M1.out).mono ?_); rintro e U ⟨v', n9, rfl, ⟨p', m', rfl, hp', hm'⟩, hb1⟩)
                    obtain ⟨K1, K2, K3, K4, K5⟩ := anew U B p' m' hp' hm' U.heap.size rfl
                    clear hp' hm'
                    clear Xa Sa Ia ka0 ka1 ka2
                    clear Xu Yu ku0 ku1 ku2 ku3 ku4 ku5 ku6 ku7 ku8
                    clear Xv Yv kv0 kv1 kv2 kv3 kv4 kv5 kv6 kv7 kv8
                    replace hB := Kept.mk (hB.out.trans ((hb1).mono hB.out.size))
                    replace Va := Kept.mk (Va.out.keep (hb1))
                    replace Vv := Kept.mk (Vv.out.keep (hb1))
                    replace Vu := Kept.mk (Vu.out.keep (hb1))
                    clear hb1
                    go_wp2_with (have hz0 := K1; refine wpList_storeN 25 rfl (.tmp 36) (.tmp 158) rfl U.heap.size [.int .i64 B.cap, p', m'] size_ar rfl rfl K1.out rfl K2.out K5.out ?_; replace hB := Kept.mk (hB.out.trans ((K3.out).mono hB.out.size)); replace Va := Kept.mk (Va.out.keep (K3.out)); replace Vv := Kept.mk (Vv.out.keep (K3.out)); replace Vu := Kept.mk (Vu.out.keep (K3.out)); have Vb := Kept.mk K4.out; clear hz0 K1 K2 K3 K4 K5; generalize setN (U.alloc (.cells #[.int .i64 0, .slice none 0 0, .slice none 0 0] 25)) U.heap.size 0 [.int .i64 B.cap, p', m'] = W7 at *; generalize U.heap.size = gb at *; obtain ⟨qb, rb, xb, sb, ib, kb0, kb1, kb2⟩ := Vb.out.open_; have Xb := Kept.mk xb; have Sb := Kept.mk sb; have Ib := Kept.mk ib; clear xb sb ib)
                    ((with_reducible refine (gd_text B K Y _ _ _ Xb.out FB.out M2.out rfl).mono ?_); rintro e W8 ⟨rfl, hb1⟩)
                    clear Xb Sb Ib kb0 kb1 kb2
                    replace hB := Kept.mk (hB.out.trans ((hb1).mono hB.out.size))
                    replace Va := Kept.mk (Va.out.keep (hb1))
                    replace Vv := Kept.mk (Vv.out.keep (hb1))
                    replace Vu := Kept.mk (Vu.out.keep (hb1))
                    replace Vb := Kept.mk (Vb.out.keep (hb1))
                    clear hb1
                    go_wp2
                    all_goals go_ret
                    all_goals exact ⟨rfl, hB.out⟩
                  · skip
                    subst h0
                    ((with_reducible refine (gd_put F0 Q K Y eu Gu _ _ Xa.out FFa.out g0 g2 Heu.out HGu.out).mono ?_); rintro e U ⟨v', rfl, ⟨p', m', rfl, hp', hm'⟩, hb1⟩)
                    obtain ⟨K1, K2, K3, K4, K5⟩ := enew U Gu p' m' hp' hm' U.heap.size rfl
                    clear hp' hm'
                    clear Xa Sa Ia ka0 ka1 ka2
                    replace hB := Kept.mk (hB.out.trans ((hb1).mono hB.out.size))
                    replace Va := Kept.mk (Va.out.keep (hb1))
                    replace Vv := Kept.mk (Vv.out.keep (hb1))
                    clear hb1
                    go_wp2_with (have hz0 := K1; refine wpList_storeN 30 rfl (.tmp 34) (.tmp 143) rfl U.heap.size [.string ⟨Gu.key.toArray⟩, .int .i64 Gu.val.kind, .int .i64 Gu.val.time, .int .i64 Gu.val.node, .bool Gu.val.dead, .string ⟨Gu.val.text.toArray⟩, p', m', .int .u64 (Gu.val.flags.toNat : Int)] size_en rfl rfl K1.out rfl K2.out K5.out ?_; replace hB := Kept.mk (hB.out.trans ((K3.out).mono hB.out.size)); replace Va := Kept.mk (Va.out.keep (K3.out)); replace Vv := Kept.mk (Vv.out.keep (K3.out)); have Vu := Kept.mk (show VarN _ _ Gu from ⟨_, _, K4.out⟩); clear hz0 K1 K2 K3 K4 K5; generalize setN (U.alloc (.cells #[.string ⟨#[]⟩, .int .i64 0, .int .i64 0, .int .i64 0, .bool false, .string ⟨#[]⟩, .slice none 0 0, .slice none 0 0, .int .u64 0] 30)) U.heap.size 0 [.string ⟨Gu.key.toArray⟩, .int .i64 Gu.val.kind, .int .i64 Gu.val.time, .int .i64 Gu.val.node, .bool Gu.val.dead, .string ⟨Gu.val.text.toArray⟩, p', m', .int .u64 (Gu.val.flags.toNat : Int)] = W6 at *; generalize U.heap.size = gu at *)
                    go_wp2
                    all_goals go_ret
                    all_goals exact ⟨rfl, hB.out⟩
                · skip
                  ((with_reducible refine (gd_put F0 Q K Y eu Gu _ _ Xa.out FFa.out g0 g2 Heu.out HGu.out).mono ?_); rintro e U ⟨v', rfl, ⟨p', m', rfl, hp', hm'⟩, hb1⟩)
                  obtain ⟨K1, K2, K3, K4, K5⟩ := enew U Gu p' m' hp' hm' U.heap.size rfl
                  clear hp' hm'
                  clear Xa Sa Ia ka0 ka1 ka2
                  replace hB := Kept.mk (hB.out.trans ((hb1).mono hB.out.size))
                  replace Va := Kept.mk (Va.out.keep (hb1))
                  replace Vv := Kept.mk (Vv.out.keep (hb1))
                  clear hb1
                  go_wp2_with (have hz0 := K1; refine wpList_storeN 30 rfl (.tmp 34) (.tmp 143) rfl U.heap.size [.string ⟨Gu.key.toArray⟩, .int .i64 Gu.val.kind, .int .i64 Gu.val.time, .int .i64 Gu.val.node, .bool Gu.val.dead, .string ⟨Gu.val.text.toArray⟩, p', m', .int .u64 (Gu.val.flags.toNat : Int)] size_en rfl rfl K1.out rfl K2.out K5.out ?_; replace hB := Kept.mk (hB.out.trans ((K3.out).mono hB.out.size)); replace Va := Kept.mk (Va.out.keep (K3.out)); replace Vv := Kept.mk (Vv.out.keep (K3.out)); have Vu := Kept.mk (show VarN _ _ Gu from ⟨_, _, K4.out⟩); clear hz0 K1 K2 K3 K4 K5; generalize setN (U.alloc (.cells #[.string ⟨#[]⟩, .int .i64 0, .int .i64 0, .int .i64 0, .bool false, .string ⟨#[]⟩, .slice none 0 0, .slice none 0 0, .int .u64 0] 30)) U.heap.size 0 [.string ⟨Gu.key.toArray⟩, .int .i64 Gu.val.kind, .int .i64 Gu.val.time, .int .i64 Gu.val.node, .bool Gu.val.dead, .string ⟨Gu.val.text.toArray⟩, p', m', .int .u64 (Gu.val.flags.toNat : Int)] = W6 at *; generalize U.heap.size = gu at *)
                  go_wp2
                  all_goals go_ret
                  all_goals exact ⟨rfl, hB.out⟩
            · skip
              go_wp2_with (have hz0 := K1; refine wpList_storeN 30 rfl (.tmp 23) (.tmp 89) rfl U.heap.size [.string ⟨Gy.key.toArray⟩, .int .i64 Gy.val.kind, .int .i64 Gy.val.time, .int .i64 Gy.val.node, .bool Gy.val.dead, .string ⟨Gy.val.text.toArray⟩, p', m', .int .u64 (Gy.val.flags.toNat : Int)] size_en rfl rfl K1.out rfl K2.out K5.out ?_; replace hB := Kept.mk (hB.out.trans ((K3.out).mono hB.out.size)); replace Va := Kept.mk (Va.out.keep (K3.out)); replace Vx := Kept.mk (Vx.out.keep (K3.out)); have Vy := Kept.mk (show VarN _ _ Gy from ⟨_, _, K4.out⟩); clear hz0 K1 K2 K3 K4 K5; generalize setN (U.alloc (.cells #[.string ⟨#[]⟩, .int .i64 0, .int .i64 0, .int .i64 0, .bool false, .string ⟨#[]⟩, .slice none 0 0, .slice none 0 0, .int .u64 0] 30)) U.heap.size 0 [.string ⟨Gy.key.toArray⟩, .int .i64 Gy.val.kind, .int .i64 Gy.val.time, .int .i64 Gy.val.node, .bool Gy.val.dead, .string ⟨Gy.val.text.toArray⟩, p', m', .int .u64 (Gy.val.flags.toNat : Int)] = W4 at *; generalize U.heap.size = gy at *; obtain ⟨qa, ra, xa, sa, ia, ka0, ka1, ka2⟩ := Va.out.open_; have Xa := Kept.mk xa; have Sa := Kept.mk sa; have Ia := Kept.mk ia; clear xa sa ia; obtain ⟨qx, rx, xx, yx, kx0, kx1, kx2, kx3, kx4, kx5, kx6, kx7, kx8⟩ := Vx.out.open_; have Xx := Kept.mk xx; have Yx := Kept.mk yx; clear xx yx; obtain ⟨qy, ry, xy, yy, ky0, ky1, ky2, ky3, ky4, ky5, ky6, ky7, ky8⟩ := Vy.out.open_; have Xy := Kept.mk xy; have Yy := Kept.mk yy; clear xy yy; skip)
              clear Vx Vy h0
              clear Xx Yx Xy Yy kx0 kx1 kx2 kx3 kx4 kx5 kx6 kx7 kx8 ky0 ky1 ky2 ky3 ky4 ky5 ky6 ky7 ky8
              ((with_reducible refine (gd_put F0 P K X ev Gv _ _ Xa.out FFa.out g0 g1 Hev.out HGv.out).mono ?_); rintro e U ⟨v', rfl, ⟨p', m', rfl, hp', hm'⟩, hb1⟩)
              obtain ⟨K1, K2, K3, K4, K5⟩ := enew U Gv p' m' hp' hm' U.heap.size rfl
              clear hp' hm'
              clear Xa Sa Ia ka0 ka1 ka2
              replace hB := Kept.mk (hB.out.trans ((hb1).mono hB.out.size))
              replace Va := Kept.mk (Va.out.keep (hb1))
              clear hb1
              go_wp2_with (have hz0 := K1; refine wpList_storeN 30 rfl (.tmp 32) (.tmp 135) rfl U.heap.size [.string ⟨Gv.key.toArray⟩, .int .i64 Gv.val.kind, .int .i64 Gv.val.time, .int .i64 Gv.val.node, .bool Gv.val.dead, .string ⟨Gv.val.text.toArray⟩, p', m', .int .u64 (Gv.val.flags.toNat : Int)] size_en rfl rfl K1.out rfl K2.out K5.out ?_; replace hB := Kept.mk (hB.out.trans ((K3.out).mono hB.out.size)); replace Va := Kept.mk (Va.out.keep (K3.out)); have Vv := Kept.mk (show VarN _ _ Gv from ⟨_, _, K4.out⟩); clear hz0 K1 K2 K3 K4 K5; generalize setN (U.alloc (.cells #[.string ⟨#[]⟩, .int .i64 0, .int .i64 0, .int .i64 0, .bool false, .string ⟨#[]⟩, .slice none 0 0, .slice none 0 0, .int .u64 0] 30)) U.heap.size 0 [.string ⟨Gv.key.toArray⟩, .int .i64 Gv.val.kind, .int .i64 Gv.val.time, .int .i64 Gv.val.node, .bool Gv.val.dead, .string ⟨Gv.val.text.toArray⟩, p', m', .int .u64 (Gv.val.flags.toNat : Int)] = W5 at *; generalize U.heap.size = gv at *; obtain ⟨qa, ra, xa, sa, ia, ka0, ka1, ka2⟩ := Va.out.open_; have Xa := Kept.mk xa; have Sa := Kept.mk sa; have Ia := Kept.mk ia; clear xa sa ia)
              by_cases h0 : ev = 0
              · skip
                by_cases h1 : eu = 0
                · skip
                  subst h0 h1
                  obtain ⟨m1, m2⟩ := put_two Hev.out Heu.out (by omega)
                  have f1 := (put_facts Hev.out).1
                  have f2 := (put_facts Heu.out).1
                  have FB := Kept.mk (show FitA (mergeF F0 [putDF F0 Q K Y, putDF F0 P K X]) from okA_fit (join_okA (join_okA (put_writes Heu.out).1 _) _))
                  rw [HGv.out, HGu.out] at m1 m2 FB
                  rw [HGv.out] at f1
                  rw [HGu.out] at f2
                  obtain ⟨B, hB0⟩ : ∃ B, mergeF F0 [Gu, Gv] = B := ⟨_, rfl⟩
                  have HB0 := Kept.mk hB0
                  rw [hB0] at m2 FB
                  have M1 := Kept.mk m1
                  have M2 := Kept.mk m2
                  have FX := Kept.mk f1
                  have FY := Kept.mk f2
                  clear hB0 m1 m2 f1 f2
                  ((with_reducible refine (gd_put F0 Q K Y 0 Gu _ _ Xa.out FFa.out g0 g2 Heu.out HGu.out).mono ?_); rintro e U ⟨v', rfl, ⟨p', m', rfl, hp', hm'⟩, hb1⟩)
                  obtain ⟨K1, K2, K3, K4, K5⟩ := enew U Gu p' m' hp' hm' U.heap.size rfl
                  clear hp' hm'
                  clear Xa Sa Ia ka0 ka1 ka2
                  replace hB := Kept.mk (hB.out.trans ((hb1).mono hB.out.size))
                  replace Va := Kept.mk (Va.out.keep (hb1))
                  replace Vv := Kept.mk (Vv.out.keep (hb1))
                  clear hb1
                  go_wp2_with (have hz0 := K1; refine wpList_storeN 30 rfl (.tmp 34) (.tmp 143) rfl U.heap.size [.string ⟨Gu.key.toArray⟩, .int .i64 Gu.val.kind, .int .i64 Gu.val.time, .int .i64 Gu.val.node, .bool Gu.val.dead, .string ⟨Gu.val.text.toArray⟩, p', m', .int .u64 (Gu.val.flags.toNat : Int)] size_en rfl rfl K1.out rfl K2.out K5.out ?_; replace hB := Kept.mk (hB.out.trans ((K3.out).mono hB.out.size)); replace Va := Kept.mk (Va.out.keep (K3.out)); replace Vv := Kept.mk (Vv.out.keep (K3.out)); have Vu := Kept.mk (show VarN _ _ Gu from ⟨_, _, K4.out⟩); clear hz0 K1 K2 K3 K4 K5; generalize setN (U.alloc (.cells #[.string ⟨#[]⟩, .int .i64 0, .int .i64 0, .int .i64 0, .bool false, .string ⟨#[]⟩, .slice none 0 0, .slice none 0 0, .int .u64 0] 30)) U.heap.size 0 [.string ⟨Gu.key.toArray⟩, .int .i64 Gu.val.kind, .int .i64 Gu.val.time, .int .i64 Gu.val.node, .bool Gu.val.dead, .string ⟨Gu.val.text.toArray⟩, p', m', .int .u64 (Gu.val.flags.toNat : Int)] = W6 at *; generalize U.heap.size = gu at *; obtain ⟨qa, ra, xa, sa, ia, ka0, ka1, ka2⟩ := Va.out.open_; have Xa := Kept.mk xa; have Sa := Kept.mk sa; have Ia := Kept.mk ia; clear xa sa ia; obtain ⟨qu, ru, xu, yu, ku0, ku1, ku2, ku3, ku4, ku5, ku6, ku7, ku8⟩ := Vu.out.open_; have Xu := Kept.mk xu; have Yu := Kept.mk yu; clear xu yu; obtain ⟨qv, rv, xv, yv, kv0, kv1, kv2, kv3, kv4, kv5, kv6, kv7, kv8⟩ := Vv.out.open_; have Xv := Kept.mk xv; have Yv := Kept.mk yv; clear xv yv)
                  ((with_reducible refine (w_mrow2 F0 Gu Gv B _ _ _ _ _ _ Xa.out Xu.out Xv.out FFa.out FY.out FX.out HB0.out M1.out).mono ?_); rintro e U ⟨v', n9, rfl, ⟨p', m', rfl, hp', hm'⟩, hb1⟩)
                  obtain ⟨K1, K2, K3, K4, K5⟩ := anew U B p' m' hp' hm' U.heap.size rfl
                  clear hp' hm'
                  clear Xa Sa Ia ka0 ka1 ka2
                  clear Xu Yu ku0 ku1 ku2 ku3 ku4 ku5 ku6 ku7 ku8
                  clear Xv Yv kv0 kv1 kv2 kv3 kv4 kv5 kv6 kv7 kv8
                  replace hB := Kept.mk (hB.out.trans ((hb1).mono hB.out.size))
                  replace Va := Kept.mk (Va.out.keep (hb1))
                  replace Vv := Kept.mk (Vv.out.keep (hb1))
                  replace Vu := Kept.mk (Vu.out.keep (hb1))
                  clear hb1
                  go_wp2_with (have hz0 := K1; refine wpList_storeN 25 rfl (.tmp 36) (.tmp 158) rfl U.heap.size [.int .i64 B.cap, p', m'] size_ar rfl rfl K1.out rfl K2.out K5.out ?_; replace hB := Kept.mk (hB.out.trans ((K3.out).mono hB.out.size)); replace Va := Kept.mk (Va.out.keep (K3.out)); replace Vv := Kept.mk (Vv.out.keep (K3.out)); replace Vu := Kept.mk (Vu.out.keep (K3.out)); have Vb := Kept.mk K4.out; clear hz0 K1 K2 K3 K4 K5; generalize setN (U.alloc (.cells #[.int .i64 0, .slice none 0 0, .slice none 0 0] 25)) U.heap.size 0 [.int .i64 B.cap, p', m'] = W7 at *; generalize U.heap.size = gb at *; obtain ⟨qb, rb, xb, sb, ib, kb0, kb1, kb2⟩ := Vb.out.open_; have Xb := Kept.mk xb; have Sb := Kept.mk sb; have Ib := Kept.mk ib; clear xb sb ib)
                  ((with_reducible refine (gd_text B K Y _ _ _ Xb.out FB.out M2.out rfl).mono ?_); rintro e W8 ⟨rfl, hb1⟩)
                  clear Xb Sb Ib kb0 kb1 kb2
                  replace hB := Kept.mk (hB.out.trans ((hb1).mono hB.out.size))
                  replace Va := Kept.mk (Va.out.keep (hb1))
                  replace Vv := Kept.mk (Vv.out.keep (hb1))
                  replace Vu := Kept.mk (Vu.out.keep (hb1))
                  replace Vb := Kept.mk (Vb.out.keep (hb1))
                  clear hb1
                  go_wp2
                  all_goals go_ret
                  all_goals exact ⟨rfl, hB.out⟩
                · skip
                  subst h0
                  ((with_reducible refine (gd_put F0 Q K Y eu Gu _ _ Xa.out FFa.out g0 g2 Heu.out HGu.out).mono ?_); rintro e U ⟨v', rfl, ⟨p', m', rfl, hp', hm'⟩, hb1⟩)
                  obtain ⟨K1, K2, K3, K4, K5⟩ := enew U Gu p' m' hp' hm' U.heap.size rfl
                  clear hp' hm'
                  clear Xa Sa Ia ka0 ka1 ka2
                  replace hB := Kept.mk (hB.out.trans ((hb1).mono hB.out.size))
                  replace Va := Kept.mk (Va.out.keep (hb1))
                  replace Vv := Kept.mk (Vv.out.keep (hb1))
                  clear hb1
                  go_wp2_with (have hz0 := K1; refine wpList_storeN 30 rfl (.tmp 34) (.tmp 143) rfl U.heap.size [.string ⟨Gu.key.toArray⟩, .int .i64 Gu.val.kind, .int .i64 Gu.val.time, .int .i64 Gu.val.node, .bool Gu.val.dead, .string ⟨Gu.val.text.toArray⟩, p', m', .int .u64 (Gu.val.flags.toNat : Int)] size_en rfl rfl K1.out rfl K2.out K5.out ?_; replace hB := Kept.mk (hB.out.trans ((K3.out).mono hB.out.size)); replace Va := Kept.mk (Va.out.keep (K3.out)); replace Vv := Kept.mk (Vv.out.keep (K3.out)); have Vu := Kept.mk (show VarN _ _ Gu from ⟨_, _, K4.out⟩); clear hz0 K1 K2 K3 K4 K5; generalize setN (U.alloc (.cells #[.string ⟨#[]⟩, .int .i64 0, .int .i64 0, .int .i64 0, .bool false, .string ⟨#[]⟩, .slice none 0 0, .slice none 0 0, .int .u64 0] 30)) U.heap.size 0 [.string ⟨Gu.key.toArray⟩, .int .i64 Gu.val.kind, .int .i64 Gu.val.time, .int .i64 Gu.val.node, .bool Gu.val.dead, .string ⟨Gu.val.text.toArray⟩, p', m', .int .u64 (Gu.val.flags.toNat : Int)] = W6 at *; generalize U.heap.size = gu at *)
                  go_wp2
                  all_goals go_ret
                  all_goals exact ⟨rfl, hB.out⟩
              · skip
                ((with_reducible refine (gd_put F0 Q K Y eu Gu _ _ Xa.out FFa.out g0 g2 Heu.out HGu.out).mono ?_); rintro e U ⟨v', rfl, ⟨p', m', rfl, hp', hm'⟩, hb1⟩)
                obtain ⟨K1, K2, K3, K4, K5⟩ := enew U Gu p' m' hp' hm' U.heap.size rfl
                clear hp' hm'
                clear Xa Sa Ia ka0 ka1 ka2
                replace hB := Kept.mk (hB.out.trans ((hb1).mono hB.out.size))
                replace Va := Kept.mk (Va.out.keep (hb1))
                replace Vv := Kept.mk (Vv.out.keep (hb1))
                clear hb1
                go_wp2_with (have hz0 := K1; refine wpList_storeN 30 rfl (.tmp 34) (.tmp 143) rfl U.heap.size [.string ⟨Gu.key.toArray⟩, .int .i64 Gu.val.kind, .int .i64 Gu.val.time, .int .i64 Gu.val.node, .bool Gu.val.dead, .string ⟨Gu.val.text.toArray⟩, p', m', .int .u64 (Gu.val.flags.toNat : Int)] size_en rfl rfl K1.out rfl K2.out K5.out ?_; replace hB := Kept.mk (hB.out.trans ((K3.out).mono hB.out.size)); replace Va := Kept.mk (Va.out.keep (K3.out)); replace Vv := Kept.mk (Vv.out.keep (K3.out)); have Vu := Kept.mk (show VarN _ _ Gu from ⟨_, _, K4.out⟩); clear hz0 K1 K2 K3 K4 K5; generalize setN (U.alloc (.cells #[.string ⟨#[]⟩, .int .i64 0, .int .i64 0, .int .i64 0, .bool false, .string ⟨#[]⟩, .slice none 0 0, .slice none 0 0, .int .u64 0] 30)) U.heap.size 0 [.string ⟨Gu.key.toArray⟩, .int .i64 Gu.val.kind, .int .i64 Gu.val.time, .int .i64 Gu.val.node, .bool Gu.val.dead, .string ⟨Gu.val.text.toArray⟩, p', m', .int .u64 (Gu.val.flags.toNat : Int)] = W6 at *; generalize U.heap.size = gu at *)
                go_wp2
                all_goals go_ret
                all_goals exact ⟨rfl, hB.out⟩
set_option maxRecDepth 100000 in
theorem deltaTwo_lifted (os : Os) (started : os.Started) (H : Type) (enc : TypeId × Value → H) :
    ReturnsInHanded {} Tryz.checked os 7 .any (Rows.deltaTwoSpec.pre6 enc Tryz.prog Tryz.f7 Rows.deltaTwoRow.domain false) (Rows.deltaTwoSpec.post enc Tryz.prog Tryz.f7 false true false false) := by
  refine returnsInHanded_of_change (C := Tryz.checked) (by kernel_rfl : ownKnob Tryz.prog.godebug = none) started (by kernel_rfl) Tryz.func7
    (ChangeSpec.witness6 (enc := enc) (C := Tryz.checked) false ⟨#[], #[.agg #[.int .i64 0, .slice none 0 0, .slice none 0 0], .int .u8 0, .int .u8 0, .string ByteArray.empty, .int .i64 0, .int .i64 0, .string ByteArray.empty, .string ByteArray.empty], []⟩ 8 (by kernel_rfl) (by kernel_rfl) (by kernel_rfl) (by kernel_rfl)) ?_
  intro W base args ds gs before hval0 hW hcnd _
  have hval : ∀ (j : Nat) t v, Tryz.f7.params[j]? = some t → args[j]? = some v → Value.okWide Tryz.prog W .any base t v := hval0
  have hW' := hW
  obtain ⟨p, q, hA0, hV, rfl, hfz, hnd⟩ := hW
  have hA : DataW.TrodAll enc Tryz.prog W 0 (fun _ => true) true Tryz.f7.params.toList args.toList ds p := hA0
  rw [Tryz.params7] at hA hval
  obtain ⟨v0, vs0, d0, ds0, p0, q0, hargs, rfl, rfl, h0, r0⟩ := trodAll_cons hA
  obtain ⟨v1, vs1, d1, ds1, p1, q1, rfl, rfl, rfl, h1, r1⟩ := trodAll_cons r0
  obtain ⟨v2, vs2, d2, ds2, p2, q2, rfl, rfl, rfl, h2, r2⟩ := trodAll_cons r1
  obtain ⟨v3, vs3, d3, ds3, p3, q3, rfl, rfl, rfl, h3, r3⟩ := trodAll_cons r2
  obtain ⟨v4, vs4, d4, ds4, p4, q4, rfl, rfl, rfl, h4, r4⟩ := trodAll_cons r3
  obtain ⟨v5, vs5, d5, ds5, p5, q5, rfl, rfl, rfl, h5, r5⟩ := trodAll_cons r4
  obtain ⟨v6, vs6, d6, ds6, p6, q6, rfl, rfl, rfl, h6, r6⟩ := trodAll_cons r5
  obtain ⟨v7, vs7, d7, ds7, p7, q7, rfl, rfl, rfl, h7, r7⟩ := trodAll_cons r6
  obtain ⟨rfl, rfl, rfl⟩ := trodAll_nil r7
  obtain rfl : args = #[v0, v1, v2, v3, v4, v5, v6, v7] := by cases args; simp_all
  obtain ⟨rfl, rfl⟩ := trodVars_none hV
  obtain ⟨F0, fl0, w0⟩ := open_ar (hval 0 25 v0 rfl rfl) h0
  have lt0 : ∀ x ∈ p0, x.block < W.heap.size := fun x hx => by obtain ⟨fuel, hf⟩ := h0; exact DataW.trod_lt fuel _ _ _ hf x hx
  obtain ⟨a1, rfl, rfl, rfl, w1⟩ := open_int Tryz.underlying5 (hval 1 5 v1 rfl rfl) h1
  obtain ⟨a2, rfl, rfl, rfl, w2⟩ := open_int Tryz.underlying5 (hval 2 5 v2 rfl rfl) h2
  obtain ⟨a3, rfl, rfl, rfl, w3⟩ := open_string Tryz.underlying9 (hval 3 9 v3 rfl rfl) h3
  obtain ⟨a4, rfl, rfl, rfl, w4⟩ := open_int Tryz.underlying3 (hval 4 3 v4 rfl rfl) h4
  obtain ⟨a5, rfl, rfl, rfl, w5⟩ := open_int Tryz.underlying3 (hval 5 3 v5 rfl rfl) h5
  obtain ⟨a6, rfl, rfl, rfl, w6⟩ := open_string Tryz.underlying9 (hval 6 9 v6 rfl rfl) h6
  obtain ⟨a7, rfl, rfl, rfl, w7⟩ := open_string Tryz.underlying9 (hval 7 9 v7 rfl rfl) h7
  clear hA0 hval0
  simp only [List.append_nil] at hW'
  refine (deltaTwo_walk F0 v0 a1 a2 a3 a4 a5 a6 a7 w0 w1 w2 w3 w4 w5 w6 w7 W fl0).mono fun e W' ⟨he, bel⟩ => ?_
  subst he
  exact ⟨_, rfl, _, _, _, [], _, [], hW', trodAll_mk1 (shut_bool Tryz.underlying4 _), (trodAll_cons_mk (Below.trod (by kernel_rfl) (by kernel_rfl) (of_decide_eq_true (by kernel_rfl)) h0 bel lt0) (trodAll_cons_mk (shut_int Tryz.underlying5 w1) (trodAll_cons_mk (shut_int Tryz.underlying5 w2) (trodAll_cons_mk (shut_string Tryz.underlying9 w3) (trodAll_cons_mk (shut_int Tryz.underlying3 w4) (trodAll_cons_mk (shut_int Tryz.underlying3 w5) (trodAll_cons_mk (shut_string Tryz.underlying9 w6) (trodAll_cons_mk (shut_string Tryz.underlying9 w7) trodAll_mk0)))))))), rfl, bel.frame _, fun h => by cases h⟩
/-- THE STATEMENT. -/
theorem deltaTwo_proved : Rows.DeltaTwoSaid :=
  OpenClaim.holds_of_wide 7 Tryz.f7 rfl rfl rfl rfl rfl rfl rfl ⟨rfl, rfl, rfl, rfl, rfl⟩ rfl rfl rfl rfl rfl (by kernel_rfl) Tryz.func7 (by kernel_rfl)
    (of_decide_eq_true (by kernel_rfl)) (by unfold Func.isWrapper; first | (rw [if_pos (by decide +kernel)]; kernel_rfl) | (rw [if_neg (by decide +kernel)]; exact ⟨rfl, rfl⟩))
    (fun os started H enc _ => deltaTwo_lifted os started H enc)
#print axioms deltaTwo_proved
end Go.Proofs.YtbgconagkgfplaaGreat
