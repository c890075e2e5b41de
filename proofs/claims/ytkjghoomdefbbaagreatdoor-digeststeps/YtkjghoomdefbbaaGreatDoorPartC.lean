/- Joined texts: contracts of the program's functions, and the mathematics that they lean on. -/
import Derived.Test.YtkjghoomdefbbaaGreatDoorPartB
import Derived.RangeFuncNested
import Derived.OrdersIn
import Derived.RangeFuncCalls
section
namespace Go.Proofs.YtkjghoomdefbbaaGreatDoor
open Go.RowKit
set_option linter.unusedVariables false
set_option linter.unusedSimpArgs false
attribute [local irreducible] setN

theorem checkV_chk (E : En) (h1 : 1 ≤ E.key.length) (h8 : E.key.length ≤ 8) : chkE E = checkV E.val := by
  unfold chkE checkV okE
  simp only [h1, h8, decide_true, Bool.true_and]
theorem chk_bad (E : En) (h : ¬ (1 ≤ E.key.length ∧ E.key.length ≤ 8)) : chkE E = 2 := by
  unfold chkE
  rw [if_neg]
  simp only [okE, Bool.and_eq_true, decide_eq_true_eq]
  rintro ⟨⟨h1, h2⟩, _⟩
  exact h ⟨h1, h2⟩
set_option maxRecDepth 100000 in
set_option maxHeartbeats 2000000 in
theorem echeck_any (E : En) (v : Value) (w : World) (hv : isEn E v w) (hF : FitE E) : Calls Tryz.prog 55 #[v] w fun e w' => e = .returned (.int .i64 (chkE E)) ∧ Below w.heap.size w w' := by
  have hk := hF.key
  have hs : (⟨E.key.toArray⟩ : ByteArray).size = E.key.length := by simp [ByteArray.size]
  obtain ⟨pe, me, rfl, hpe, hme⟩ := hv
  obtain ⟨hB, Ve⟩ := ebox w E pe me hpe hme (w.heap.size) (by simp)
  clear hpe hme
  obtain ⟨qe, re, xe, ye, ke0, ke1, ke2, ke3, ke4, ke5, ke6, ke7, ke8⟩ := Ve.out.open_
  have Xe := Kept.mk xe
  have Ye := Kept.mk ye
  clear xe ye
  by_cases h1 : (E.key.length : Int) < 1
  · have HC := Kept.mk (chk_bad E (by omega))
    go_enter Tryz.func55, Tryz.ntmps55
    go_wp2
    go_ret
    exact ⟨by rw [HC.out]; rfl, hB.out⟩
  · have d1 : decide ((E.key.length : Int) < 1) = false := by simpa using h1
    by_cases h8 : (8 : Int) < E.key.length
    · have HC := Kept.mk (chk_bad E (by omega))
      have d8 : decide ((8 : Int) < E.key.length) = true := by simpa using h8
      go_enter Tryz.func55, Tryz.ntmps55
      go_wp2
      go_ret
      exact ⟨by rw [HC.out]; rfl, hB.out⟩
    · have HC := Kept.mk (checkV_chk E (by omega) (by omega))
      have d8 : decide ((8 : Int) < E.key.length) = false := by simpa using h8
      go_enter Tryz.func55, Tryz.ntmps55
      go_wp2_with fail
      refine (vcheck_any E.val _ _ Ye.out hF.val).mono ?_
      rintro e W1 ⟨rfl, hb1⟩
      replace hB := Kept.mk (hB.out.trans (hb1.mono hB.out.size))
      clear hb1 Xe Ye ke0 ke1 ke2 ke3 ke4 ke5 ke6 ke7 ke8 Ve
      generalize hcv : checkV E.val = cv
      have HV := Kept.mk hcv
      clear hcv
      go_wp2
      go_ret
      exact ⟨by rw [HC.out, HV.out]; rfl, hB.out⟩
set_option maxRecDepth 100000 in
set_option maxHeartbeats 2000000 in
theorem eless_any (A B : En) (v u : Value) (w : World) (hv : isEn A v w) (hu : isEn B u w) : Calls Tryz.prog 82 #[v, u] w fun e w' => e = .returned (.bool (lessE A B)) ∧ Below w.heap.size w w' := by
  obtain ⟨pa, ma, rfl, hpa, hma⟩ := hv
  obtain ⟨pb, mb, rfl, hpb, hmb⟩ := hu
  obtain ⟨hB, Va⟩ := ebox w A pa ma hpa hma (w.heap.size) (by simp)
  obtain ⟨hBn, Vb⟩ := ebox (w.alloc (.cells #[.string ⟨A.key.toArray⟩, .int .i64 A.val.kind, .int .i64 A.val.time, .int .i64 A.val.node, .bool A.val.dead, .string ⟨A.val.text.toArray⟩, pa, ma, .int .u64 (A.val.flags.toNat : Int)] 48)) B pb mb (stable_cells _ _ _ _ hpb hB.out) (stable_cells _ _ _ _ hmb hB.out) (w.heap.size + 1) (by simp)
  replace Va := Kept.mk (Va.out.keep hBn.out)
  replace hB := Kept.mk (hB.out.trans (hBn.out.mono hB.out.size))
  clear hBn
  clear hpa hma hpb hmb
  obtain ⟨qa, ra, xa, ya, ka0, ka1, ka2, ka3, ka4, ka5, ka6, ka7, ka8⟩ := Va.out.open_
  have Xa := Kept.mk xa
  have Ya := Kept.mk ya
  clear xa ya
  obtain ⟨qb, rb, xb, yb, kb0, kb1, kb2, kb3, kb4, kb5, kb6, kb7, kb8⟩ := Vb.out.open_
  have Xb := Kept.mk xb
  have Yb := Kept.mk yb
  clear xb yb
  cases hk : (A.val.kind == B.val.kind) with
  | true =>
    have HC := Kept.mk (show lessE A B = Op.bytesLess A.key B.key by unfold lessE; rw [if_pos (by simpa using hk)])
    go_enter Tryz.func82, Tryz.ntmps82
    go_wp2
    go_ret
    exact ⟨by rw [HC.out]; rfl, hB.out⟩
  | false =>
    have HC := Kept.mk (show lessE A B = decide (A.val.kind < B.val.kind) by unfold lessE; rw [if_neg (by simpa using hk)])
    go_enter Tryz.func82, Tryz.ntmps82
    go_wp2
    go_ret
    exact ⟨by rw [HC.out]; rfl, hB.out⟩
theorem same_en (A B : En) : decide (A = B) = ((A.key == B.key) && decide (A.val = B.val)) := by
  obtain ⟨a, x⟩ := A
  obtain ⟨b, y⟩ := B
  rw [Bool.eq_iff_iff]
  simp only [decide_eq_true_eq, Bool.and_eq_true, beq_iff_eq, En.mk.injEq]
set_option maxRecDepth 100000 in
set_option maxHeartbeats 2000000 in
theorem esame_any (A B : En) (v u : Value) (w : World) (hv : isEn A v w) (hu : isEn B u w) (hA : Fit A.val) (hF : Fit B.val) : Calls Tryz.prog 101 #[v, u] w fun e w' => e = .returned (.bool (decide (A = B))) ∧ Below w.heap.size w w' := by
  have HS := Kept.mk (same_en A B)
  obtain ⟨pa, ma, rfl, hpa, hma⟩ := hv
  obtain ⟨pb, mb, rfl, hpb, hmb⟩ := hu
  obtain ⟨hB, Va⟩ := ebox w A pa ma hpa hma (w.heap.size) (by simp)
  obtain ⟨hBn, Vb⟩ := ebox (w.alloc (.cells #[.string ⟨A.key.toArray⟩, .int .i64 A.val.kind, .int .i64 A.val.time, .int .i64 A.val.node, .bool A.val.dead, .string ⟨A.val.text.toArray⟩, pa, ma, .int .u64 (A.val.flags.toNat : Int)] 48)) B pb mb (stable_cells _ _ _ _ hpb hB.out) (stable_cells _ _ _ _ hmb hB.out) (w.heap.size + 1) (by simp)
  replace Va := Kept.mk (Va.out.keep hBn.out)
  replace hB := Kept.mk (hB.out.trans (hBn.out.mono hB.out.size))
  clear hBn
  clear hpa hma hpb hmb
  obtain ⟨qa, ra, xa, ya, ka0, ka1, ka2, ka3, ka4, ka5, ka6, ka7, ka8⟩ := Va.out.open_
  have Xa := Kept.mk xa
  have Ya := Kept.mk ya
  clear xa ya
  obtain ⟨qb, rb, xb, yb, kb0, kb1, kb2, kb3, kb4, kb5, kb6, kb7, kb8⟩ := Vb.out.open_
  have Xb := Kept.mk xb
  have Yb := Kept.mk yb
  clear xb yb
  cases hk : (A.key == B.key) with
  | false =>
    go_enter Tryz.func101, Tryz.ntmps101
    go_wp2
    go_ret
    exact ⟨by rw [HS.out, hk]; rfl, hB.out⟩
  | true =>
    have HK := Kept.mk hk
    go_enter Tryz.func101, Tryz.ntmps101
    go_wp2_with fail
    refine (vsame_fit A.val B.val _ _ _ Ya.out Yb.out hA hF).mono ?_
    rintro e W1 ⟨rfl, hb1⟩
    replace hB := Kept.mk (hB.out.trans (hb1.mono hB.out.size))
    clear hb1 Xa Xb Ya Yb Va Vb ka0 ka1 ka2 ka3 ka4 ka5 ka6 ka7 ka8 kb0 kb1 kb2 kb3 kb4 kb5 kb6 kb7 kb8
    generalize hz : decide (A.val = B.val) = z
    have HV := Kept.mk hz
    clear hz
    go_wp2
    go_ret
    exact ⟨by rw [HS.out, HK.out, HV.out]; rfl, hB.out⟩
end Go.Proofs.YtkjghoomdefbbaaGreatDoor
end
section
namespace Go.Proofs.YtkjghoomdefbbaaGreatDoor
open Go.RowKit
set_option linter.unusedVariables false
set_option linter.unusedSimpArgs false
attribute [local irreducible] setN

structure JSt (w W : World) (A B : En) (pa ma pb mb : Value) : Prop where
  hb : Below w.heap.size w W
  a : Blk W w.heap.size [.string ⟨A.key.toArray⟩, .int .i64 A.val.kind, .int .i64 A.val.time, .int .i64 A.val.node, .bool A.val.dead, .string ⟨A.val.text.toArray⟩, pa, ma, .int .u64 (A.val.flags.toNat : Int)]
  b : Blk W (w.heap.size + 1) [.string ⟨B.key.toArray⟩, .int .i64 B.val.kind, .int .i64 B.val.time, .int .i64 B.val.node, .bool B.val.dead, .string ⟨B.val.text.toArray⟩, pb, mb, .int .u64 (B.val.flags.toNat : Int)]
  r : Blk W (w.heap.size + 1 + 1) [.string ⟨#[]⟩, .int .i64 0, .int .i64 0, .int .i64 0, .bool false, .string ⟨#[]⟩, .slice none 0 0, .slice none 0 0, .int .u64 0]
  s : Blk W (w.heap.size + 1 + 1 + 1) [.string ⟨A.key.toArray⟩, .int .i64 A.val.kind, .int .i64 A.val.time, .int .i64 A.val.node, .bool A.val.dead, .string ⟨A.val.text.toArray⟩, pa, ma, .int .u64 (A.val.flags.toNat : Int), .string ⟨B.key.toArray⟩, .int .i64 B.val.kind, .int .i64 B.val.time, .int .i64 B.val.node, .bool B.val.dead, .string ⟨B.val.text.toArray⟩, pb, mb, .int .u64 (B.val.flags.toNat : Int)]
theorem JSt.keep {w W W' : World} {A B : En} {pa ma pb mb : Value} (h : JSt w W A B pa ma pb mb) (k : Below W.heap.size W W') : JSt w W' A B pa ma pb mb :=
  ⟨h.hb.trans (k.mono h.hb.size), h.a.keep k, h.b.keep k, h.r.keep k, h.s.keep k⟩
theorem jst_new (w : World) (A B : En) (pa ma pb mb : Value) : JSt w ((((w.alloc (.cells #[.string ⟨A.key.toArray⟩, .int .i64 A.val.kind, .int .i64 A.val.time, .int .i64 A.val.node, .bool A.val.dead, .string ⟨A.val.text.toArray⟩, pa, ma, .int .u64 (A.val.flags.toNat : Int)] 48)).alloc (.cells #[.string ⟨B.key.toArray⟩, .int .i64 B.val.kind, .int .i64 B.val.time, .int .i64 B.val.node, .bool B.val.dead, .string ⟨B.val.text.toArray⟩, pb, mb, .int .u64 (B.val.flags.toNat : Int)] 48)).alloc (.cells #[.string ⟨#[]⟩, .int .i64 0, .int .i64 0, .int .i64 0, .bool false, .string ⟨#[]⟩, .slice none 0 0, .slice none 0 0, .int .u64 0] 48)).alloc (.cells #[.string ⟨A.key.toArray⟩, .int .i64 A.val.kind, .int .i64 A.val.time, .int .i64 A.val.node, .bool A.val.dead, .string ⟨A.val.text.toArray⟩, pa, ma, .int .u64 (A.val.flags.toNat : Int), .string ⟨B.key.toArray⟩, .int .i64 B.val.kind, .int .i64 B.val.time, .int .i64 B.val.node, .bool B.val.dead, .string ⟨B.val.text.toArray⟩, pb, mb, .int .u64 (B.val.flags.toNat : Int)] 48)) A B pa ma pb mb where
  hb := ((((Below.refl _ w).alloc (Nat.le_refl _) _).alloc (by simp) _).alloc (by simp; omega) _).alloc (by simp; omega) _
  a := (((Blk.new w 48 _ _ rfl).alloc _).alloc _).alloc _
  b := ((Blk.new (w.alloc (.cells #[.string ⟨A.key.toArray⟩, .int .i64 A.val.kind, .int .i64 A.val.time, .int .i64 A.val.node, .bool A.val.dead, .string ⟨A.val.text.toArray⟩, pa, ma, .int .u64 (A.val.flags.toNat : Int)] 48)) 48 _ _ (by simp)).alloc _).alloc _
  r := (Blk.new ((w.alloc (.cells #[.string ⟨A.key.toArray⟩, .int .i64 A.val.kind, .int .i64 A.val.time, .int .i64 A.val.node, .bool A.val.dead, .string ⟨A.val.text.toArray⟩, pa, ma, .int .u64 (A.val.flags.toNat : Int)] 48)).alloc (.cells #[.string ⟨B.key.toArray⟩, .int .i64 B.val.kind, .int .i64 B.val.time, .int .i64 B.val.node, .bool B.val.dead, .string ⟨B.val.text.toArray⟩, pb, mb, .int .u64 (B.val.flags.toNat : Int)] 48)) 48 _ _ (by simp)).alloc _
  s := Blk.new (((w.alloc (.cells #[.string ⟨A.key.toArray⟩, .int .i64 A.val.kind, .int .i64 A.val.time, .int .i64 A.val.node, .bool A.val.dead, .string ⟨A.val.text.toArray⟩, pa, ma, .int .u64 (A.val.flags.toNat : Int)] 48)).alloc (.cells #[.string ⟨B.key.toArray⟩, .int .i64 B.val.kind, .int .i64 B.val.time, .int .i64 B.val.node, .bool B.val.dead, .string ⟨B.val.text.toArray⟩, pb, mb, .int .u64 (B.val.flags.toNat : Int)] 48)).alloc (.cells #[.string ⟨#[]⟩, .int .i64 0, .int .i64 0, .int .i64 0, .bool false, .string ⟨#[]⟩, .slice none 0 0, .slice none 0 0, .int .u64 0] 48)) 48 _ _ (by simp)
theorem chk_ok {E : En} (h : okE E = true) : chkE E = 0 := by unfold chkE; rw [if_pos h]
theorem chk_no {E : En} (h : okE E = false) : chkE E = 2 := by unfold chkE; rw [h]; rfl
set_option maxRecDepth 100000 in
set_option maxHeartbeats 4000000 in
theorem ejoin_any (A B : En) (v u : Value) (w : World) (hv : isEn A v w) (hu : isEn B u w) (hA : FitE A) (hF : FitE B) : Calls Tryz.prog 100 #[v, u] w fun e w' => ∃ v', e = .returned (.tuple #[v', .int .i64 (joinEE A B)]) ∧ isEnN w.heap.size (joinEF A B) v' w' ∧ Below w.heap.size w w' := by
  obtain ⟨pa, ma, rfl, hpa, hma⟩ := hv
  obtain ⟨pb, mb, rfl, hpb, hmb⟩ := hu
  have HPA := Kept.mk hpa
  have HMA := Kept.mk hma
  have HPB := Kept.mk hpb
  have HMB := Kept.mk hmb
  clear hpa hma hpb hmb
  have J := Kept.mk (jst_new w A B pa ma pb mb)
  go_enter Tryz.func100, Tryz.ntmps100
  go_wp2
  generalize ((((w.alloc (.cells #[.string ⟨A.key.toArray⟩, .int .i64 A.val.kind, .int .i64 A.val.time, .int .i64 A.val.node, .bool A.val.dead, .string ⟨A.val.text.toArray⟩, pa, ma, .int .u64 (A.val.flags.toNat : Int)] 48)).alloc (.cells #[.string ⟨B.key.toArray⟩, .int .i64 B.val.kind, .int .i64 B.val.time, .int .i64 B.val.node, .bool B.val.dead, .string ⟨B.val.text.toArray⟩, pb, mb, .int .u64 (B.val.flags.toNat : Int)] 48)).alloc (.cells #[.string ⟨#[]⟩, .int .i64 0, .int .i64 0, .int .i64 0, .bool false, .string ⟨#[]⟩, .slice none 0 0, .slice none 0 0, .int .u64 0] 48)).alloc (.cells #[.string ⟨A.key.toArray⟩, .int .i64 A.val.kind, .int .i64 A.val.time, .int .i64 A.val.node, .bool A.val.dead, .string ⟨A.val.text.toArray⟩, pa, ma, .int .u64 (A.val.flags.toNat : Int), .string ⟨B.key.toArray⟩, .int .i64 B.val.kind, .int .i64 B.val.time, .int .i64 B.val.node, .bool B.val.dead, .string ⟨B.val.text.toArray⟩, pb, mb, .int .u64 (B.val.flags.toNat : Int)] 48)) = W0 at *
  go_loopw [15] (fun i wr => ∃ k : Nat, k ≤ 2 ∧ i = .int .i64 (k : Int) ∧ Kept (JSt w wr A B pa ma pb mb) ∧ Kept (1 ≤ k → okE A = true) ∧ Kept (k = 2 → okE B = true)) (fun i _ => 2 - (intOf i).toNat)
  case atStart => exact ⟨0, by omega, rfl, J, ⟨by omega⟩, ⟨by omega⟩⟩
  case round =>
    clear J
    obtain ⟨k, hk, rfl, J, O1, O2⟩ := hrel
    have hsz := J.out.r.lt
    rcases (show k = 0 ∨ k = 1 ∨ k = 2 by omega) with rfl | rfl | rfl
    · have ks0 := J.out.s.cells.2 0 _ rfl
      have ks1 := J.out.s.cells.2 1 _ rfl
      have ks2 := J.out.s.cells.2 2 _ rfl
      have ks3 := J.out.s.cells.2 3 _ rfl
      have ks4 := J.out.s.cells.2 4 _ rfl
      have ks5 := J.out.s.cells.2 5 _ rfl
      have ks6 := J.out.s.cells.2 6 _ rfl
      have ks7 := J.out.s.cells.2 7 _ rfl
      have ks8 := J.out.s.cells.2 8 _ rfl
      obtain ⟨K1, K2, K3, K4, K5⟩ := enew wr A pa ma (stable_cells _ _ _ _ HPA.out J.out.hb) (stable_cells _ _ _ _ HMA.out J.out.hb) wr.heap.size rfl
      go_wp2_with (have hz0 := K1; refine wpList_storeN 48 rfl (.tmp 7) (.tmp 18) rfl wr.heap.size [.string ⟨A.key.toArray⟩, .int .i64 A.val.kind, .int .i64 A.val.time, .int .i64 A.val.node, .bool A.val.dead, .string ⟨A.val.text.toArray⟩, pa, ma, .int .u64 (A.val.flags.toNat : Int)] size_en rfl rfl K1.out rfl K2.out K5.out ?_; replace J := Kept.mk (J.out.keep K3.out); clear hz0 K1 K2 K3 K5 ks0 ks1 ks2 ks3 ks4 ks5 ks6 ks7 ks8; generalize setN (wr.alloc (.cells #[.string ⟨#[]⟩, .int .i64 0, .int .i64 0, .int .i64 0, .bool false, .string ⟨#[]⟩, .slice none 0 0, .slice none 0 0, .int .u64 0] 48)) wr.heap.size 0 [.string ⟨A.key.toArray⟩, .int .i64 A.val.kind, .int .i64 A.val.time, .int .i64 A.val.node, .bool A.val.dead, .string ⟨A.val.text.toArray⟩, pa, ma, .int .u64 (A.val.flags.toNat : Int)] = W1 at *; have kx0 := K4.out.1.2 0 _ rfl; have kx1 := K4.out.1.2 1 _ rfl; have kx2 := K4.out.1.2 2 _ rfl; have kx3 := K4.out.1.2 3 _ rfl; have kx4 := K4.out.1.2 4 _ rfl; have kx5 := K4.out.1.2 5 _ rfl; have kx6 := K4.out.1.2 6 _ rfl; have kx7 := K4.out.1.2 7 _ rfl; have kx8 := K4.out.1.2 8 _ rfl)
      refine (echeck_any A _ W1 ⟨_, _, rfl, K4.out.2.1, K4.out.2.2⟩ hA).mono ?_
      rintro e W2 ⟨rfl, hb⟩
      replace J := Kept.mk (J.out.keep hb)
      clear hb K4 kx0 kx1 kx2 kx3 kx4 kx5 kx6 kx7 kx8
      cases hok : okE A with
      | true =>
        rw [chk_ok hok]
        have HO := Kept.mk hok
        clear hok
        go_wp2
        go_roundw
        case rel => exact ⟨1, by omega, by go_num, J, ⟨fun _ => HO.out⟩, ⟨fun h => by omega⟩⟩
        case measure => simp [intOf]
      | false =>
        rw [chk_no hok]
        have HO := Kept.mk hok
        clear hok
        have KZ : Kept (Ones [.string ⟨#[]⟩, .int .i64 0, .int .i64 0, .int .i64 0, .bool false, .string ⟨#[]⟩, .slice none 0 0, .slice none 0 0, .int .u64 0]) := ⟨⟨rfl, rfl, rfl, rfl, rfl, rfl, rfl, rfl, rfl, trivial⟩⟩
        go_wp2_with (refine wpList_storeN 48 rfl (.tmp 4) (.tmp 23) rfl (w.heap.size + 1 + 1) [.string ⟨#[]⟩, .int .i64 0, .int .i64 0, .int .i64 0, .bool false, .string ⟨#[]⟩, .slice none 0 0, .slice none 0 0, .int .u64 0] size_en rfl rfl J.out.r.cells rfl J.out.r.free KZ.out ?_)
        have e1 : joinEE A B = 2 := by unfold joinEE; rw [HO.out]; rfl
        have e2 : joinEF A B = zeroE := by unfold joinEF; rw [e1]; rfl
        rw [e1, e2]
        exact bodyPost_ret (resultsN2 rfl _ _ (w.heap.size + 1 + 1) _ (.int .i64 2) size_en agg_en rfl rfl (J.out.r.all_ rfl).cells) rfl ⟨_, rfl, ⟨.slice none 0 0, .slice none 0 0, rfl, .inl ⟨rfl, rfl⟩, .inl ⟨rfl, rfl⟩, newB_nil _, newB_nil _⟩, below_setN (by omega) _ 0 _ J.out.hb⟩
    · have ks0 := J.out.s.cells.2 9 _ rfl
      have ks1 := J.out.s.cells.2 10 _ rfl
      have ks2 := J.out.s.cells.2 11 _ rfl
      have ks3 := J.out.s.cells.2 12 _ rfl
      have ks4 := J.out.s.cells.2 13 _ rfl
      have ks5 := J.out.s.cells.2 14 _ rfl
      have ks6 := J.out.s.cells.2 15 _ rfl
      have ks7 := J.out.s.cells.2 16 _ rfl
      have ks8 := J.out.s.cells.2 17 _ rfl
      obtain ⟨K1, K2, K3, K4, K5⟩ := enew wr B pb mb (stable_cells _ _ _ _ HPB.out J.out.hb) (stable_cells _ _ _ _ HMB.out J.out.hb) wr.heap.size rfl
      go_wp2_with (have hz0 := K1; refine wpList_storeN 48 rfl (.tmp 7) (.tmp 18) rfl wr.heap.size [.string ⟨B.key.toArray⟩, .int .i64 B.val.kind, .int .i64 B.val.time, .int .i64 B.val.node, .bool B.val.dead, .string ⟨B.val.text.toArray⟩, pb, mb, .int .u64 (B.val.flags.toNat : Int)] size_en rfl rfl K1.out rfl K2.out K5.out ?_; replace J := Kept.mk (J.out.keep K3.out); clear hz0 K1 K2 K3 K5 ks0 ks1 ks2 ks3 ks4 ks5 ks6 ks7 ks8; generalize setN (wr.alloc (.cells #[.string ⟨#[]⟩, .int .i64 0, .int .i64 0, .int .i64 0, .bool false, .string ⟨#[]⟩, .slice none 0 0, .slice none 0 0, .int .u64 0] 48)) wr.heap.size 0 [.string ⟨B.key.toArray⟩, .int .i64 B.val.kind, .int .i64 B.val.time, .int .i64 B.val.node, .bool B.val.dead, .string ⟨B.val.text.toArray⟩, pb, mb, .int .u64 (B.val.flags.toNat : Int)] = W1 at *; have kx0 := K4.out.1.2 0 _ rfl; have kx1 := K4.out.1.2 1 _ rfl; have kx2 := K4.out.1.2 2 _ rfl; have kx3 := K4.out.1.2 3 _ rfl; have kx4 := K4.out.1.2 4 _ rfl; have kx5 := K4.out.1.2 5 _ rfl; have kx6 := K4.out.1.2 6 _ rfl; have kx7 := K4.out.1.2 7 _ rfl; have kx8 := K4.out.1.2 8 _ rfl)
      refine (echeck_any B _ W1 ⟨_, _, rfl, K4.out.2.1, K4.out.2.2⟩ hF).mono ?_
      rintro e W2 ⟨rfl, hb⟩
      replace J := Kept.mk (J.out.keep hb)
      clear hb K4 kx0 kx1 kx2 kx3 kx4 kx5 kx6 kx7 kx8
      cases hok : okE B with
      | true =>
        rw [chk_ok hok]
        have HO := Kept.mk hok
        clear hok
        go_wp2
        go_roundw
        case rel => exact ⟨2, by omega, by go_num, J, ⟨fun _ => O1.out (by omega)⟩, ⟨fun _ => HO.out⟩⟩
        case measure => simp [intOf]
      | false =>
        rw [chk_no hok]
        have HO := Kept.mk hok
        clear hok
        have KZ : Kept (Ones [.string ⟨#[]⟩, .int .i64 0, .int .i64 0, .int .i64 0, .bool false, .string ⟨#[]⟩, .slice none 0 0, .slice none 0 0, .int .u64 0]) := ⟨⟨rfl, rfl, rfl, rfl, rfl, rfl, rfl, rfl, rfl, trivial⟩⟩
        go_wp2_with (refine wpList_storeN 48 rfl (.tmp 4) (.tmp 23) rfl (w.heap.size + 1 + 1) [.string ⟨#[]⟩, .int .i64 0, .int .i64 0, .int .i64 0, .bool false, .string ⟨#[]⟩, .slice none 0 0, .slice none 0 0, .int .u64 0] size_en rfl rfl J.out.r.cells rfl J.out.r.free KZ.out ?_)
        have e1 : joinEE A B = 2 := by unfold joinEE; rw [HO.out]; rw [Bool.and_false]; rfl
        have e2 : joinEF A B = zeroE := by unfold joinEF; rw [e1]; rfl
        rw [e1, e2]
        exact bodyPost_ret (resultsN2 rfl _ _ (w.heap.size + 1 + 1) _ (.int .i64 2) size_en agg_en rfl rfl (J.out.r.all_ rfl).cells) rfl ⟨_, rfl, ⟨.slice none 0 0, .slice none 0 0, rfl, .inl ⟨rfl, rfl⟩, .inl ⟨rfl, rfl⟩, newB_nil _, newB_nil _⟩, below_setN (by omega) _ 0 _ J.out.hb⟩
    · have P1 := Kept.mk (O1.out (by omega))
      have P2 := Kept.mk (O2.out rfl)
      clear O1 O2
      have ka0 := J.out.a.cells.2 0 _ rfl
      have ka1 := J.out.a.cells.2 1 _ rfl
      have ka2 := J.out.a.cells.2 2 _ rfl
      have ka3 := J.out.a.cells.2 3 _ rfl
      have ka4 := J.out.a.cells.2 4 _ rfl
      have ka5 := J.out.a.cells.2 5 _ rfl
      have ka6 := J.out.a.cells.2 6 _ rfl
      have ka7 := J.out.a.cells.2 7 _ rfl
      have ka8 := J.out.a.cells.2 8 _ rfl
      have kb0 := J.out.b.cells.2 0 _ rfl
      have kb1 := J.out.b.cells.2 1 _ rfl
      have kb2 := J.out.b.cells.2 2 _ rfl
      have kb3 := J.out.b.cells.2 3 _ rfl
      have kb4 := J.out.b.cells.2 4 _ rfl
      have kb5 := J.out.b.cells.2 5 _ rfl
      have kb6 := J.out.b.cells.2 6 _ rfl
      have kb7 := J.out.b.cells.2 7 _ rfl
      have kb8 := J.out.b.cells.2 8 _ rfl
      cases hk : (A.val.kind == B.val.kind) with
      | false =>
        have hk2 : (A.val.kind != B.val.kind) = true := by simp [bne, hk]
        have KZ : Kept (Ones [.string ⟨#[]⟩, .int .i64 0, .int .i64 0, .int .i64 0, .bool false, .string ⟨#[]⟩, .slice none 0 0, .slice none 0 0, .int .u64 0]) := ⟨⟨rfl, rfl, rfl, rfl, rfl, rfl, rfl, rfl, rfl, trivial⟩⟩
        go_wp2_with (refine wpList_storeN 48 rfl (.tmp 4) (.tmp 40) rfl (w.heap.size + 1 + 1) [.string ⟨#[]⟩, .int .i64 0, .int .i64 0, .int .i64 0, .bool false, .string ⟨#[]⟩, .slice none 0 0, .slice none 0 0, .int .u64 0] size_en rfl rfl J.out.r.cells rfl J.out.r.free KZ.out ?_)
        have e1 : joinEE A B = 3 := by unfold joinEE; rw [P1.out, P2.out]; unfold nameB; rw [show decide (A.val.kind = B.val.kind) = false by simpa using hk]; rfl
        have e2 : joinEF A B = zeroE := by unfold joinEF; rw [e1]; rfl
        rw [e1, e2]
        exact bodyPost_ret (resultsN2 rfl _ _ (w.heap.size + 1 + 1) _ (.int .i64 3) size_en agg_en rfl rfl (J.out.r.all_ rfl).cells) rfl ⟨_, rfl, ⟨.slice none 0 0, .slice none 0 0, rfl, .inl ⟨rfl, rfl⟩, .inl ⟨rfl, rfl⟩, newB_nil _, newB_nil _⟩, below_setN (by omega) _ 0 _ J.out.hb⟩
      | true =>
        have hk2 : (A.val.kind != B.val.kind) = false := by simp [bne, hk]
        cases hy : (A.key == B.key) with
        | false =>
          have hy2 : (A.key != B.key) = true := by simp [bne, hy]
          have KZ : Kept (Ones [.string ⟨#[]⟩, .int .i64 0, .int .i64 0, .int .i64 0, .bool false, .string ⟨#[]⟩, .slice none 0 0, .slice none 0 0, .int .u64 0]) := ⟨⟨rfl, rfl, rfl, rfl, rfl, rfl, rfl, rfl, rfl, trivial⟩⟩
          go_wp2_with (refine wpList_storeN 48 rfl (.tmp 4) (.tmp 40) rfl (w.heap.size + 1 + 1) [.string ⟨#[]⟩, .int .i64 0, .int .i64 0, .int .i64 0, .bool false, .string ⟨#[]⟩, .slice none 0 0, .slice none 0 0, .int .u64 0] size_en rfl rfl J.out.r.cells rfl J.out.r.free KZ.out ?_)
          have e1 : joinEE A B = 3 := by unfold joinEE; rw [P1.out, P2.out]; unfold nameB; rw [show decide (A.key = B.key) = false by simpa using hy, Bool.and_false]; rfl
          have e2 : joinEF A B = zeroE := by unfold joinEF; rw [e1]; rfl
          rw [e1, e2]
          exact bodyPost_ret (resultsN2 rfl _ _ (w.heap.size + 1 + 1) _ (.int .i64 3) size_en agg_en rfl rfl (J.out.r.all_ rfl).cells) rfl ⟨_, rfl, ⟨.slice none 0 0, .slice none 0 0, rfl, .inl ⟨rfl, rfl⟩, .inl ⟨rfl, rfl⟩, newB_nil _, newB_nil _⟩, below_setN (by omega) _ 0 _ J.out.hb⟩
        | true =>
          have hy2 : (A.key != B.key) = false := by simp [bne, hy]
          have HK := Kept.mk (show A.val.kind = B.val.kind by simpa using hk)
          have HY := Kept.mk (show A.key = B.key by simpa using hy)
          go_wp2_with fail
          clear hk hy hk2 hy2 ka0 kb0 ka1 kb1 ka2 kb2 ka3 kb3 ka4 kb4 ka5 kb5 ka6 kb6 ka7 kb7 ka8 kb8
          refine (vjoin_any A.val B.val _ _ wr ⟨pa, ma, rfl, stable_cells _ _ _ _ HPA.out J.out.hb, stable_cells _ _ _ _ HMA.out J.out.hb⟩ ⟨pb, mb, rfl, stable_cells _ _ _ _ HPB.out J.out.hb, stable_cells _ _ _ _ HMB.out J.out.hb⟩ hA.val hF.val).mono ?_
          rintro e U ⟨v', rfl, ⟨p', m', rfl, hp', hm', np, nm⟩, hb⟩
          replace J := Kept.mk (J.out.keep hb)
          clear hb
          obtain ⟨K1, K2, K3, K4, K5⟩ := vnew U (joinF A.val B.val) p' m' hp' hm' U.heap.size rfl
          have NP := Kept.mk np
          have NM := Kept.mk nm
          clear hp' hm' np nm
          generalize joinE A.val B.val = je
          go_wp2_with (first | (have hz0 := K1; refine wpList_storeN 46 rfl (.tmp 9) (.tmp 47) rfl U.heap.size [.int .i64 (joinF A.val B.val).kind, .int .i64 (joinF A.val B.val).time, .int .i64 (joinF A.val B.val).node, .bool (joinF A.val B.val).dead, .string ⟨(joinF A.val B.val).text.toArray⟩, p', m', .int .u64 ((joinF A.val B.val).flags.toNat : Int)] size_va rfl rfl K1.out rfl K2.out K5.out ?_; replace J := Kept.mk (J.out.keep K3.out); clear hz0 K1 K2 K3 K5; generalize setN (U.alloc (.cells #[.int .i64 0, .int .i64 0, .int .i64 0, .bool false, .string ⟨#[]⟩, .slice none 0 0, .slice none 0 0, .int .u64 0] 46)) U.heap.size 0 [.int .i64 (joinF A.val B.val).kind, .int .i64 (joinF A.val B.val).time, .int .i64 (joinF A.val B.val).node, .bool (joinF A.val B.val).dead, .string ⟨(joinF A.val B.val).text.toArray⟩, p', m', .int .u64 ((joinF A.val B.val).flags.toNat : Int)] = W1 at *; obtain ⟨Q1, Q2, Q3, Q4, Q5⟩ := eset (⟨A.key, joinF A.val B.val⟩ : En) p' m' (g := w.heap.size + 1 + 1) (B := w.heap.size) (by omega) J.out.hb J.out.r.cells rfl K4.out.2.1 K4.out.2.2 (NP.out.ne (by omega)) (NM.out.ne (by omega)); have ka0 := J.out.a.cells.2 0 _ rfl; have kg0 := K4.out.1.2 0 _ rfl; have kg1 := K4.out.1.2 1 _ rfl; have kg2 := K4.out.1.2 2 _ rfl; have kg3 := K4.out.1.2 3 _ rfl; have kg4 := K4.out.1.2 4 _ rfl; have kg5 := K4.out.1.2 5 _ rfl; have kg6 := K4.out.1.2 6 _ rfl; have kg7 := K4.out.1.2 7 _ rfl) | (have hz1 := Q5; refine wpList_storeN 48 rfl (.tmp 4) (.tmp 52) rfl (w.heap.size + 1 + 1) [.string ⟨A.key.toArray⟩, .int .i64 (joinF A.val B.val).kind, .int .i64 (joinF A.val B.val).time, .int .i64 (joinF A.val B.val).node, .bool (joinF A.val B.val).dead, .string ⟨(joinF A.val B.val).text.toArray⟩, p', m', .int .u64 ((joinF A.val B.val).flags.toNat : Int)] size_en rfl rfl J.out.r.cells rfl J.out.r.free Q5.out ?_; clear hz1 Q5))
          have e0 : nameB A B = true := by unfold nameB; simp [HK.out, HY.out]
          have e1 : joinEE A B = 0 := by unfold joinEE; rw [P1.out, P2.out, e0]; rfl
          have e3 : joinE A.val B.val = 0 := by
            have h1 := P1.out; have h2 := P2.out; unfold okE at h1 h2; rw [Bool.and_eq_true] at h1 h2; unfold joinE; rw [h1.2, h2.2, Bool.and_self, if_pos rfl, if_pos HK.out]
          have e2 : joinEF A B = ⟨A.key, joinF A.val B.val⟩ := by unfold joinEF joinF; rw [if_pos e1, if_pos e3]
          rw [e1, e2]
          exact bodyPost_ret (resultsN2 rfl _ _ (w.heap.size + 1 + 1) _ (.int .i64 0) size_en agg_en rfl rfl Q2.out) rfl ⟨_, rfl, ⟨p', m', rfl, Q3.out, Q4.out, NP.out.low (by omega), NM.out.low (by omega)⟩, Q1.out⟩
end Go.Proofs.YtkjghoomdefbbaaGreatDoor
end
section
namespace Go.Proofs.YtkjghoomdefbbaaGreatDoor
set_option linter.unusedVariables false
set_option linter.unusedSimpArgs false

theorem lessE_iff (A B : En) : lessE A B = true ↔ A.val.kind < B.val.kind ∨ (A.val.kind = B.val.kind ∧ Op.bytesLess A.key B.key = true) := by
  unfold lessE
  by_cases h : A.val.kind = B.val.kind
  · rw [if_pos h, h]; simp
  · rw [if_neg h]; simp [h]
theorem less_name (A B : En) (h : nameB A B = true) : lessE A B = false := by
  unfold nameB at h
  simp only [Bool.and_eq_true, decide_eq_true_eq] at h
  unfold lessE
  rw [if_pos h.1, h.2, less_irrefl]
theorem less_none (A B : En) (h1 : lessE A B = false) (h2 : lessE B A = false) : nameB A B = true := by
  unfold lessE at h1 h2
  by_cases h : A.val.kind = B.val.kind
  · rw [if_pos h] at h1
    rw [if_pos h.symm] at h2
    have := less_total _ _ h1 h2
    unfold nameB
    simp [h, this]
  · rw [if_neg h] at h1
    rw [if_neg (fun e => h e.symm)] at h2
    simp at h1 h2
    omega
theorem lessE_trans (A B C : En) (h1 : lessE A B = true) (h2 : lessE B C = true) : lessE A C = true := by
  rw [lessE_iff] at h1 h2 ⊢
  rcases h1 with h1 | ⟨e1, h1⟩ <;> rcases h2 with h2 | ⟨e2, h2⟩
  · left; omega
  · left; omega
  · left; omega
  · right; exact ⟨by omega, less_trans h1 h2⟩
theorem name_comm (A B : En) : nameB A B = nameB B A := by
  unfold nameB
  rw [Bool.eq_iff_iff]
  simp only [Bool.and_eq_true, decide_eq_true_eq]
  exact ⟨fun h => ⟨h.1.symm, h.2.symm⟩, fun h => ⟨h.1.symm, h.2.symm⟩⟩
theorem joinEE_zero {A B : En} (h : joinEE A B = 0) : okE A = true ∧ okE B = true ∧ nameB A B = true := by
  unfold joinEE at h
  split at h
  · rename_i h1
    rw [Bool.and_eq_true] at h1
    split at h
    · rename_i h2
      exact ⟨h1.1, h1.2, h2⟩
    · simp at h
  · simp at h
theorem okE_val {E : En} (h : okE E = true) : okV E.val = true := by unfold okE at h; rw [Bool.and_eq_true] at h; exact h.2
theorem joinE_val {A B : En} (h : joinEE A B = 0) : joinE A.val B.val = 0 ∧ A.val.kind = B.val.kind ∧ A.key = B.key := by
  obtain ⟨h1, h2, h3⟩ := joinEE_zero h
  unfold nameB at h3
  simp only [Bool.and_eq_true, decide_eq_true_eq] at h3
  refine ⟨?_, h3⟩
  unfold joinE
  rw [okE_val h1, okE_val h2, Bool.and_self, if_pos rfl, if_pos h3.1]
theorem joinEF_some {A B : En} (h : joinEE A B = 0) : joinEF A B = ⟨A.key, joinF A.val B.val⟩ := by
  unfold joinEF joinF
  rw [if_pos h, if_pos (joinE_val h).1]
theorem joinEF_ok {A B : En} (h : joinEE A B = 0) : okE (joinEF A B) = true := by
  obtain ⟨h1, h2, _⟩ := joinEE_zero h
  rw [joinEF_some h]
  unfold okE at h1 ⊢
  rw [Bool.and_eq_true] at h1 ⊢
  exact ⟨h1.1, (join_ok (joinE_val h).1).1⟩
end Go.Proofs.YtkjghoomdefbbaaGreatDoor
end
section
namespace Go.Proofs.YtkjghoomdefbbaaGreatDoor
set_option linter.unusedVariables false
set_option linter.unusedSimpArgs false

structure Ar where
  cap : Int
  slots : List En
  index : List Int
  deriving DecidableEq

def zeroA : Ar := ⟨0, [], []⟩
def roomB (n : Int) : Bool := decide (1 ≤ n) && decide (n ≤ 8)
def slotAt (l : List En) (p : Int) : En := (l[p.toNat]?).getD zeroE
def ordA (A : Ar) : List En := A.index.map (slotAt A.slots)
def Asc (l : List En) : Prop := l.Pairwise (fun a b => lessE a b = true)
instance (l : List En) : Decidable (Asc l) := by unfold Asc; infer_instance
def idxB (l : List En) (idx : List Int) : Bool := decide (idx.length = l.length) && (idx.all (fun p => decide (0 ≤ p) && decide (p < l.length)) && decide (Asc (idx.map (slotAt l))))
def okA (A : Ar) : Bool := roomB A.cap && (decide ((A.slots.length : Int) ≤ A.cap) && (A.slots.all okE && idxB A.slots A.index))
def chkA (A : Ar) : Int := if okA A = true then 0 else 2
def posN (l : List En) (x : En) : Nat := l.countP (fun y => lessE y x)
def hitB (l : List En) (x : En) : Bool := match l[posN l x]? with | some y => nameB y x | none => false
def placeI (A : Ar) (x : En) : Int := (A.index[posN (ordA A) x]?).getD 0
def nameE (kind : Int) (key : List UInt8) : En := ⟨key, ⟨kind, 0, 0, false, [], [], [], 0⟩⟩
def findI (A : Ar) (x : En) : Int := if okA A = true then (if hitB (ordA A) x = true then placeI A x else -1) else -1
def meetL (A : Ar) (x : En) : List En := A.slots.set (placeI A x).toNat (joinEF (slotAt A.slots (placeI A x)) x)
def putIdx (A : Ar) (x : En) : List Int := A.index.take (posN (ordA A) x) ++ ((A.slots.length : Int) :: A.index.drop (posN (ordA A) x))
def joinAE (A : Ar) (x : En) : Int :=
  if (okA A && okE x) = true then (if hitB (ordA A) x = true then 0 else if (A.slots.length : Int) = A.cap then 4 else 0) else 2
def joinAB (A : Ar) (x : En) : Bool :=
  if (okA A && okE x) = true then (if hitB (ordA A) x = true then !decide (slotAt A.slots (placeI A x) = joinEF (slotAt A.slots (placeI A x)) x) else if (A.slots.length : Int) = A.cap then false else true) else false
def joinAF (A : Ar) (x : En) : Ar :=
  if (okA A && okE x) = true then (if hitB (ordA A) x = true then ⟨A.cap, meetL A x, A.index⟩ else if (A.slots.length : Int) = A.cap then A else ⟨A.cap, A.slots ++ [x], putIdx A x⟩) else A
def mergeF (A : Ar) : List En → Ar
  | [] => A
  | x :: r => mergeF (joinAF A x) r
def mergeN (A : Ar) : List En → Nat
  | [] => 0
  | x :: r => (if joinAB A x = true then 1 else 0) + mergeN (joinAF A x) r
def mergeO (A : Ar) : List En → Nat
  | [] => 0
  | x :: r => (if joinAE A x = 0 then 0 else 1) + mergeO (joinAF A x) r
def allA (A : Ar) : List En := if okA A = true then ordA A else []
def chunkA (A : Ar) (at_ n : Int) : List En := if at_ < 0 then [] else if okA A = true then (A.slots.drop at_.toNat).take n.toNat else []
def belowE (a b : En) : Bool := decide (joinEF a b = b)
def inB (B : Ar) (x : En) : Bool := if findI B x = -1 then false else belowE x (slotAt B.slots (findI B x))
def belowA (A B : Ar) : Bool := okA A && (okA B && A.slots.all (inB B))
def alikeA (A B : Ar) : Bool := belowA A B && belowA B A

theorem name_iff {A B : En} : nameB A B = true ↔ A.val.kind = B.val.kind ∧ A.key = B.key := by unfold nameB; simp
theorem name_self (A : En) : nameB A A = true := by rw [name_iff]; exact ⟨rfl, rfl⟩
theorem name_trans {A B C : En} (h1 : nameB A B = true) (h2 : nameB B C = true) : nameB A C = true := by
  rw [name_iff] at *; exact ⟨h1.1.trans h2.1, h1.2.trans h2.2⟩
theorem name_symm {A B : En} (h1 : nameB A B = true) : nameB B A = true := by rw [name_comm]; exact h1
theorem less_left {A A' B : En} (h : nameB A A' = true) : lessE A B = lessE A' B := by
  rw [name_iff] at h; unfold lessE; rw [h.1, h.2]
theorem less_right {A B B' : En} (h : nameB B B' = true) : lessE A B = lessE A B' := by
  rw [name_iff] at h; unfold lessE; rw [h.1, h.2]
theorem lessE_irrefl (A : En) : lessE A A = false := less_name A A (name_self A)

/-- In a rising list: what is ahead of x stands ahead. -/
theorem pos_le (l : List En) (x : En) : posN l x ≤ l.length := List.countP_le_length
theorem pos_cons_yes {a x : En} {l : List En} (h : lessE a x = true) : posN (a :: l) x = posN l x + 1 := by
  unfold posN; exact List.countP_cons_of_pos (p := fun y => lessE y x) h
theorem pos_zero : ∀ {l : List En} {x : En}, (∀ y ∈ l, lessE y x = false) → posN l x = 0 := by
  intro l x h; unfold posN; rw [List.countP_eq_zero]; intro y hy; simp [h y hy]
theorem asc_none {a x : En} {l : List En} (h : Asc (a :: l)) (hn : lessE a x = false) : ∀ y ∈ l, lessE y x = false := by
  intro y hy
  have := List.rel_of_pairwise_cons h hy
  cases hl : lessE y x with
  | false => rfl
  | true => rw [lessE_trans _ _ _ this hl] at hn; cases hn
theorem pos_cons_no {a x : En} {l : List En} (h : Asc (a :: l)) (hn : lessE a x = false) : posN (a :: l) x = 0 :=
  pos_zero fun y hy => (List.mem_cons.1 hy).elim (fun e => by rw [e]; exact hn) (fun hy => asc_none h hn y hy)
theorem pos_before : ∀ {l : List En} {x : En}, Asc l → ∀ (j : Nat) (y : En), l[j]? = some y → (lessE y x = true ↔ j < posN l x)
  | [], x, _, j, y, h => by simp at h
  | a :: l, x, h, j, y, hy => by
    cases ha : lessE a x with
    | true =>
      rw [pos_cons_yes ha]
      cases j with
      | zero => simp only [List.getElem?_cons_zero, Option.some.injEq] at hy; subst hy; simp [ha]
      | succ j =>
        rw [List.getElem?_cons_succ] at hy
        rw [pos_before (List.Pairwise.of_cons h) j y hy]; omega
    | false =>
      rw [pos_cons_no h ha]
      have : lessE y x = false := by
        cases j with
        | zero => simp only [List.getElem?_cons_zero, Option.some.injEq] at hy; subst hy; exact ha
        | succ j => rw [List.getElem?_cons_succ] at hy; exact asc_none h ha y (List.mem_of_getElem? hy)
      simp [this]
theorem hit_pos {l : List En} {x : En} (h : hitB l x = true) : ∃ y, l[posN l x]? = some y ∧ nameB y x = true := by
  unfold hitB at h
  split at h
  · rename_i y hy; exact ⟨y, hy, h⟩
  · cases h
theorem pos_lt_of_hit {l : List En} {x : En} (h : hitB l x = true) : posN l x < l.length := by
  obtain ⟨y, hy, _⟩ := hit_pos h
  exact (List.getElem?_eq_some_iff.1 hy).1
theorem pos_of_name {l : List En} {x y : En} (hl : Asc l) {j : Nat} (hy : l[j]? = some y) (hn : nameB y x = true) : posN l x = j := by
  have h1 := (pos_before (x := x) hl j y hy)
  rw [less_name _ _ hn] at h1
  have h2 : ¬ j < posN l x := by intro h; exact absurd (h1.2 h) (by simp)
  by_cases h3 : posN l x < j
  · have hj := (List.getElem?_eq_some_iff.1 hy).1
    have h4 := (pos_before (x := x) hl (posN l x) (l[posN l x]'(by omega)) (List.getElem?_eq_getElem _))
    have h5 : lessE (l[posN l x]'(by omega)) y = true := by
      have := List.pairwise_iff_getElem.1 hl (posN l x) j (by omega) hj h3
      rw [(List.getElem?_eq_some_iff.1 hy).2] at this
      exact this
    rw [less_right hn] at h5
    have := h4.1 h5
    omega
  · omega
theorem hit_of_mem {l : List En} {x y : En} (hl : Asc l) (hy : y ∈ l) (hn : nameB y x = true) : hitB l x = true ∧ l[posN l x]? = some y := by
  obtain ⟨j, hj⟩ := List.getElem?_of_mem hy
  have := pos_of_name hl hj hn
  subst this
  refine ⟨?_, hj⟩
  unfold hitB; rw [hj]; exact hn
theorem behind_pos {l : List En} {x : En} (hl : Asc l) (hh : hitB l x = false) {j : Nat} {y : En} (hy : l[j]? = some y) (hj : posN l x ≤ j) : lessE x y = true := by
  have h1 := pos_before (x := x) hl j y hy
  have h2 : lessE y x = false := by
    cases h : lessE y x with
    | false => rfl
    | true => have := h1.1 h; omega
  cases h3 : lessE x y with
  | true => rfl
  | false =>
    have hn := less_none y x h2 h3
    rw [(hit_of_mem hl (List.mem_of_getElem? hy) hn).1] at hh
    cases hh
/-- The list with one more, where it belongs. -/
def insE (l : List En) (x : En) : List En := l.take (posN l x) ++ (x :: l.drop (posN l x))
theorem asc_ins {l : List En} {x : En} (hl : Asc l) (hh : hitB l x = false) : Asc (insE l x) := by
  have e := List.take_append_drop (posN l x) l
  have hp : Asc (l.take (posN l x) ++ l.drop (posN l x)) := by rw [e]; exact hl
  obtain ⟨p1, p2, p3⟩ := List.pairwise_append.1 hp
  have b1 : ∀ y ∈ l.take (posN l x), lessE y x = true := by
    intro y hy
    obtain ⟨j, hj⟩ := List.getElem?_of_mem hy
    have hlt := (List.getElem?_eq_some_iff.1 hj).1
    rw [List.length_take] at hlt
    rw [List.getElem?_take_of_lt (by omega)] at hj
    exact (pos_before hl j y hj).2 (by omega)
  have b2 : ∀ y ∈ l.drop (posN l x), lessE x y = true := by
    intro y hy
    obtain ⟨j, hj⟩ := List.getElem?_of_mem hy
    rw [List.getElem?_drop] at hj
    exact behind_pos hl hh hj (by omega)
  refine List.pairwise_append.2 ⟨p1, List.pairwise_cons.2 ⟨b2, p2⟩, ?_⟩
  intro a ha b hb
  rcases List.mem_cons.1 hb with rfl | hb
  · exact b1 a ha
  · exact p3 a ha b hb

/-- A list without twice the same, all of which another one has, is no longer. -/
theorem nodup_length {α : Type} [DecidableEq α] : ∀ (l m : List α), l.Nodup → (∀ x ∈ l, x ∈ m) → l.length ≤ m.length
  | [], m, _, _ => by simp
  | a :: l, m, h, hs => by
    obtain ⟨h1, h2⟩ := List.nodup_cons.1 h
    have ha := hs a (by simp)
    have := nodup_length l (m.erase a) h2 (fun x hx => by
      have hne : x ≠ a := by rintro rfl; exact h1 hx
      exact (List.mem_erase_of_ne hne).2 (hs x (by simp [hx])))
    rw [List.length_erase_of_mem ha] at this
    have : 0 < m.length := List.length_pos_of_mem ha
    simp only [List.length_cons]
    omega
theorem nodup_all {n : Nat} (l : List Nat) (h : l.Nodup) (hr : ∀ p ∈ l, p < n) (hl : l.length = n) (q : Nat) (hq : q < n) : q ∈ l := by
  by_cases hm : q ∈ l
  · exact hm
  · exfalso
    have h2 : (q :: l).Nodup := List.nodup_cons.2 ⟨hm, h⟩
    have := nodup_length (q :: l) (List.range n) h2 (fun x hx => by
      rcases List.mem_cons.1 hx with rfl | hx
      · exact List.mem_range.2 hq
      · exact List.mem_range.2 (hr x hx))
    simp at this
    omega

structure OkA (A : Ar) : Prop where
  room : 1 ≤ A.cap ∧ A.cap ≤ 8
  fits : (A.slots.length : Int) ≤ A.cap
  ents : ∀ e ∈ A.slots, okE e = true
  len : A.index.length = A.slots.length
  rng : ∀ p ∈ A.index, 0 ≤ p ∧ p < A.slots.length
  asc : Asc (ordA A)
theorem okA_iff {A : Ar} : okA A = true ↔ OkA A := by
  unfold okA roomB idxB
  simp only [Bool.and_eq_true, decide_eq_true_eq, List.all_eq_true]
  constructor
  · rintro ⟨h1, h2, h3, h4, h5, h6⟩; exact ⟨h1, h2, h3, h4, h5, h6⟩
  · rintro ⟨h1, h2, h3, h4, h5, h6⟩; exact ⟨h1, h2, h3, h4, h5, h6⟩
theorem slotAt_some {l : List En} {p : Nat} {e : En} (h : l[p]? = some e) : slotAt l (p : Int) = e := by unfold slotAt; simp [h]
theorem slotAt_mem {l : List En} {p : Int} (h : 0 ≤ p ∧ p < l.length) : slotAt l p ∈ l := by
  unfold slotAt
  rw [List.getElem?_eq_getElem (by omega)]
  exact List.getElem_mem _
theorem ord_length {A : Ar} (h : OkA A) : (ordA A).length = A.slots.length := by unfold ordA; rw [List.length_map, h.len]
theorem idx_nodup {A : Ar} (h : OkA A) : (A.index.map Int.toNat).Nodup := by
  have h1 := h.asc
  unfold Asc ordA at h1
  unfold List.Nodup
  rw [List.pairwise_map] at h1 ⊢
  refine h1.imp ?_
  intro a b hab e
  unfold slotAt at hab
  rw [e, lessE_irrefl] at hab
  cases hab
/-- Each slot stands in the order. -/
theorem mem_ord {A : Ar} (h : OkA A) (e : En) : e ∈ ordA A ↔ e ∈ A.slots := by
  unfold ordA
  rw [List.mem_map]
  constructor
  · rintro ⟨p, hp, rfl⟩; exact slotAt_mem (h.rng p hp)
  · intro he
    obtain ⟨q, hq⟩ := List.getElem?_of_mem he
    have hlt := (List.getElem?_eq_some_iff.1 hq).1
    have hm := nodup_all _ (idx_nodup h) (n := A.slots.length) (by
      intro p hp; obtain ⟨r, hr, rfl⟩ := List.mem_map.1 hp; have := h.rng r hr; omega) (by rw [List.length_map, h.len]) q hlt
    obtain ⟨r, hr, e2⟩ := List.mem_map.1 hm
    refine ⟨r, hr, ?_⟩
    unfold slotAt; rw [e2, hq]; rfl
theorem asc_name {l : List En} (h : Asc l) {a b : En} (ha : a ∈ l) (hb : b ∈ l) (hn : nameB a b = true) : a = b := by
  have h1 := (hit_of_mem h ha hn).2
  have h2 := (hit_of_mem h hb (name_self b)).2
  rw [h1] at h2
  injection h2
theorem one_name {A : Ar} (h : OkA A) {a b : En} (ha : a ∈ A.slots) (hb : b ∈ A.slots) (hn : nameB a b = true) : a = b :=
  asc_name h.asc ((mem_ord h a).2 ha) ((mem_ord h b).2 hb) hn
/-- The place of a name. -/
theorem place_spec {A : Ar} (h : OkA A) {x : En} (hh : hitB (ordA A) x = true) : (0 ≤ placeI A x ∧ placeI A x < A.slots.length) ∧ A.index[posN (ordA A) x]? = some (placeI A x) ∧ (ordA A)[posN (ordA A) x]? = some (slotAt A.slots (placeI A x)) ∧ nameB (slotAt A.slots (placeI A x)) x = true := by
  obtain ⟨y, hy, hn⟩ := hit_pos hh
  have hlt : posN (ordA A) x < A.index.length := by have := pos_lt_of_hit hh; rw [ord_length h] at this; rw [h.len]; exact this
  have e1 : A.index[posN (ordA A) x]? = some (placeI A x) := by unfold placeI; rw [List.getElem?_eq_getElem hlt]; rfl
  have e2 : (ordA A)[posN (ordA A) x]? = some (slotAt A.slots (placeI A x)) := by
    have : (ordA A)[posN (ordA A) x]? = (A.index[posN (ordA A) x]?).map (slotAt A.slots) := List.getElem?_map
    rw [this, e1]; rfl
  have e3 : y = slotAt A.slots (placeI A x) := by rw [hy] at e2; injection e2
  exact ⟨h.rng _ (List.mem_of_getElem? e1), e1, e2, e3 ▸ hn⟩
theorem hit_iff {A : Ar} (h : OkA A) {x : En} : hitB (ordA A) x = true ↔ ∃ e ∈ A.slots, nameB e x = true := by
  constructor
  · intro hh
    obtain ⟨h1, _, _, h4⟩ := place_spec h hh
    exact ⟨_, slotAt_mem h1, h4⟩
  · rintro ⟨e, he, hn⟩; exact (hit_of_mem h.asc ((mem_ord h e).2 he) hn).1
theorem find_ne {A : Ar} (h : OkA A) {x : En} : findI A x = -1 ↔ hitB (ordA A) x = false := by
  unfold findI
  rw [if_pos (okA_iff.2 h)]
  cases hh : hitB (ordA A) x with
  | true => have := (place_spec h hh).1; rw [if_pos rfl]; constructor
            · intro; omega
            · intro h; cases h
  | false => simp
end Go.Proofs.YtkjghoomdefbbaaGreatDoor
end
section
namespace Go.Proofs.YtkjghoomdefbbaaGreatDoor
open Go.RowKit
set_option linter.unusedVariables false
set_option linter.unusedSimpArgs false

/-- An entry's cells. -/
def enL (E : En) (vp vm : Value) : List Value := [.string ⟨E.key.toArray⟩, .int .i64 E.val.kind, .int .i64 E.val.time, .int .i64 E.val.node, .bool E.val.dead, .string ⟨E.val.text.toArray⟩, vp, vm, .int .u64 (E.val.flags.toNat : Int)]
/-- An entry stands in block b from place o on. -/
def EnAt (w : World) (b o : Nat) (E : En) : Prop := ∃ vp vm, (∀ (j : Nat) (x : Value), [.string ⟨E.key.toArray⟩, .int .i64 E.val.kind, .int .i64 E.val.time, .int .i64 E.val.node, .bool E.val.dead, .string ⟨E.val.text.toArray⟩, vp, vm, .int .u64 (E.val.flags.toNat : Int)][j]? = some x → w.cell? ⟨b, o + j, none⟩ = some x) ∧ isCells (E.val.plus.map intC) vp w ∧ isCells (E.val.minus.map intC) vm w
theorem EnAt.keep {w w' : World} {b o : Nat} {E : En} (h : EnAt w b o E) (hb : Below w.heap.size w w') (hlt : b < w.heap.size) : EnAt w' b o E := by
  obtain ⟨vp, vm, hc, hp, hm⟩ := h
  exact ⟨vp, vm, fun j x hx => (hb.cell (p := ⟨b, o + j, none⟩) hlt).trans (hc j x hx), stable_cells _ _ _ _ hp hb, stable_cells _ _ _ _ hm hb⟩
/-- A slice of just these entries. -/
def isEns (l : List En) : VP := fun v w => (v = .slice none 0 0 ∧ l = []) ∨ (∃ a cap, v = .slice (some a) 0 cap ∧ l = []) ∨
  ∃ b off cap, v = .slice (some ⟨b, off, none⟩) l.length cap ∧ b < w.heap.size ∧ ∀ (j : Nat) (E : En), l[j]? = some E → EnAt w b (off + j * 9) E
theorem stable_ens (l : List En) : Stable (isEns l) := by
  intro v w w' h hb
  rcases h with h | h | ⟨b, off, cap, e, hlt, hc⟩
  · exact .inl h
  · exact .inr (.inl h)
  · exact .inr (.inr ⟨b, off, cap, e, Nat.lt_of_lt_of_le hlt hb.size, fun j E hE => (hc j E hE).keep hb hlt⟩)
theorem isEns.len {l : List En} {v : Value} {w : World} (h : isEns l v w) : ∃ a cap, v = .slice a l.length cap := by
  rcases h with ⟨rfl, rfl⟩ | ⟨a, cap, rfl, rfl⟩ | ⟨b, off, cap, rfl, _⟩
  · exact ⟨_, _, rfl⟩
  · exact ⟨_, _, rfl⟩
  · exact ⟨_, _, rfl⟩
theorem isEns.one {l : List En} {v : Value} {w : World} (h : isEns l v w) : v.oneCell' = true := by
  obtain ⟨a, cap, rfl⟩ := h.len
  rfl
theorem isEns.get {l : List En} {v : Value} {w : World} (h : isEns l v w) {j : Nat} {E : En} (hj : l[j]? = some E) : ∃ b off cap, v = .slice (some ⟨b, off, none⟩) l.length cap ∧ b < w.heap.size ∧ EnAt w b (off + j * 9) E := by
  rcases h with ⟨_, rfl⟩ | ⟨a, cap, _, rfl⟩ | ⟨b, off, cap, e, hlt, hc⟩
  · simp at hj
  · simp at hj
  · exact ⟨b, off, cap, e, hlt, hc j E hj⟩
/-- A row in one piece: the way of the empty ones, and the other one. -/
theorem isEns.cases_ {l : List En} {v : Value} {w : World} (h : isEns l v w) : (∃ a cap, v = .slice a l.length cap ∧ l = []) ∨ ∃ b off cap, v = .slice (some ⟨b, off, none⟩) l.length cap ∧ b < w.heap.size ∧ ∀ (j : Nat) (E : En), l[j]? = some E → EnAt w b (off + j * 9) E := by
  rcases h with ⟨rfl, rfl⟩ | ⟨a, cap, rfl, rfl⟩ | h
  · exact .inl ⟨_, _, rfl, rfl⟩
  · exact .inl ⟨_, _, rfl, rfl⟩
  · exact .inr h
theorem loadCellsO {P : Program} (b o : Nat) (w : World) (l : List Value) (h : ∀ (j : Nat) (x : Value), l[j]? = some x → w.cell? ⟨b, o + j, none⟩ = some x) : ∀ (k : Nat) (m : List Value) (acc : Array Value), l.drop k = m → (loadCellsFrom ⟨b, o, none⟩ k m.length acc).run P w = .ok (acc ++ m.toArray) w
  | k, [], acc, _ => by simp [loadCellsFrom]
  | k, v :: r, acc, hd => by
    have hk : l[k]? = some v := by have := congrArg (·[0]?) hd; simpa using this
    have hr : l.drop (k + 1) = r := by rw [← List.drop_drop, hd]; rfl
    have ea : (⟨b, o, none⟩ : Addr).add k = ⟨b, o + k, none⟩ := by
      by_cases e : k = 0
      · subst e; simp [Addr.add]
      · simp [Addr.add, e]
    rw [List.length_cons]
    unfold loadCellsFrom
    rw [Sem.run_bind, ea]
    have hl : (load ⟨b, o + k, none⟩).run P w = .ok v w := by simp [h k v hk]
    rw [hl, Result.andThen_ok, loadCellsO b o w l h (k + 1) r (acc.push v) hr]
    simp
theorem EnAt.open_ {w : World} {b o : Nat} {E : En} (h : EnAt w b o E) : ∃ vp vm, isEn E (.agg #[.string ⟨E.key.toArray⟩, .int .i64 E.val.kind, .int .i64 E.val.time, .int .i64 E.val.node, .bool E.val.dead, .string ⟨E.val.text.toArray⟩, vp, vm, .int .u64 (E.val.flags.toNat : Int)]) w ∧ isVa E.val (.agg #[.int .i64 E.val.kind, .int .i64 E.val.time, .int .i64 E.val.node, .bool E.val.dead, .string ⟨E.val.text.toArray⟩, vp, vm, .int .u64 (E.val.flags.toNat : Int)]) w ∧ w.cell? ⟨b, o, none⟩ = some (.string ⟨E.key.toArray⟩) ∧ w.cell? ⟨b, o + 1, none⟩ = some (.int .i64 E.val.kind) ∧ w.cell? ⟨b, o + 2, none⟩ = some (.int .i64 E.val.time) ∧ w.cell? ⟨b, o + 3, none⟩ = some (.int .i64 E.val.node) ∧ w.cell? ⟨b, o + 4, none⟩ = some (.bool E.val.dead) ∧ w.cell? ⟨b, o + 5, none⟩ = some (.string ⟨E.val.text.toArray⟩) ∧ w.cell? ⟨b, o + 6, none⟩ = some (vp) ∧ w.cell? ⟨b, o + 7, none⟩ = some (vm) ∧ w.cell? ⟨b, o + 8, none⟩ = some (.int .u64 (E.val.flags.toNat : Int)) := by
  obtain ⟨vp, vm, hc, hp, hm⟩ := h
  exact ⟨vp, vm, ⟨vp, vm, rfl, hp, hm⟩, ⟨vp, vm, rfl, hp, hm⟩, hc 0 _ rfl, hc 1 _ rfl, hc 2 _ rfl, hc 3 _ rfl, hc 4 _ rfl, hc 5 _ rfl, hc 6 _ rfl, hc 7 _ rfl, hc 8 _ rfl⟩
def isAr (A : Ar) : VP := fun v w => ∃ vs vi, v = .agg #[.int .i64 A.cap, vs, vi] ∧ isEns A.slots vs w ∧ isCells (A.index.map intC) vi w
theorem stable_ar (A : Ar) : Stable (isAr A) := fun v w w' ⟨vs, vi, e, hs, hi⟩ hb => ⟨vs, vi, e, stable_ens _ _ _ _ hs hb, stable_cells _ _ _ _ hi hb⟩
/-- Block g holds the arena A. -/
def VarA (w : World) (g : Nat) (A : Ar) : Prop := ∃ vs vi, CellsN w g [.int .i64 A.cap, vs, vi] ∧ isEns A.slots vs w ∧ isCells (A.index.map intC) vi w
theorem VarA.keep {w w' : World} {g : Nat} {A : Ar} (h : VarA w g A) (hb : Below w.heap.size w w') : VarA w' g A := by
  obtain ⟨vs, vi, hc, hs, hi⟩ := h
  exact ⟨vs, vi, hc.keep hb hc.1, stable_ens _ _ _ _ hs hb, stable_cells _ _ _ _ hi hb⟩
theorem VarA.lt {w : World} {g : Nat} {A : Ar} (h : VarA w g A) : g < w.heap.size := by obtain ⟨_, _, hc, _⟩ := h; exact hc.1
theorem VarA.open_ {w : World} {g : Nat} {A : Ar} (h : VarA w g A) : ∃ vs vi, isAr A (.agg #[.int .i64 A.cap, vs, vi]) w ∧ isEns A.slots vs w ∧ isCells (A.index.map intC) vi w ∧ w.cell? ⟨g, 0, none⟩ = some (.int .i64 A.cap) ∧ w.cell? ⟨g, 1, none⟩ = some vs ∧ w.cell? ⟨g, 2, none⟩ = some vi := by
  obtain ⟨vs, vi, hc, hs, hi⟩ := h
  exact ⟨vs, vi, ⟨vs, vi, rfl, hs, hi⟩, hs, hi, hc.2 0 _ rfl, hc.2 1 _ rfl, hc.2 2 _ rfl⟩
theorem size_ar : (Tryz.prog.info? 25).map (·.size) = some 3 := by kernel_rfl
theorem agg_ar (w : World) : (isAgg 25).run Tryz.prog w = .ok true w := by simp [isAgg, run_underlying Tryz.underlying25]
theorem abox (w : World) (A : Ar) (vs vi : Value) (hs : isEns A.slots vs w) (hi : isCells (A.index.map intC) vi w) (n : Nat) (hn : n = w.heap.size) :
    Kept (Below w.heap.size w (w.alloc (.cells #[.int .i64 A.cap, vs, vi] 25))) ∧ Kept (VarA (w.alloc (.cells #[.int .i64 A.cap, vs, vi] 25)) n A) := by
  subst hn
  have hb : Below w.heap.size w (w.alloc (.cells #[.int .i64 A.cap, vs, vi] 25)) := (Below.refl _ _).alloc (Nat.le_refl _) _
  exact ⟨⟨hb⟩, ⟨⟨vs, vi, cellsN_new w 25 _, stable_ens _ _ _ _ hs hb, stable_cells _ _ _ _ hi hb⟩⟩⟩
theorem anew (w : World) (A : Ar) (vs vi : Value) (hs : isEns A.slots vs w) (hi : isCells (A.index.map intC) vi w) (n : Nat) (hn : n = w.heap.size) :
    Kept (CellsN (w.alloc (.cells #[.int .i64 0, .slice none 0 0, .slice none 0 0] 25)) n [.int .i64 0, .slice none 0 0, .slice none 0 0]) ∧ Kept (Free5 (w.alloc (.cells #[.int .i64 0, .slice none 0 0, .slice none 0 0] 25)) n) ∧
    Kept (Below w.heap.size w (setN (w.alloc (.cells #[.int .i64 0, .slice none 0 0, .slice none 0 0] 25)) n 0 [.int .i64 A.cap, vs, vi])) ∧
    Kept (VarA (setN (w.alloc (.cells #[.int .i64 0, .slice none 0 0, .slice none 0 0] 25)) n 0 [.int .i64 A.cap, vs, vi]) n A) ∧ Kept (Ones [.int .i64 A.cap, vs, vi]) := by
  subst hn
  have hb := lit_below w (.cells #[.int .i64 0, .slice none 0 0, .slice none 0 0] 25)
  have hc := cellsN_new w 25 [.int .i64 0, .slice none 0 0, .slice none 0 0]
  have hb5 := below_setN (Nat.le_refl _) [.int .i64 A.cap, vs, vi] 0 _ hb
  exact ⟨⟨hc⟩, ⟨free5_new w _ _⟩, ⟨hb5⟩, ⟨⟨vs, vi, hc.setN_ _ rfl, stable_ens _ _ _ _ hs hb5, stable_cells _ _ _ _ hi hb5⟩⟩, ⟨⟨rfl, hs.one, hi.one, trivial⟩⟩⟩
structure FitA (A : Ar) : Prop where
  slots : A.slots.length ≤ 1000
  index : A.index.length ≤ 1000
  ents : ∀ e ∈ A.slots, FitE e
end Go.Proofs.YtkjghoomdefbbaaGreatDoor
end
section
namespace Go.Proofs.YtkjghoomdefbbaaGreatDoor
open Go.RowKit
set_option linter.unusedVariables false
set_option linter.unusedSimpArgs false
/-- What s0 waits for, by way of others. -/
def ancOk (ops : Array Oper) (s0 : Nat) (ups : List Nat) : Bool := ups.all fun u => decide (u < s0) && (s0 :: ups).any fun v => decide (u < v) && waits ops v u
theorem unlisted {ops : Array Oper} {s0 : Nat} {ups : List Nat} (h : ancOk ops s0 ups = true) {listed : Array Bool} (hcl : ∀ j, listed.getD j false = true → ∀ m, waits ops j m = true → listed.getD m false = true) {i : Nat} (hi : listed.getD i false = false) (hu : i = s0 ∨ i ∈ ups) : listed.getD s0 false = false := by
  cases hl : listed.getD s0 false with
  | false => rfl
  | true =>
    exfalso
    have key : ∀ d u, u + d = s0 → u ∈ ups → listed.getD u false = true := by
      intro d
      induction d using Nat.strongRecOn with
      | _ d ih =>
        intro u hu' hm
        have h1 := List.all_eq_true.1 h u hm
        rw [Bool.and_eq_true, decide_eq_true_eq, List.any_eq_true] at h1
        obtain ⟨hlt, v, hv, hw⟩ := h1
        rw [Bool.and_eq_true, decide_eq_true_eq] at hw
        rcases List.mem_cons.1 hv with rfl | hv'
        · exact hcl _ hl _ hw.2
        · have h2 := List.all_eq_true.1 h v hv'
          rw [Bool.and_eq_true, decide_eq_true_eq] at h2
          exact hcl v (ih (s0 - v) (by omega) v (by omega) hv') _ hw.2
    rcases hu with rfl | hu
    · rw [hl] at hi; cases hi
    · have h1 := List.all_eq_true.1 h i hu
      rw [Bool.and_eq_true, decide_eq_true_eq] at h1
      rw [key (s0 - i) i (by omega) hu] at hi; cases hi
section
variable (R : World → World → Prop) (s0 : Nat) (ups : List Nat) (S0 : World → Prop) (P : Program) (ops : Array Oper) (base : World) (a0 : Act) (Q : Exit → Act → World → Prop)
/-- Operation s0 finds S0, which each other one leaves; what s0 yields stays true as memory grows, what the others yield also behind s0. -/
def OStep (k0 : Nat) (kn : Nat → VP) (i : Nat) (V : VP) : Prop := ((i = s0 → Stable V) ∧ (i ≠ s0 → StableR R V)) ∧ ∀ o, ops[i]? = some o → ∀ a w, FKeptN ops k0 a0 a → R base w → (i = s0 ∨ i ∈ ups → S0 w) → RDeps ops kn i a w →
  wpOp P ops Q i (fun a' w' => ∃ v, a' = a.put o.dst v ∧ (o.dst = none → v = undef) ∧ V v w' ∧ R w w' ∧ (i ≠ s0 → Below w.heap.size w w')) a w
def OneTail (k0 c : Nat) : Nat → Nat → (Nat → VP) → Prop
  | 0, _, kn => ∀ a w, FKeptN ops k0 a0 a → R base w → (∀ j, j < k0 → RDone ops kn a w j) → Tail P ops Q c k0 a w
  | k + 1, i, kn => ∃ V, OStep R s0 ups S0 P ops base a0 Q k0 kn i V ∧ OneTail k0 c k (i + 1) (upd kn i V)
end
section
variable {R : World → World → Prop} {s0 : Nat} {ups : List Nat} {S0 : World → Prop} {P : Program} {ops : Array Oper} {base : World} {a0 : Act} {Q : Exit → Act → World → Prop}
theorem ostable {k0 : Nat} {kn : Nat → VP} {j : Nat} {V : VP} (h : OStep R s0 ups S0 P ops base a0 Q k0 kn j V) {v : Value} {w w' : World} (hv : V v w) (hr : R w w') (hb : j = s0 → Below w.heap.size w w') : V v w' := by
  by_cases e : j = s0
  · exact h.1.1 e _ _ _ hv (hb e)
  · exact h.1.2 e _ _ _ hv hr
/-- An operation that only reads, or makes memory. -/
theorem OStep.of {k0 : Nat} {kn : Nat → VP} {i : Nat} {V : VP} (hR : Pre R) (hne : i ≠ s0) (hst : StableR R V) (hd : ((ops[i]?).bind (·.dst)).isSome = true) (h : ∀ w, R base w → FStep P ops w a0 Q kn i V) : OStep R s0 ups S0 P ops base a0 Q k0 kn i V := by
  refine ⟨⟨fun e => absurd e hne, fun _ => hst⟩, fun o ho a w hk hb _ hdp => ?_⟩
  refine wpOp_mono ?_ ((h w hb).2 o ho a w hk.f (Below.refl _ _) (fun o' ho' e he hbd => rdone_f (hdp o' ho' e he hbd)))
  rintro a' w' ⟨v, e, hV, hbw⟩
  refine ⟨v, e, fun hn => ?_, hV, hR.grow _ _ hbw, fun _ => hbw⟩
  rw [ho] at hd
  simp [hn] at hd
theorem OStep.ofS {k0 : Nat} {kn : Nat → VP} {i : Nat} {V : VP} (hR : Pre R) (hne : i ≠ s0) (hu : i ∈ ups) (hst : StableR R V) (hd : ((ops[i]?).bind (·.dst)).isSome = true) (h : ∀ w, R base w → S0 w → FStep P ops w a0 Q kn i V) : OStep R s0 ups S0 P ops base a0 Q k0 kn i V := by
  refine ⟨⟨fun e => absurd e hne, fun _ => hst⟩, fun o ho a w hk hb h0 hdp => ?_⟩
  refine wpOp_mono ?_ ((h w hb (h0 (.inr hu))).2 o ho a w hk.f (Below.refl _ _) (fun o' ho' e he hbd => rdone_f (hdp o' ho' e he hbd)))
  rintro a' w' ⟨v, e, hV, hbw⟩
  refine ⟨v, e, fun hn => ?_, hV, hR.grow _ _ hbw, fun _ => hbw⟩
  rw [ho] at hd
  simp [hn] at hd
theorem oneTail_family {n k0 c : Nat} (hok : flowOk ops n = true) : ∀ k i kn, i + k = k0 → (∀ m, m < i → OStep R s0 ups S0 P ops base a0 Q k0 kn m (kn m)) → OneTail R s0 ups S0 P ops base a0 Q k0 c k i kn →
    ∃ kn', (∀ m, m < k0 → OStep R s0 ups S0 P ops base a0 Q k0 kn' m (kn' m)) ∧ OneTail R s0 ups S0 P ops base a0 Q k0 c 0 k0 kn'
  | 0, i, kn, hi, hs, hf => ⟨kn, fun m hm => hs m (by omega), hf⟩
  | k + 1, i, kn, hi, hs, ⟨V, hV, hf⟩ => by
    have agree : ∀ m, m ≠ i → upd kn i V m = kn m := fun m hm => by simp [upd, hm]
    have self : upd kn i V i = V := by simp [upd]
    have shift : ∀ m W, m ≤ i → OStep R s0 ups S0 P ops base a0 Q k0 kn m W → OStep R s0 ups S0 P ops base a0 Q k0 (upd kn i V) m W := by
      intro m W hm h
      refine ⟨h.1, fun o ho a w hk hb h0 hd => h.2 o ho a w hk hb h0 ?_⟩
      intro o' ho' e he hbd
      have hlt := (flowOk_spec hok).1 m o' ho' e he hbd
      exact rdone_congr (agree e.on (by omega)) (hd o' ho' e he hbd)
    refine oneTail_family hok k (i + 1) (upd kn i V) (by omega) (fun m hm => ?_) hf
    by_cases hmi : m = i
    · subst hmi; rw [self]; exact shift m V (Nat.le_refl _) hV
    · rw [agree m hmi]; exact shift m _ (by omega) (hs m (by omega))
theorem wpAny_oneTail {k0 : Nat} (hR : Pre R) (hA : ancOk ops s0 ups = true) (hS : ∀ w w', S0 w → Below w.heap.size w w' → S0 w') (hok : flowOk ops a0.tmps.size = true) (ht : tailOkC ops k0 = true) {kn : Nat → VP} (hs : ∀ m, m < k0 → OStep R s0 ups S0 P ops base a0 Q k0 kn m (kn m))
    (he : OneTail R s0 ups S0 P ops base a0 Q k0 (ops.size - k0) 0 k0 kn) :
    ∀ (u fuel : Nat) (listed : Array Bool) (a : Act) (w : World), listed.size = ops.size → ((List.range k0).filter fun i => !listed.getD i false).length ≤ u → u + (ops.size - k0) ≤ fuel → (∀ j, k0 ≤ j → listed.getD j false = false) → (∀ j, listed.getD j false = true → ∀ m, waits ops j m = true → listed.getD m false = true) →
      FKeptN ops k0 a0 a → R base w → (listed.getD s0 false = false → S0 w) → (∀ j, listed.getD j false = true → RDone ops kn a w j) → wpAny P .any ops Q fuel listed a w := by
  obtain ⟨ok1, ok2, ok3⟩ := flowOk_spec hok
  have hk0 : k0 ≤ ops.size := by unfold tailOkC at ht; simp only [Bool.and_eq_true, decide_eq_true_eq] at ht; exact ht.1
  have tk : ∀ j, j < ops.size → k0 < j → waits ops j (j - 1) = true := by
    intro j hj hk
    unfold tailOkC at ht
    simp only [Bool.and_eq_true, List.all_eq_true, List.mem_range] at ht
    have := ht.2 j hj
    rwa [if_neg (by omega), if_neg (by omega)] at this
  have tk0 : ∀ m, m < k0 → ∃ j, m < j ∧ j ≤ k0 ∧ waits ops j m = true := by
    intro m hk
    unfold tailOkC at ht
    simp only [Bool.and_eq_true, List.all_eq_true, List.mem_range] at ht
    have := ht.2 m (by omega)
    rw [if_pos hk, List.any_eq_true] at this
    obtain ⟨j, hj, h⟩ := this
    rw [Bool.and_eq_true, decide_eq_true_eq] at h
    exact ⟨j, h.1, by simpa [Nat.lt_succ_iff] using hj, h.2⟩
  intro u
  induction u with
  | zero =>
    intro fuel listed a w hl hu hf htl hcl hk hb hs0 hd
    have hall : ∀ j, j < k0 → listed.getD j false = true := by
      intro j hj
      have h0 : ((List.range k0).filter fun i => !listed.getD i false) = [] := List.eq_nil_of_length_eq_zero (by omega)
      rw [List.filter_eq_nil_iff] at h0
      have := h0 j (by simpa using hj)
      simpa using this
    refine wpAny_tailC hok ht (ops.size - k0) k0 fuel listed a w (by omega) (Nat.le_refl _) (by omega) hl ?_ (he a w hk hb (fun j hj => hd j (hall j hj)))
    intro j hj
    by_cases e : j < k0
    · rw [hall j e]; simp [e]
    · rw [htl j (by omega)]; simp [e]
  | succ u ih =>
    intro fuel listed a w hl hu hf htl hcl hk hb hs0 hd
    by_cases hall : ∀ j, j < k0 → listed.getD j false = true
    · refine wpAny_tailC hok ht (ops.size - k0) k0 fuel listed a w (by omega) (Nat.le_refl _) (by omega) hl ?_ (he a w hk hb (fun j hj => hd j (hall j hj)))
      intro j hj
      by_cases e : j < k0
      · rw [hall j e]; simp [e]
      · rw [htl j (by omega)]; simp [e]
    · -- the least that is not yet done
      have hex : ∃ m, m < k0 ∧ listed.getD m false = false ∧ ∀ j, j < m → listed.getD j false = true := by
        have key : ∀ n, n ≤ k0 → (∀ j, j < n → listed.getD j false = true) ∨ ∃ m, m < n ∧ listed.getD m false = false ∧ ∀ j, j < m → listed.getD j false = true := by
          intro n
          induction n with
          | zero => intro _; exact .inl (fun j hj => absurd hj (by omega))
          | succ n ihn =>
            intro hn
            rcases ihn (by omega) with h | ⟨m, hm, h1, h2⟩
            · cases hc : listed.getD n false with
              | true => exact .inl (fun j hj => by by_cases e : j = n; exact e ▸ hc; exact h j (by omega))
              | false => exact .inr ⟨n, by omega, hc, h⟩
            · exact .inr ⟨m, by omega, h1, h2⟩
        rcases key k0 (Nat.le_refl _) with h | h
        · exact absurd h hall
        · exact h
      obtain ⟨m, hm, hmu, hmd⟩ := hex
      have hmem : m ∈ Region.ready .any ops listed := ready_of hok hl (by omega) hmu hmd
      cases fuel with
      | zero => omega
      | succ fuel =>
        refine ⟨fun hr => (by rw [hr] at hmem; cases hmem), fun i hi => ?_⟩
        have hiu := ready_un hl hi
        have hik : i < k0 := by
          by_cases e : i < k0
          · exact e
          · exfalso
            by_cases e2 : i = k0
            · subst e2
              have cov : ∀ d m, m + d = i → 0 < d → listed.getD m false = true := by
                intro d
                induction d using Nat.strongRecOn with
                | _ d ihd =>
                  intro m' hm' hd'
                  obtain ⟨j, h1, h2, h3⟩ := tk0 m' (by omega)
                  by_cases e3 : j = i
                  · rw [e3] at h3; exact waits_ready hi h3
                  · exact hcl j (ihd (i - j) (by omega) j (by omega) (by omega)) m' h3
              have := cov (i - m) m (by omega) (by omega)
              rw [hmu] at this
              cases this
            · have := waits_ready hi (tk i hiu.1 (by omega))
              rw [htl (i - 1) (by omega)] at this
              cases this
        obtain ⟨o, ho⟩ : ∃ o, ops[i]? = some o := ⟨_, Array.getElem?_eq_getElem hiu.1⟩
        have hstep := (hs i hik).2 o ho a w hk hb (fun e => hs0 (unlisted hA hcl hiu.2 e)) (by
          intro o' ho' e he' hbd
          rw [ho] at ho'
          cases ho'
          refine hd e.on (waits_ready hi ?_)
          unfold waits
          rw [ho]
          simp only [Option.any_some, List.any_eq_true, Bool.and_eq_true, beq_iff_eq]
          exact ⟨e, he', rfl, hbd⟩)
        refine wpOp_mono ?_ hstep
        rintro a' w' ⟨v, rfl, hvn, hV, hbw, hbl⟩
        refine ih fuel (listed.setIfInBounds i true) _ w' (by simpa using hl) ?_ (by omega) ?_ ?_ ?_ (hR.trans _ _ _ hb hbw) (fun hf' => hS _ _ (hs0 (by by_cases e : s0 = i; (· rw [e, getD_set_same (by omega)] at hf'; cases hf'); (· rwa [getD_set_ne e] at hf'))) (hbl (fun e => by rw [← e, getD_set_same (by omega)] at hf'; cases hf'))) ?_
        · have hsub : ((List.range k0).filter fun j => !(listed.setIfInBounds i true).getD j false).length < ((List.range k0).filter fun j => !listed.getD j false).length := by
            have e1 : ((List.range k0).filter fun j => !(listed.setIfInBounds i true).getD j false) = ((List.range k0).filter fun j => !listed.getD j false).filter (fun j => j != i) := by
              rw [List.filter_filter]
              apply List.filter_congr
              intro j hj
              by_cases e : j = i
              · subst e; rw [getD_set_same (by omega)]; simp
              · rw [getD_set_ne e]; simp [e]
            rw [e1]
            refine List.length_filter_lt_length_iff_exists.2 ⟨i, ?_, by simp⟩
            simp only [List.mem_filter, List.mem_range]
            exact ⟨hik, by rw [hiu.2]; rfl⟩
          omega
        · intro j hj
          rw [getD_set_ne (by omega)]
          exact htl j hj
        · intro j hj m' hm'
          by_cases e4 : m' = i
          · subst e4; exact getD_set_same (by omega)
          · rw [getD_set_ne e4]
            by_cases e5 : j = i
            · subst e5; exact waits_ready hi hm'
            · rw [getD_set_ne e5] at hj; exact hcl j hj m' hm'
        · refine ⟨by rw [defers_put]; exact hk.1, by rw [size_put]; exact hk.2.1, fun t ht' => ?_⟩
          cases hdst : o.dst with
          | none => simp only [Act.put]; exact hk.2.2 t ht'
          | some s =>
            have : s ≠ t := by
              rintro rfl
              have := List.all_eq_true.1 ht' i (by simpa using hik)
              rw [ho] at this
              simp [hdst] at this
            rw [getD_put (fun h => this h.symm)]
            exact hk.2.2 t ht'
        · intro j hj o' ho'
          by_cases e : j = i
          · subst e
            rw [ho] at ho'
            cases ho'
            cases hdst : o.dst with
            | none => rw [hvn hdst] at hV; exact hV
            | some t =>
              show kn j (_) w'
              simp only []
              rw [getD_put_self (by rw [hk.2.1]; exact ok3 j o t ho hdst)]
              exact hV
          · rw [getD_set_ne e] at hj
            have hold := hd j hj o' ho'
            have hjk : j < k0 := by
              by_cases e2 : j < k0
              · exact e2
              · rw [htl j (by omega)] at hj; cases hj
            refine ostable (hs j hjk) ?_ hbw (fun e' => hbl (fun h => e (e'.trans h.symm)))
            cases hdst' : o'.dst with
            | none => rw [hdst'] at hold; exact hold
            | some t =>
              rw [hdst'] at hold
              have hne : o.dst ≠ some t := fun hh => e (ok2 j i o' o t ho' ho hdst' hh)
              have hslot : (a.put o.dst v).tmps.getD t undef = a.tmps.getD t undef := by
                cases hdst : o.dst with
                | none => rfl
                | some s => exact getD_put (fun h => hne (by rw [hdst, h]))
              simp only [hslot]
              exact hold

theorem wp_region_one (hR : Pre R) (s0 : Nat) (ups : List Nat) (S0 : World → Prop) (hA : ancOk ops s0 ups = true) (hS : ∀ w w', S0 w → Below w.heap.size w w' → S0 w') (hSd : ∀ w, S0 w → S0 w.drew) (k0 : Nat) {id : Nat} {a : Act} {w : World} (hm : P.follows .mixedOrders = true) (hok : flowOk ops a.tmps.size = true) (ht : tailOkC ops k0 = true)
    (h0 : S0 w) (h : OneTail R s0 ups S0 P ops w a Q k0 (ops.size - k0) k0 0 (fun _ _ _ => False)) : (Code.region id ops true).wp P Q a w := by
  refine wp_region_any hm ?_
  obtain ⟨kn, hs, he⟩ := oneTail_family hok k0 0 _ (by omega) (fun m hm => absurd hm (by omega)) h
  have hk0 : k0 ≤ ops.size := by unfold tailOkC at ht; simp only [Bool.and_eq_true, decide_eq_true_eq] at ht; exact ht.1
  refine wpAny_oneTail hR hA hS hok ht hs he k0 ops.size _ a _ (by simp) ?_ (by omega) ?_ ?_ ⟨rfl, rfl, fun _ _ => rfl⟩ (hR.drew w) (fun _ => hSd _ h0) ?_
  · exact Nat.le_trans (List.length_filter_le _ _) (by simp)
  · intro j hj
    simp [Array.getD_eq_getD_getElem?, Array.getElem?_replicate]
    split <;> rfl
  · intro j hj
    simp [Array.getD_eq_getD_getElem?, Array.getElem?_replicate] at hj
    split at hj <;> simp at hj
  · intro j hj
    simp [Array.getD_eq_getD_getElem?, Array.getElem?_replicate] at hj
    split at hj <;> simp at hj
end
end Go.Proofs.YtkjghoomdefbbaaGreatDoor
end
section
namespace Go.Proofs.YtkjghoomdefbbaaGreatDoor
open Go.RowKit
set_option linter.unusedVariables false
set_option linter.unusedSimpArgs false

theorem f_ch_0_0 (g : Nat) (w : World) : (Instr.fieldAt 78 (.pointer (some ⟨g, 0, none⟩)) 0).run Tryz.prog w = .ok (.pointer (some ⟨g, 0, none⟩)) w := by simp [Instr.fieldAt, run_underlying Tryz.underlying78, Instr.sureAddr, fieldPlace, Addr.add]
theorem f_ar_0_0 (g : Nat) (w : World) : (Instr.fieldAt 25 (.pointer (some ⟨g, 0, none⟩)) 0).run Tryz.prog w = .ok (.pointer (some ⟨g, 0, none⟩)) w := by simp [Instr.fieldAt, run_underlying Tryz.underlying25, Instr.sureAddr, fieldPlace, Addr.add]
theorem f_ar_0_1 (g : Nat) (w : World) : (Instr.fieldAt 25 (.pointer (some ⟨g, 0, none⟩)) 1).run Tryz.prog w = .ok (.pointer (some ⟨g, 1, none⟩)) w := by simp [Instr.fieldAt, run_underlying Tryz.underlying25, Instr.sureAddr, fieldPlace, Addr.add]
theorem f_ar_0_2 (g : Nat) (w : World) : (Instr.fieldAt 25 (.pointer (some ⟨g, 0, none⟩)) 2).run Tryz.prog w = .ok (.pointer (some ⟨g, 2, none⟩)) w := by simp [Instr.fieldAt, run_underlying Tryz.underlying25, Instr.sureAddr, fieldPlace, Addr.add]
theorem f_en_0_0 (g : Nat) (w : World) : (Instr.fieldAt 48 (.pointer (some ⟨g, 0, none⟩)) 0).run Tryz.prog w = .ok (.pointer (some ⟨g, 0, none⟩)) w := by simp [Instr.fieldAt, run_underlying Tryz.underlying48, Instr.sureAddr, fieldPlace, Addr.add]
theorem f_en_0_1 (g : Nat) (w : World) : (Instr.fieldAt 48 (.pointer (some ⟨g, 0, none⟩)) 1).run Tryz.prog w = .ok (.pointer (some ⟨g, 1, none⟩)) w := by simp [Instr.fieldAt, run_underlying Tryz.underlying48, Instr.sureAddr, fieldPlace, Addr.add]
theorem f_va_1_0 (g : Nat) (w : World) : (Instr.fieldAt 46 (.pointer (some ⟨g, 1, none⟩)) 0).run Tryz.prog w = .ok (.pointer (some ⟨g, 1, none⟩)) w := by simp [Instr.fieldAt, run_underlying Tryz.underlying46, Instr.sureAddr, fieldPlace, Addr.add]
theorem f_va_1_5 (g : Nat) (w : World) : (Instr.fieldAt 46 (.pointer (some ⟨g, 1, none⟩)) 5).run Tryz.prog w = .ok (.pointer (some ⟨g, 6, none⟩)) w := by simp [Instr.fieldAt, run_underlying Tryz.underlying46, Instr.sureAddr, fieldPlace, Addr.add]
theorem f_va_1_6 (g : Nat) (w : World) : (Instr.fieldAt 46 (.pointer (some ⟨g, 1, none⟩)) 6).run Tryz.prog w = .ok (.pointer (some ⟨g, 7, none⟩)) w := by simp [Instr.fieldAt, run_underlying Tryz.underlying46, Instr.sureAddr, fieldPlace, Addr.add]
theorem agg_noS (w : World) : (isAgg 22).run Tryz.prog w = .ok false w := by simp [isAgg, run_underlying Tryz.underlying22]
theorem agg_noI (w : World) : (isAgg 23).run Tryz.prog w = .ok false w := by simp [isAgg, run_underlying Tryz.underlying23]
theorem agg_noZ (w : World) : (isAgg 3).run Tryz.prog w = .ok false w := by simp [isAgg, run_underlying Tryz.underlying3]
theorem agg_noT (w : World) : (isAgg 9).run Tryz.prog w = .ok false w := by simp [isAgg, run_underlying Tryz.underlying9]
section
variable {P : Program} {ops : Array Oper} {base : World} {a0 : Act} {Q : Exit → Act → World → Prop} {kn : Nat → VP} {i : Nat} {V : VP}
theorem step_nilA (x : Operand) (p : Addr) (hop : (ops[i]?).map (·.op) = some (.nilCheck x)) (hw : Wanted ops a0 kn i) (hx : Knows ops a0 kn i x (isVal (.pointer (some p)))) : FStep P ops base a0 Q kn i (isVal (.pointer (some p))) :=
  step_pure _ hop hw fun o a w ho hk' hd => by
    have e1 : a.eval x = _ := hx a w hk' hd
    unfold execOp
    rw [ho]
    simp only [e1]
    simp
/-- A place in a row of entries. -/
theorem step_placeE (t e : TypeId) (x y : Operand) (b off n cap k at_ : Nat) (hop : (ops[i]?).map (·.op) = some (.indexAddr t x y)) (hw : Wanted ops a0 kn i) (hx : Knows ops a0 kn i x (isVal (.slice (some ⟨b, off, none⟩) n cap))) (hy : Knows ops a0 kn i y (isVal (.int .i64 (k : Int))))
    (ht : P.underlying t = some (.slice e)) (hi : (P.info? e).map (·.size) = some 9) (hk : k < n ∧ at_ = off + k * 9) : FStep P ops base a0 Q kn i (isVal (.pointer (some ⟨b, at_, none⟩))) :=
  step_pure _ hop hw fun o a w ho hk' hd => by
    have e1 : a.eval x = _ := hx a w hk' hd
    have e2 : a.eval y = _ := hy a w hk' hd
    obtain ⟨ie, hie, hz⟩ := Option.map_eq_some_iff.1 hi
    have hsz : (sizeOf e).run P w = .ok 9 w := by simp [sizeOf, typeInfo, hie, hz]
    unfold execOp
    rw [ho]
    simp only [e1, e2, Sem.run_bind]
    simp [Instr.indexAt, run_underlying ht, asIntOf, hsz, hk.1, Addr.add, hk.2]
    try (intro h0; subst h0; rfl)
/-- A struct out of the middle of a block. -/
theorem step_loadA (t : TypeId) (x : Operand) (g o : Nat) (l : List Value) (hop : (ops[i]?).map (·.op) = some (.load t x)) (hw : Wanted ops a0 kn i) (hx : Knows ops a0 kn i x (isVal (.pointer (some ⟨g, o, none⟩))))
    (hs : (P.info? t).map (·.size) = some l.length) (ha : ∀ w, (isAgg t).run P w = .ok true w) (hc : g < base.heap.size ∧ ∀ (j : Nat) (x : Value), l[j]? = some x → base.cell? ⟨g, o + j, none⟩ = some x) : FStep P ops base a0 Q kn i (isVal (.agg l.toArray)) :=
  step_mk (stable_val _) hw fun op ho a w hk hb hd => by
    have e1 : a.eval x = .pointer (some ⟨g, o, none⟩) := hx a w hk hd
    have hc' : ∀ (j : Nat) (x : Value), l[j]? = some x → w.cell? ⟨g, o + j, none⟩ = some x := fun j x hx => (hb.cell (p := ⟨g, o + j, none⟩) hc.1).trans (hc.2 j x hx)
    obtain ⟨ie, hie, hz⟩ := Option.map_eq_some_iff.1 hs
    have hsz : (sizeOf t).run P w = .ok l.length w := by simp [sizeOf, typeInfo, hie, hz]
    have hl := loadCellsO (P := P) g o w l hc' 0 l #[] rfl
    have e2 : (loadVar t ⟨g, o, none⟩).run P w = .ok (.agg l.toArray) w := by
      simp only [loadVar, Sem.run_bind, ha, Result.andThen_ok, if_true, hsz, loadCells, hl, Sem.run_pure]
      simp
    unfold Oper.wp execOp
    rw [op_of hop ho]
    simp only [e1, Instr.loadAt, Instr.sureAddr, Sem.run_bind, Sem.run_pure, Result.andThen_ok, e2, Oper.upon]
    exact ⟨_, rfl, rfl, Below.refl _ _⟩
end
/-- All is as it was, but for block s. -/
structure But (s : Nat) (w w' : World) : Prop where
  os : w'.os = w.os
  tape : w'.tape = w.tape
  output : w'.output = w.output
  size : w.heap.size ≤ w'.heap.size
  block : ∀ b, b < w.heap.size → b ≠ s → w'.heap[b]? = w.heap[b]?
theorem but_pre (s : Nat) : Pre (But s) where
  refl w := ⟨rfl, rfl, rfl, Nat.le_refl _, fun _ _ _ => rfl⟩
  trans a b c h1 h2 := ⟨h2.os.trans h1.os, h2.tape.trans h1.tape, h2.output.trans h1.output, Nat.le_trans h1.size h2.size, fun i hi hne => (h2.block i (Nat.lt_of_lt_of_le hi h1.size) hne).trans (h1.block i hi hne)⟩
  grow w w' h := ⟨h.os, h.tape, h.output, h.size, fun b hb _ => h.block b hb⟩
  drew w := ⟨rfl, rfl, rfl, Nat.le_refl _, fun _ _ _ => rfl⟩
theorem But.cell {s : Nat} {w w' : World} (h : But s w w') {p : Addr} (hlt : p.block < w.heap.size) (hne : p.block ≠ s) : w'.cell? p = w.cell? p := World.cell?_of_block (w := w) (h.block p.block hlt hne)
theorem But.frozen {s : Nat} {w w' : World} (h : But s w w') {p : Addr} (hlt : p.block < w.heap.size) (hne : p.block ≠ s) : w'.frozen? p = w.frozen? p := World.frozen?_of_block (w := w) (h.block p.block hlt hne)
theorem But.below {s B : Nat} {w w' : World} (h : But s w w') (hB : B ≤ s) (hs : B ≤ w.heap.size) : Below B w w' := ⟨h.os, h.tape, h.output, h.size, fun b hb => h.block b (by omega) (by omega)⟩
theorem But.own {s B : Nat} {w w' : World} {e : TypeId} {size : Nat} {v : Value} {n : Nat} {xs : List Value} (h : But s w w') (ho : w.ownsRow B e size v n xs) (hne : ∀ g, v.ownBlock = some g → g ≠ s) : w'.ownsRow B e size v n xs := by
  obtain ⟨hl, h1 | ⟨g, cap, cur, hv, hB, hg, rest⟩⟩ := ho
  · exact ⟨hl, .inl h1⟩
  · exact ⟨hl, .inr ⟨g, cap, cur, hv, hB, (h.block g (Array.getElem?_eq_some_iff.1 hg).1 (hne g (by rw [hv]; rfl))).trans hg, rest⟩⟩
theorem But.cells {s : Nat} {w w' : World} {cs : List Value} {v : Value} (h : But s w w') (hc : isCells cs v w) (hne : cs = [] ∨ blk v ≠ some s) : isCells cs v w' := by
  rcases hc with hc | hc | ⟨b, off, cap, e, hlt, hc⟩
  · exact .inl hc
  · exact .inr (.inl hc)
  rcases hne with rfl | hne
  · exact .inr (.inl ⟨_, _, e, rfl⟩)
  · exact .inr (.inr ⟨b, off, cap, e, Nat.lt_of_lt_of_le hlt h.size, fun j x hx => (h.cell (p := ⟨b, off + j, none⟩) hlt (by rintro rfl; apply hne; rw [e]; rfl)).trans (hc j x hx)⟩)
theorem off_size {cs : List Value} {v : Value} {w : World} (hc : isCells cs v w) {s : Nat} (hs : w.heap.size ≤ s) : cs = [] ∨ blk v ≠ some s := by
  rcases hc with hc | ⟨_, _, _, hc⟩ | ⟨b, off, cap, e, hlt, hc⟩
  · exact .inl hc.2
  · exact .inl hc
  · refine .inr ?_
    rw [e]; intro h; injection h with h; have : b = s := h; omega
theorem But.blk {s g : Nat} {w w' : World} {cs : List Value} (h : But s w w') (hb : Blk w g cs) (hne : g ≠ s) : Blk w' g cs :=
  ⟨⟨Nat.lt_of_lt_of_le hb.lt h.size, fun j x hx => (h.cell (p := ⟨g, j, none⟩) hb.lt hne).trans (hb.cells.2 j x hx)⟩, fun j => (h.frozen (p := ⟨g, j, none⟩) hb.lt hne).trans (hb.free j)⟩
theorem stabR_val' (R : World → World → Prop) (v : Value) : StableR R (isVal v) := fun _ _ _ h _ => h
end Go.Proofs.YtkjghoomdefbbaaGreatDoor
end
section
namespace Go.Proofs.YtkjghoomdefbbaaGreatDoor
set_option linter.unusedVariables false

/-- Behind one bit: of a number whose lowest bit is already turned by it. -/
def stp (n : Nat) : Nat := if n % 2 = 1 then (n / 2) ^^^ 3988292384 else n / 2
/-- So many steps. -/
def stps : Nat → Nat → Nat
  | 0, n => n
  | k + 1, n => stps k (stp n)
/-- Behind the eight bits of a byte. -/
@[irreducible] def stp8 (n : Nat) : Nat := stps 8 n
theorem stp8_eq (n : Nat) : stp8 n = stps 8 n := by unfold stp8; rfl
/-- Behind a text. -/
def onL : Nat → List UInt8 → Nat
  | n, [] => n
  | n, b :: l => onL (stp8 (n ^^^ b.toNat)) l
/-- The sum of what has a sum, and a text behind it. -/
def addN (sum : Nat) (l : List UInt8) : Nat := 4294967295 - onL (4294967295 - sum) l
def crcN (l : List UInt8) : Nat := addN 0 l
def sealL (l : List UInt8) : List UInt8 := l ++ putL (crcN l) 4
/-- Does it open? -/
def opens (l : List UInt8) : Bool := decide (4 ≤ l.length) && decide (getN (l.drop (l.length - 4)) = crcN (l.take (l.length - 4)))

theorem xor_two (a b : Nat) : (a ^^^ b) % 2 = (a % 2 + b % 2) % 2 := by
  have h := Nat.testBit_xor (x := a) (y := b) (i := 0)
  simp only [Nat.testBit_zero] at h
  rcases Nat.mod_two_eq_zero_or_one a with ha | ha <;> rcases Nat.mod_two_eq_zero_or_one b with hb | hb <;> rcases Nat.mod_two_eq_zero_or_one (a ^^^ b) with hc | hc <;> simp_all
theorem xor_half (a b : Nat) : (a ^^^ b) / 2 = a / 2 ^^^ b / 2 := by
  apply Nat.eq_of_testBit_eq
  intro i
  simp [Nat.testBit_xor, ← Nat.testBit_succ]

theorem stp_xor (a b : Nat) : stp (a ^^^ b) = stp a ^^^ stp b := by
  unfold stp
  rw [xor_two, xor_half]
  rcases Nat.mod_two_eq_zero_or_one a with ha | ha <;> rcases Nat.mod_two_eq_zero_or_one b with hb | hb <;> simp only [ha, hb] <;> simp
  · rw [Nat.xor_assoc]
  · rw [Nat.xor_assoc, Nat.xor_assoc, Nat.xor_comm 3988292384]
  · rw [Nat.xor_assoc, Nat.xor_comm 3988292384, Nat.xor_assoc, Nat.xor_self, Nat.xor_zero]
theorem stp_lt {n : Nat} (h : n < 4294967296) : stp n < 4294967296 := by
  unfold stp
  split
  · exact Nat.xor_lt_two_pow (n := 32) (by omega) (by decide)
  · omega
theorem stp_nil {n : Nat} (h : n < 4294967296) (e : stp n = 0) : n = 0 := by
  unfold stp at e
  split at e
  · have : n / 2 = 3988292384 := by
      have := congrArg (· ^^^ 3988292384) e
      simpa [Nat.xor_assoc] using this
    omega
  · omega
theorem stp_twice {c : Nat} : stp (2 * c) = c := by unfold stp; rw [if_neg (by omega)]; omega

theorem stps_xor : ∀ (k a b : Nat), stps k (a ^^^ b) = stps k a ^^^ stps k b
  | 0, _, _ => rfl
  | k + 1, a, b => by simp only [stps]; rw [stp_xor, stps_xor k]
theorem stps_lt : ∀ (k : Nat) {n : Nat}, n < 4294967296 → stps k n < 4294967296
  | 0, _, h => h
  | k + 1, _, h => stps_lt k (stp_lt h)
theorem stps_zero : ∀ k : Nat, stps k 0 = 0
  | 0 => rfl
  | k + 1 => by simp only [stps]; exact stps_zero k
theorem stps_nil : ∀ (k : Nat) {n : Nat}, n < 4294967296 → stps k n = 0 → n = 0
  | 0, _, _, e => e
  | k + 1, n, h, e => stp_nil h (stps_nil k (stp_lt h) e)
theorem stps_add : ∀ (j k n : Nat), stps (j + k) n = stps k (stps j n)
  | 0, k, n => by simp [stps]
  | j + 1, k, n => by rw [show j + 1 + k = (j + k) + 1 by omega]; simp only [stps]; exact stps_add j k _
theorem stps_shl : ∀ (k c : Nat), stps k (2 ^ k * c) = c
  | 0, c => by simp [stps]
  | k + 1, c => by
    simp only [stps]
    rw [show 2 ^ (k + 1) * c = 2 * (2 ^ k * c) by rw [Nat.pow_succ, Nat.mul_comm (2 ^ k) 2, Nat.mul_assoc], stp_twice]
    exact stps_shl k c

theorem onL_cons (n : Nat) (b : UInt8) (l : List UInt8) : onL n (b :: l) = onL (stp8 (n ^^^ b.toNat)) l := rfl
theorem onL_append : ∀ (a b : List UInt8) (n : Nat), onL n (a ++ b) = onL (onL n a) b
  | [], _, _ => rfl
  | x :: a, b, n => by rw [List.cons_append, onL_cons, onL_cons, onL_append a b]
theorem byte_lt (b : UInt8) : b.toNat < 4294967296 := by have := b.toNat_lt; omega
theorem x32 {a b : Nat} (ha : a < 4294967296) (hb : b < 4294967296) : a ^^^ b < 4294967296 := Nat.xor_lt_two_pow (n := 32) ha hb
theorem onL_lt : ∀ (l : List UInt8) {n : Nat}, n < 4294967296 → onL n l < 4294967296
  | [], _, h => h
  | b :: l, n, h => onL_lt l (by rw [stp8_eq]; exact stps_lt 8 (x32 h (byte_lt b)))
theorem not_x32 {n : Nat} (h : n < 4294967296) : 4294967295 - n = 4294967295 ^^^ n := by
  apply Nat.eq_of_testBit_eq
  intro i
  have h3 := Nat.testBit_two_pow_sub_succ (x := n) (n := 32) h i
  rw [show (4294967295 : Nat) - n = 2 ^ 32 - (n + 1) by omega, h3, Nat.testBit_xor]
  rw [show (4294967295 : Nat) = 2 ^ 32 - 1 by decide, Nat.testBit_two_pow_sub_one]
  by_cases hi : i < 32
  · simp [hi]
  · have : n.testBit i = false := Nat.testBit_lt_two_pow (Nat.lt_of_lt_of_le h (Nat.pow_le_pow_right (n := 2) (by omega) (by omega : 32 ≤ i)))
    simp [hi, this]
theorem addN_lt (n : Nat) (l : List UInt8) : addN n l < 4294967296 := by unfold addN; omega
theorem sumN_lt (l : List UInt8) : crcN l < 4294967296 := addN_lt 0 l
theorem stp8_xor (a b : Nat) : stp8 (a ^^^ b) = stp8 a ^^^ stp8 b := by rw [stp8_eq, stp8_eq, stp8_eq, stps_xor]
theorem xors (a b c d : Nat) : (a ^^^ b) ^^^ (c ^^^ d) = (a ^^^ c) ^^^ (b ^^^ d) := by
  rw [Nat.xor_assoc, Nat.xor_assoc, ← Nat.xor_assoc b c d, Nat.xor_comm b c, Nat.xor_assoc c b d]
theorem onL_xor : ∀ (a b : List UInt8) (m n : Nat), a.length = b.length → onL (m ^^^ n) (pairL (· ^^^ ·) a b) = onL m a ^^^ onL n b
  | [], [], _, _, _ => rfl
  | [], _ :: _, _, _, h => by simp at h
  | _ :: _, [], _, _, h => by simp at h
  | x :: a, y :: b, m, n, h => by
    rw [pairL, onL_cons, onL_cons, onL_cons, UInt8.toNat_xor, xors, stp8_xor]
    exact onL_xor a b _ _ (by simpa using h)
theorem onL_zeros : ∀ (k n : Nat), onL n (List.replicate k 0) = stps (8 * k) n
  | 0, n => rfl
  | k + 1, n => by
    rw [List.replicate_succ, onL_cons, onL_zeros k, show (0 : UInt8).toNat = 0 from rfl, Nat.xor_zero, stp8_eq, ← stps_add, Nat.mul_add, Nat.add_comm]
theorem xor_add (a c : Nat) (h : a < 256) : a ^^^ (256 * c) = a + 256 * c := by
  have := Nat.two_pow_add_eq_or_of_lt (i := 8) (by simpa using h) c
  rw [show 256 * c = 2 ^ 8 * c by rfl, Nat.add_comm, this]
  apply Nat.eq_of_testBit_eq
  intro i
  rw [Nat.testBit_xor, Nat.testBit_or, Nat.testBit_two_pow_mul]
  by_cases hi : 8 ≤ i
  · have : a.testBit i = false := Nat.testBit_lt_two_pow (Nat.lt_of_lt_of_le h (Nat.pow_le_pow_right (n := 2) (by omega) hi))
    simp [this]
  · simp [hi]
/-- Bytes that stand next to each other, as a number, are turned into it at once. -/
theorem onL_getN : ∀ (l : List UInt8) (n : Nat), onL n l = stps (8 * l.length) (n ^^^ getN l)
  | [], n => by simp [onL, stps, getN]
  | b :: l, n => by
    have hb := b.toNat_lt
    rw [onL_cons, onL_getN l, stp8_eq]
    have h : getN (b :: l) = b.toNat ^^^ 256 * getN l := by rw [xor_add _ _ hb]; simp [getN]; try omega
    rw [h, show 8 * (b :: l).length = 8 + 8 * l.length by simp; omega, stps_add, ← Nat.xor_assoc, stps_xor 8 (n ^^^ b.toNat), show 256 * getN l = 2 ^ 8 * getN l by rfl, stps_shl]
end Go.Proofs.YtkjghoomdefbbaaGreatDoor
end
section
namespace Go.Proofs.YtkjghoomdefbbaaGreatDoor
open Go.RowKit
set_option linter.unusedVariables false

theorem low_bit {n : Nat} (h : n < 4294967296) : bits .and .u32 (n : Int) 1 = ((n % 2 : Nat) : Int) := by
  have := u32_and_nat n 1 h (by omega)
  rw [show ((1 : Nat) : Int) = 1 from rfl] at this
  rw [this, Nat.and_one_is_mod]

set_option maxHeartbeats 400000 in
theorem afterBits_any (n : Nat) (w : World) (hn : n < 4294967296) :
    Calls Tryz.prog 112 #[.int .u32 (n : Int)] w fun e w' => e = .returned (.int .u32 (stp8 n : Int)) ∧ w = w' := by
  go_enter Tryz.func112, Tryz.ntmps112
  go_wp2
  go_loop [0, 4] (fun x i => ∃ k q : Nat, k ≤ 8 ∧ q < 4294967296 ∧ i = .int .i64 k ∧ x = .int .u32 (q : Int) ∧ Hid (stps (8 - k) q = stps 8 n)) (fun _ i => 8 - (intOf i).toNat)
  case atStart => exact ⟨0, n, by omega, hn, rfl, rfl, Lib.hid rfl⟩
  case round =>
    obtain ⟨k, q, hk, hq, rfl, rfl, HR⟩ := hrel
    by_cases hlt : k < 8
    · have hand := low_bit hq
      have hxor := u32_xor_nat (q / 2) 3988292384 (by omega) (by omega)
      have HS := Lib.hid (show stps (8 - k) q = stps (8 - (k + 1)) (stp q) by rw [show 8 - k = (8 - (k + 1)) + 1 by omega]; rfl)
      have hsl := stp_lt hq
      by_cases hodd : q % 2 = 1
      · have HE := Lib.hid (show stp q = q / 2 ^^^ 3988292384 by unfold stp; rw [if_pos hodd])
        go_wp2
        go_round
        case rel => exact ⟨k + 1, stp q, by omega, hsl, by go_num, by rw [HE.out, ← hxor]; go_num, Lib.hid (by rw [← HS.out]; exact HR.out)⟩
        case measure => simp [intOf]; omega
      · have hev : q % 2 = 0 := by omega
        have HE := Lib.hid (show stp q = q / 2 by unfold stp; rw [if_neg hodd])
        go_wp2
        go_round
        case rel => exact ⟨k + 1, stp q, by omega, hsl, by go_num, by rw [HE.out]; go_num, Lib.hid (by rw [← HS.out]; exact HR.out)⟩
        case measure => simp [intOf]; omega
    · obtain rfl : k = 8 := by omega
      go_wp2
      go_ret
      exact ⟨ret_int (by rw [stp8_eq, ← HR.out]; rfl), rfl⟩

theorem onL_take (n : Nat) (l : List UInt8) (k : Nat) (h : k < l.length) : onL n (l.take (k + 1)) = stp8 (onL n (l.take k) ^^^ (l[k]).toNat) := by
  rw [List.take_succ_eq_append_getElem h, onL_append, onL_cons]; rfl

set_option maxHeartbeats 400000 in
theorem byBits_any (n : Nat) (l : List UInt8) (w : World) (hn : n < 4294967296) (hl : l.length ≤ 1000000) :
    Calls Tryz.prog 92 #[.int .u32 (n : Int), .string ⟨l.toArray⟩] w fun e w' => e = .returned (.int .u32 (onL n l : Int)) ∧ w = w' := by
  go_enter Tryz.func92, Tryz.ntmps92
  have hsz : (⟨l.toArray⟩ : ByteArray).size = l.length := size_mk l
  go_wp2
  go_loop [0, 8] (fun x i => ∃ k : Nat, k ≤ l.length ∧ i = .int .i64 k ∧ x = .int .u32 (onL n (l.take k) : Int)) (fun _ i => l.length - (intOf i).toNat)
  case atStart => exact ⟨0, Nat.zero_le _, rfl, rfl⟩
  case round =>
    obtain ⟨k, hk, rfl, rfl⟩ := hrel
    have ho := onL_lt (l.take k) hn
    by_cases hlt : k < l.length
    · have HT := Lib.hid (onL_take n l k hlt)
      have hb := byte_lt l[k]
      have hget : (⟨l.toArray⟩ : ByteArray).data[k]? = some l[k] := by simp [hlt]
      have hx := x32 ho hb
      have hb2 := (l[k]).toNat_lt
      have HX := Lib.hid (show bits .xor .u32 (onL n (l.take k) : Int) ((((⟨l.toArray⟩ : ByteArray)[k]'(by rw [hsz]; exact hlt)).toNat : Int) % 4294967296) = ((onL n (l.take k) ^^^ (l[k]).toNat : Nat) : Int) by
        rw [← u32_xor_nat _ _ ho hb]; congr 1; change (((l[k]).toNat : Nat) : Int) % 4294967296 = _; omega)
      generalize onL n (l.take k) = q at *
      go_wp2_with fail
      rw [HX.out]
      refine (afterBits_any _ _ hx).mono ?_
      rintro e w' ⟨rfl, rfl⟩
      go_wp2
      go_round
      case rel => exact ⟨k + 1, by omega, by go_num, by rw [HT.out]⟩
      case measure => simp [intOf]; omega
    · go_wp2
      go_ret
      exact ⟨ret_int (by rw [List.take_of_length_le (by omega)]), rfl⟩

theorem turned_u32 {n : Nat} (h : n < 4294967296) : bits .xor .u32 IntKind.u32.max (n : Int) = ((4294967295 - n : Nat) : Int) := by
  rw [not_x32 h, ← u32_xor_nat _ _ (by omega) h]; rfl

set_option maxHeartbeats 400000 in
theorem extend_any (n : Nat) (l : List UInt8) (w : World) (hn : n < 4294967296) (hl : l.length ≤ 1024) :
    Calls Tryz.prog 60 #[.int .i64 (n : Int), .string ⟨l.toArray⟩] w fun e w' => e = .returned (.int .i64 (addN n l : Int)) ∧ w = w' := by
  have ho := onL_lt l (n := 4294967295 - n) (by omega)
  have HA := Lib.hid (show addN n l = 4294967295 - onL (4294967295 - n) l from rfl)
  have hsz : (⟨l.toArray⟩ : ByteArray).size = l.length := size_mk l
  have hc : decide (1024 < (l.length : Int)) = false := by simp; omega
  go_enter Tryz.func60, Tryz.ntmps60
  have h1 := turned_u32 hn
  have h2 := turned_u32 ho
  have hle : onL (4294967295 - n) l ≤ 4294967295 := by omega
  go_wp2_with fail
  refine (byBits_any _ l _ (by omega) (by omega)).mono ?_
  rintro e w' ⟨rfl, rfl⟩
  clear h1
  generalize onL (4294967295 - n) l = q at *
  go_wp2
  go_ret
  exact ⟨ret_int (by rw [HA.out]), rfl⟩

set_option maxHeartbeats 400000 in
theorem sum_any (l : List UInt8) (w : World) (hl : l.length ≤ 1024) :
    Calls Tryz.prog 32 #[.string ⟨l.toArray⟩] w fun e w' => e = .returned (.int .i64 (crcN l : Int)) ∧ w = w' := by
  go_enter Tryz.func32, Tryz.ntmps32
  go_wp2_with fail
  refine (extend_any 0 l _ (by omega) hl).mono ?_
  rintro e w' ⟨rfl, rfl⟩
  go_wp2
  go_ret
  exact ⟨rfl, rfl⟩

/-- What opening answers. -/
def openS (l : List UInt8) : List UInt8 := if opens l then l.take (l.length - 4) else []
def openE (l : List UInt8) : Int := if opens l then 0 else 2

end Go.Proofs.YtkjghoomdefbbaaGreatDoor
end
section
namespace Go.Proofs.YtkjghoomdefbbaaGreatDoor
open Go.RowKit
set_option linter.unusedVariables false
set_option linter.unusedSimpArgs false

def maskB (m : Int) : Bool := decide (0 ≤ m) && decide (m ≤ 15)
theorem isMask_any (m : Int) (w : World) : Calls Tryz.prog 40 #[.int .i64 m] w fun e w' => e = .returned (.bool (maskB m)) ∧ Below w.heap.size w w' := by
  go_enter Tryz.func40, Tryz.ntmps40
  by_cases h : 0 ≤ m
  · go_wp2
    all_goals go_ret
    all_goals exact ⟨by unfold maskB; simp [h], Below.refl _ _⟩
  · go_wp2
    all_goals go_ret
    all_goals exact ⟨by unfold maskB; rw [decide_eq_false (show ¬ 0 ≤ m by omega)]; rfl, Below.refl _ _⟩
theorem bit_any (k : Nat) (w : World) (hk : k < 4) : Calls Tryz.prog 41 #[.int .i64 (k : Int)] w fun e w' => e = .returned (.int .i64 ((2 ^ k : Nat) : Int)) ∧ Below w.heap.size w w' := by
  go_enter Tryz.func41, Tryz.ntmps41
  have h4 : k = 0 ∨ k = 1 ∨ k = 2 ∨ k = 3 := by omega
  rcases h4 with rfl | rfl | rfl | rfl <;>
  · go_wp2
    all_goals go_ret
    all_goals exact ⟨rfl, Below.refl _ _⟩
theorem wrap_low (x : Int) (h0 : 0 ≤ x) (h1 : x < 256) : IntKind.i64.wrap x = x := by
  show (if (true && decide (x % (2 ^ 64 : Int) ≥ (2 ^ 63 : Int))) = true then x % (2 ^ 64 : Int) - 2 ^ 64 else x % (2 ^ 64 : Int)) = x
  have h2 : ¬ (x % (2 ^ 64 : Int) ≥ (2 ^ 63 : Int)) := by omega
  rw [decide_eq_false h2]
  show x % (2 ^ 64 : Int) = x
  omega
theorem and_255 (n : Int) : bits .and .i64 n 255 = n % 256 := by
  show IntKind.i64.wrap ((BitVec.ofInt 64 n &&& BitVec.ofInt 64 255).toNat : Int) = _
  rw [BitVec.toNat_and, BitVec.toNat_ofInt, BitVec.toNat_ofInt, show ((255 : Int) % ((2 ^ 64 : Nat) : Int)).toNat = 2 ^ 8 - 1 by decide, Nat.and_two_pow_sub_one_eq_mod]
  have h3 : (((n % ((2 ^ 64 : Nat) : Int)).toNat % 2 ^ 8 : Nat) : Int) = n % 256 := by omega
  rw [h3]
  exact wrap_low _ (by omega) (by omega)
/-- A name's bucket. -/
def bucketN (kind : Int) (key : List UInt8) : Nat := crcN (UInt8.ofNat (kind % 256).toNat :: key) % 4
theorem bucketN_lt (kind : Int) (key : List UInt8) : bucketN kind key < 4 := Nat.mod_lt _ (by decide)
set_option maxHeartbeats 800000 in
theorem bucket_any (kind : Int) (key : List UInt8) (w : World) (hl : key.length ≤ 1000) : Calls Tryz.prog 17 #[.int .i64 kind, .string ⟨key.toArray⟩] w fun e w' => e = .returned (.int .i64 (bucketN kind key : Int)) ∧ Below w.heap.size w w' := by
  obtain ⟨m, hm⟩ : ∃ m : Nat, kind % 256 = (m : Int) := ⟨(kind % 256).toNat, by omega⟩
  have hm2 : m < 256 := by omega
  have ha : bits .and .i64 kind 255 = (m : Int) := by rw [and_255, hm]
  have HS := Lib.hid (show bucketN kind key = crcN ([UInt8.ofNat m] ++ key) % 4 by unfold bucketN; rw [hm]; rfl)
  have hlt := sumN_lt ([UInt8.ofNat m] ++ key)
  have hcat := fun W => run_string_add_lists (P := Tryz.prog) W [UInt8.ofNat m] key (by simp) (by omega)
  go_enter Tryz.func17, Tryz.ntmps17
  clear hm
  go_wp2_with fail
  refine (put_yes m 1 _ (by omega) (by omega) (by omega)).mono ?_
  rintro e w' ⟨rfl, hB⟩
  rw [show putL m 1 = [UInt8.ofNat m] by rfl]
  have hB2 := Lib.hid hB
  clear hB
  go_wp2_with fail
  refine (sum_any ([UInt8.ofNat m] ++ key) _ (by simp; omega)).mono ?_
  rintro e w' ⟨rfl, rfl⟩
  generalize crcN ([UInt8.ofNat m] ++ key) = s at *
  go_wp2
  go_ret
  exact ⟨by rw [HS.out]; go_num, hB2.out⟩
end Go.Proofs.YtkjghoomdefbbaaGreatDoor
end
section
namespace Go.Proofs.YtkjghoomdefbbaaGreatDoor
open Go Go.RowKit
set_option linter.unusedVariables false
set_option linter.unusedSimpArgs false

/-- A function's contract as an iterator, with a word Px on each element at its yield. -/
def SeqMade {α : Type} (F : Fence) (n : Nat) (P : Program) (g : Nat) (lb : Array Value) (encs : α → Array Value) (Px : List α → α → World → Prop) (Kp : α → World → World → Prop) (S Sp : List α → Prop) (N : Nat) (w : World) : Prop :=
  ∀ (l : Nat) (J Jx : List α → World → Prop) (W : World), Below w.heap.size w W → AbidesFrom W.heap.size J → AbidesFrom W.heap.size Jx →
    (∀ pre x W1, J pre W1 → Px pre x W1 → pre.length < N → YieldAt F (n - 1) P l (encs x) W1 fun e W' =>
      (e = .returned (.bool true) ∧ J (pre ++ [x]) W' ∧ Kp x W1 W') ∨ (e = .returned (.bool false) ∧ Jx (pre ++ [x]) W')) →
    J [] W →
    CallsIn F n P g (#[.func (.yield l) #[] #[]] ++ lb) W fun e W' => (∃ v, e = .returned v) ∧ ((∃ xs, S xs ∧ J xs W') ∨ (∃ pre, Sp pre ∧ Jx pre W'))

/-- The loop's two blocks of book-keeping, at B and B + 1. -/
structure Books (rc : LoopState → Option Code → Loop) (B : Nat) (st : LoopState) (pe : Option Code) (W : World) : Prop where
  rec_ : W.heap[B + 1]? = some (.loop (rc st pe))
  def_ : W.heap[B]? = some (.deferred (some []))

theorem Books.lt {rc B st pe W} (h : Books rc B st pe W) : B + 1 < W.heap.size := (Array.getElem?_eq_some_iff.1 h.rec_).1
theorem Books.turn {rc B st pe W} (h : Books rc B st pe W) (st' : LoopState) (pe' : Option Code) : Books rc B st' pe' (W.putObj (B + 1) (.loop (rc st' pe'))) :=
  ⟨World.putObj_heap_same h.lt, (World.putObj_heap_other (by omega)).trans h.def_⟩
theorem Books.kept {rc B st pe W W'} (h : Books rc B st pe W) (k : KeepsFrom B W W') : Books rc B st pe W' :=
  ⟨k.same _ _ (by omega) h.rec_ rfl, k.same _ _ (Nat.le_refl _) h.def_ rfl⟩
theorem Books.grown {rc B st pe W W' row} (h : Books rc B st pe W) (hg : W.grownBy W' row) (hr : ∀ r, row = some r → ∃ o : Obj, W.heap[r]? = some o ∧ o.isWalk = true) : Books rc B st pe W' :=
  ⟨(grownBy_keeps hg hr h.rec_ rfl).trans h.rec_, (grownBy_keeps hg hr h.def_ rfl).trans h.def_⟩

variable {F : Fence} {n : Nat} {P : Program}

theorem range_made {α : Type} {g : Operand} {ps : Array Tmp} {assign body : Code} {Q : Exit → Act → World → Prop} {a : Act} {w : World}
    (hro : F.round = none) (h1 : 1 ≤ n) {gf : Nat} {lb : Array Value} (hg : a.eval g = .func (.func gf) #[] lb) (hFg : F.fn gf) (eg : ∀ args w, (callFunc gf args).run P w = .ok (.enter gf args) w)
    {encs : α → Array Value} {Px : List α → α → World → Prop} {Kp : α → World → World → Prop} {S Sp : List α → Prop} {N : Nat} {w0 : World} (hseq : SeqMade F (n - 1) P gf lb encs Px Kp S Sp N w0)
    (hKt : ∀ {x} {A B C : World}, Kp x A B → Kp x B C → Kp x A C) (hKb : ∀ x (W : World) (l : Nat) (o o' : Obj), w.heap.size ≤ l → W.heap[l]? = some o → o.isCells = false → o.isWalk = false → Kp x W (W.putObj l o')) (hb0 : Below w0.heap.size w0 w) (hps : ∀ x, (encs x).size = ps.size)
    (I : List α → World → Prop) (Ix : Code → List α → World → Prop) (hI : OwnFrom w.heap.size I) (hIx : ∀ c, OwnFrom w.heap.size (Ix c)) (h0 : I [] w) (Ax : α → Act → World → Prop) (hAx : ∀ x a', OwnFrom w.heap.size (fun (_ : Unit) W => Ax x a' W))
    (hassign : ∀ (l : Nat) (pre : List α) (x : α) (W : World) (K : Act → World → Prop), I pre W → Px pre x W → (∀ a' W', KeepsFrom w.heap.size W W' → Kp x W W' → I pre W' → Ax x a' W' → K a' W') →
      assign.wpIn (F.inRound l) (n - 1 - 1) P (Exit.then K (fun _ _ _ => False)) { tmps := (ps.zip (encs x)).foldl (fun t (p, v) => t.setIfInBounds p v) a.tmps, defers := [] } W)
    (hbody : ∀ (l : Nat) (pre : List α) (x : α) (a' : Act) (W : World), w.heap.size ≤ l → I pre W → Ax x a' W → pre.length < N → body.wpIn (F.inRound l) (n - 1 - 1) P (ownPostG w.heap.size (Kp x) I Ix (pre ++ [x]) W) a' W)
    (hdone : ∀ (D : Nat) (xs : List α) (W : World), w.heap.size ≤ D → S xs → I xs W → W.heap[D]? = some (.deferred (some [])) → Q .normal { a with defers := { target := .collected D, args := #[] } :: a.defers } W)
    (hstop : ∀ (D : Nat) (c : Code) (pre : List α) (W : World), w.heap.size ≤ D → Sp pre → Ix c pre W → W.heap[D]? = some (.deferred (some [])) → c.wpIn F n P Q { a with defers := { target := .collected D, args := #[] } :: a.defers } W) :
    (Code.rangeFunc g ps assign body).wpIn F n P Q a w := by
  refine wpIn_rangeFunc fun fn hfn => ?_
  rw [hro]
  have hsz1 : w.heap.size + 1 = (w.alloc (.deferred (some []))).heap.size := (World.size_alloc ..).symm
  obtain ⟨rc, hrc⟩ : ∃ rc : LoopState → Option Code → Loop, rc = fun st pe => { state := st, pending := pe, fn, tmps := a.tmps, params := ps, assign, body, defers := w.heap.size } := ⟨_, rfl⟩
  obtain ⟨W1, hW1⟩ : ∃ W1, (w.alloc (.deferred (some []))).alloc (.loop (rc .ready none)) = W1 := ⟨_, rfl⟩
  have hB1 : Books rc w.heap.size .ready none W1 := by
    subst hW1
    exact ⟨by rw [hsz1]; exact World.alloc_heap_new _ _, (Below.heap_alloc _ _ _ (by simp)).trans (World.alloc_heap_new w _)⟩
  have hI1 : I [] W1 := hW1 ▸ hI.alloc _ (hI.alloc _ h0)
  have hb1 : Below w0.heap.size w0 W1 := hW1 ▸ hb0.trans ((((Below.refl _ w).alloc (Nat.le_refl _) _).alloc (by simp) _).mono hb0.size)
  have hwalk : ∀ {A : World} {row : Option Nat}, (∀ r, row = some r → W1.heap.size ≤ r ∧ ∃ o : Obj, A.heap[r]? = some o ∧ o.isWalk = true) → (∀ r, row = some r → w.heap.size ≤ r ∧ ∃ o : Obj, A.heap[r]? = some o ∧ o.isCells = false) :=
    fun hr r e => by
      obtain ⟨hB, o, ho, hw⟩ := hr r e
      have := hB1.lt
      exact ⟨by omega, o, ho, Obj.not_cells_of_walk hw⟩
  have hps' : ∀ x st pe, (encs x).size = (rc st pe).params.size := fun x st pe => by rw [hrc]; exact hps x
  refine ⟨w.heap.size + 1, [{ target := .collected w.heap.size, args := #[] }], W1, { target := .fn (.func gf) lb, args := #[.func (.yield (w.heap.size + 1)) #[] #[]] }, W1, gf,
    #[.func (.yield (w.heap.size + 1)) #[] #[]] ++ lb, W1, ?_, ?_, ?_, ?_, fun _ => h1, ?_⟩
  · rw [← hW1, hrc]; exact run_enterLoop_outer _ _ _ _ _
  · simp only [resolve, hg]
    simp [go_sem]
  · intro f' hf'; simp [Target.leads] at hf'; subst hf'; exact hFg
  · simp [invoke, go_sem, eg]
  refine (hseq (w.heap.size + 1) (fun pre W => I pre W ∧ Books rc w.heap.size .ready none W) (fun pre W => ∃ c, Ix c pre W ∧ Books rc w.heap.size .done (some c) W) W1 hb1
    (fun s A B row hs hg' hr => ⟨hI s A B row hs.1 hg' (hwalk hr), hs.2.grown hg' fun r e => (hr r e).2⟩)
    (fun s A B row ⟨c, hc, hk⟩ hg' hr => ⟨c, hIx c s A B row hc hg' (hwalk hr), hk.grown hg' fun r e => (hr r e).2⟩) ?_ ⟨hI1, hB1⟩).mono ?_
  · rintro pre x W ⟨hi, hk⟩ hpx hlen
    have hy := run_yield (P := P) (args := encs x) hk.rec_ (hps' x _ _)
    rw [hrc] at hy
    refine ⟨fn, _, assign, body, hy, roundIn_of_wpIn hfn (hassign _ pre x W _ hi hpx ?_)⟩
    clear hy hi
    intro a' W2 kf kp hi hax
    replace hk := hk.kept kf
    have hbeg := run_beginRound (P := P) hk.rec_ (by rw [hrc])
    have hk2 := hk.turn .busy none
    have hput : (W2.putObj (w.heap.size + 1) (.loop (rc .busy none))) = W2.putObj (w.heap.size + 1) (.loop { rc .ready none with state := .busy }) := by rw [hrc]
    rw [hput] at hk2
    refine ⟨_, hbeg, wpIn_mono (hbody _ pre x a' _ (by omega) (hI.putObj _ hi (by omega) hk.rec_ rfl) ((hAx x a').putObj (s := ()) _ hax (by omega) hk.rec_ rfl) hlen) ?_⟩
    have kp2 := hKt kp (hKb x W2 (w.heap.size + 1) _ (.loop { rc .ready none with state := .busy }) (by omega) hk.rec_ rfl rfl)
    have fin : ∀ (jump : Option Code) (W3 : World), Books rc w.heap.size .busy none W3 → (Instr.endRound (w.heap.size + 1) jump).run P W3 = .ok (.bool jump.isNone) (W3.putObj (w.heap.size + 1) (.loop (rc (if jump.isNone then .ready else .done) jump))) := fun jump W3 hk3 => by
      have := run_endRound (P := P) jump hk3.rec_
      rw [hrc] at this ⊢
      exact this
    have away : ∀ (c : Code) (W3 : World), KeepsFrom w.heap.size (W2.putObj (w.heap.size + 1) (.loop { rc .ready none with state := .busy })) W3 → Ix c (pre ++ [x]) W3 →
        ∃ v W4, (Instr.endRound (w.heap.size + 1) (some c)).run P W3 = .ok v W4 ∧ v = .bool false ∧ ∃ c, Ix c (pre ++ [x]) W4 ∧ Books rc w.heap.size .done (some c) W4 := fun c W3 kf3 hi3 => by
      have hk3 := hk2.kept kf3
      exact ⟨_, _, fin (some c) W3 hk3, rfl, c, (hIx c).putObj _ hi3 (by omega) hk3.rec_ rfl, hk3.turn .done (some c)⟩
    rintro e a3 W3 hp
    cases e with
    | normal =>
      obtain ⟨kf3, kp3, hi3⟩ := hp
      have hk3 := hk2.kept kf3
      exact ⟨_, _, fin none W3 hk3, .inl ⟨rfl, ⟨hI.putObj _ hi3 (by omega) hk3.rec_ rfl, hk3.turn .ready none⟩, hKt kp2 (hKt kp3 (hKb _ _ _ _ _ (by omega) hk3.rec_ rfl rfl))⟩⟩
    | ret => obtain ⟨v, W4, hr, rfl, h⟩ := away .ret W3 hp.1 hp.2; exact ⟨_, W4, hr, .inr ⟨rfl, h⟩⟩
    | exit id => obtain ⟨v, W4, hr, rfl, h⟩ := away (.exit id) W3 hp.1 hp.2; exact ⟨_, W4, hr, .inr ⟨rfl, h⟩⟩
    | goto t => obtain ⟨v, W4, hr, rfl, h⟩ := away (.goto t) W3 hp.1 hp.2; exact ⟨_, W4, hr, .inr ⟨rfl, h⟩⟩
    | panic ch => exact hp.elim
    | outgrown => exact hp.elim
  · have fin : ∀ {st pe W2}, st ≠ .busy → Books rc w.heap.size st pe W2 → ∃ W3, (Instr.endLoop (w.heap.size + 1)).run P W2 = .ok pe W3 ∧ ∃ o', W3 = W2.putObj (w.heap.size + 1) o' := fun hne hk => by
      have := run_endLoop (P := P) hk.rec_ (by rw [hrc]; simpa using hne)
      rw [hrc] at this
      exact ⟨_, this, _, rfl⟩
    rintro e W2 ⟨⟨v, rfl⟩, (⟨xs, hS, hi, hk⟩ | ⟨pre, hSp, c, hi, hk⟩)⟩
    · obtain ⟨W3, hr, o', rfl⟩ := fin (by simp) hk
      exact ⟨none, _, hr, hdone _ xs _ (Nat.le_refl _) hS (hI.putObj _ hi (by omega) hk.rec_ rfl) ((World.putObj_heap_other (by omega)).trans hk.def_)⟩
    · obtain ⟨W3, hr, o', rfl⟩ := fin (by simp) hk
      exact ⟨some c, _, hr, hstop _ c pre _ (Nat.le_refl _) hSp ((hIx c).putObj _ hi (by omega) hk.rec_ rfl) ((World.putObj_heap_other (by omega)).trans hk.def_)⟩
end Go.Proofs.YtkjghoomdefbbaaGreatDoor
end
section
namespace Go.Proofs.YtkjghoomdefbbaaGreatDoor
open Go.RowKit
set_option linter.unusedVariables false
set_option linter.unusedSimpArgs false
def noDefer (ops : Array Oper) : Bool := ops.toList.all fun o => match o.op with | .defer _ => false | _ => true
section
variable {P : Program} {ops : Array Oper} {Q : Exit → Act → World → Prop}
theorem noDefer_spec (h : noDefer ops = true) {i : Nat} {o : Oper} (ho : ops[i]? = some o) : ∀ c, o.op ≠ .defer c := by
  intro c e
  have := List.all_eq_true.1 h o (by rw [Array.mem_toList_iff]; exact Array.mem_of_getElem? ho)
  rw [e] at this
  cases this
theorem uponIn_of {lp nn : Nat} {o : Oper} {a : Act} {K : Act → World → Prop} {r : Result Next} (h : o.upon P a K Q r) : o.uponIn (Fence.wide.inRound lp) nn P a K Q r := by
  unfold Oper.upon at h
  split at h
  · exact h
  · exact h
  · exact h
  · exact ⟨(fun e => by cases e), CallsIn.inRound lp (callsIn_wide.2 h)⟩
  · exact ⟨(fun e => by cases e), fun c cs _ => let ⟨v, w', r, s⟩ := h c cs; ⟨v, w', r, stepsIn_wide.2 s⟩⟩
  · exact h
  · exact h.elim
theorem wpOpIn_of {lp nn : Nat} (hnd : noDefer ops = true) (hQo : ¬ LetsOut Q) {i : Nat} {K : Act → World → Prop} {a : Act} {w : World} (h : wpOp P ops Q i K a w) : wpOpIn (Fence.wide.inRound lp) nn P ops Q i K a w := by
  unfold wpOp at h
  unfold wpOpIn
  cases ho : ops[i]? with
  | none => rw [ho] at h; exact h
  | some o =>
    rw [ho] at h
    simp only at h ⊢
    split at h
    · rename_i hw
      rw [if_pos hw]
      rcases h with h | h
      · refine ⟨fun _ _ => trivial, ?_⟩
        rw [Oper.semAt_eq _ _ _ (noDefer_spec hnd ho)]
        exact uponIn_of h
      · exact absurd h.2 hQo
    · rename_i hw
      rw [if_neg hw]
      exact ⟨fun _ _ => trivial, h⟩
theorem wpAnyIn_of {lp nn : Nat} (hnd : noDefer ops = true) (hQo : ¬ LetsOut Q) : ∀ (fuel : Nat) (listed : Array Bool) (a : Act) (w : World), wpAny P .any ops Q fuel listed a w → wpAnyIn (Fence.wide.inRound lp) nn P .any ops Q fuel listed a w
  | 0, _, _, _, h => h
  | fuel + 1, listed, a, w, h => ⟨h.1, fun i hi => wpOpIn_mono (fun a w h => wpAnyIn_of hnd hQo fuel _ a w h) (wpOpIn_of hnd hQo (h.2 i hi))⟩
end
section
variable {R : World → World → Prop} {P : Program} {ops : Array Oper} {Q : Exit → Act → World → Prop}
theorem wpIn_region_one {lp nn : Nat} (hnd : noDefer ops = true) (hQo : ¬ LetsOut Q) (hR : Pre R) (s0 : Nat) (ups : List Nat) (S0 : World → Prop) (hA : ancOk ops s0 ups = true) (hS : ∀ w w', S0 w → Below w.heap.size w w' → S0 w') (hSd : ∀ w, S0 w → S0 w.drew) (k0 : Nat) {id : Nat} {a : Act} {w : World} (hm : P.follows .mixedOrders = true) (hok : flowOk ops a.tmps.size = true) (ht : tailOkC ops k0 = true)
    (h0 : S0 w) (h : OneTail R s0 ups S0 P ops w a Q k0 (ops.size - k0) k0 0 (fun _ _ _ => False)) : (Code.region id ops true).wpIn (Fence.wide.inRound lp) nn P Q a w := by
  refine wpIn_region_any hm (wpAnyIn_of hnd hQo _ _ _ _ ?_)
  obtain ⟨kn, hs, he⟩ := oneTail_family hok k0 0 _ (by omega) (fun m hm => absurd hm (by omega)) h
  have hk0 : k0 ≤ ops.size := by unfold tailOkC at ht; simp only [Bool.and_eq_true, decide_eq_true_eq] at ht; exact ht.1
  refine wpAny_oneTail hR hA hS hok ht hs he k0 ops.size _ a _ (by simp) ?_ (by omega) ?_ ?_ ⟨rfl, rfl, fun _ _ => rfl⟩ (hR.drew w) (fun _ => hSd _ h0) ?_
  · exact Nat.le_trans (List.length_filter_le _ _) (by simp)
  · intro j hj
    simp [Array.getD_eq_getD_getElem?, Array.getElem?_replicate]
    split <;> rfl
  · intro j hj
    simp [Array.getD_eq_getD_getElem?, Array.getElem?_replicate] at hj
    split at hj <;> simp at hj
  · intro j hj
    simp [Array.getD_eq_getD_getElem?, Array.getElem?_replicate] at hj
    split at hj <;> simp at hj

end
end Go.Proofs.YtkjghoomdefbbaaGreatDoor
end
section
namespace Go.Proofs.YtkjghoomdefbbaaGreatDoor
open Go.RowKit
set_option linter.unusedVariables false
set_option linter.unusedSimpArgs false
section
variable (nn : Nat) (P : Program) (ops : Array Oper) (base : World) (a0 : Act) (Q : Exit → Act → World → Prop)
/-- The last operations, in their order. -/
def TailY : Nat → Nat → Act → World → Prop
  | 0, _, a, w => Q .normal a w
  | c + 1, i, a, w => wpOpIn Fence.wide nn P ops Q i (fun a' w' => TailY c (i + 1) a' w') a w
/-- From operation i on, k operations more, and then the last ones. -/
def FlowTailY (k0 c : Nat) : Nat → Nat → (Nat → VP) → Prop
  | 0, _, kn => ∀ a w, FKept ops a0 a → Below base.heap.size base w → (∀ j, j < k0 → FDone ops kn a w j) → TailY nn P ops Q c k0 a w
  | k + 1, i, kn => ∃ V, FStep P ops base a0 Q kn i V ∧ FlowTailY k0 c k (i + 1) (upd kn i V)
end
section
variable {nn : Nat} {P : Program} {ops : Array Oper} {base : World} {a0 : Act} {Q : Exit → Act → World → Prop}
theorem uponW_of {nn : Nat} {o : Oper} {a : Act} {K : Act → World → Prop} {r : Result Next} (h : o.upon P a K Q r) : o.uponIn Fence.wide nn P a K Q r := by
  unfold Oper.upon at h
  split at h
  · exact h
  · exact h
  · exact h
  · exact ⟨(fun e => by cases e), callsIn_wide.2 h⟩
  · exact ⟨(fun e => by cases e), fun c cs _ => let ⟨v, w', r, s⟩ := h c cs; ⟨v, w', r, stepsIn_wide.2 s⟩⟩
  · exact h
  · exact h.elim
theorem wpOpW_of {nn : Nat} (hnd : noDefer ops = true) (hQo : ¬ LetsOut Q) {i : Nat} {K : Act → World → Prop} {a : Act} {w : World} (h : wpOp P ops Q i K a w) : wpOpIn Fence.wide nn P ops Q i K a w := by
  unfold wpOp at h
  unfold wpOpIn
  cases ho : ops[i]? with
  | none => rw [ho] at h; exact h
  | some o =>
    rw [ho] at h
    simp only at h ⊢
    split at h
    · rename_i hw
      rw [if_pos hw]
      rcases h with h | h
      · refine ⟨fun _ _ => trivial, ?_⟩
        rw [Oper.semAt_eq _ _ _ (noDefer_spec hnd ho)]
        exact uponW_of h
      · exact absurd h.2 hQo
    · rename_i hw
      rw [if_neg hw]
      exact ⟨fun _ _ => trivial, h⟩
theorem flowTailY_family {n k0 c : Nat} (hok : flowOk ops n = true) : ∀ k i kn, i + k = k0 → (∀ m, m < i → FStep P ops base a0 Q kn m (kn m)) → FlowTailY nn P ops base a0 Q k0 c k i kn →
    ∃ kn', (∀ m, m < k0 → FStep P ops base a0 Q kn' m (kn' m)) ∧ FlowTailY nn P ops base a0 Q k0 c 0 k0 kn'
  | 0, i, kn, hi, hs, hf => ⟨kn, fun m hm => hs m (by omega), hf⟩
  | k + 1, i, kn, hi, hs, ⟨V, hV, hf⟩ => by
    have agree : ∀ m, m ≠ i → upd kn i V m = kn m := fun m hm => by simp [upd, hm]
    have self : upd kn i V i = V := by simp [upd]
    have shift : ∀ m W, m ≤ i → FStep P ops base a0 Q kn m W → FStep P ops base a0 Q (upd kn i V) m W := by
      intro m W hm h
      refine ⟨h.1, fun o ho a w hk hb hd => h.2 o ho a w hk hb ?_⟩
      intro o' ho' e he hbd
      have hlt := (flowOk_spec hok).1 m o' ho' e he hbd
      exact fdone_congr (agree e.on (by omega)) (hd o' ho' e he hbd)
    refine flowTailY_family hok k (i + 1) (upd kn i V) (by omega) (fun m hm => ?_) hf
    by_cases hmi : m = i
    · subst hmi; rw [self]; exact shift m V (Nat.le_refl _) hV
    · rw [agree m hmi]; exact shift m _ (by omega) (hs m (by omega))


theorem wpAnyIn_tailY {n k0 : Nat} (hok : flowOk ops n = true) (ht : tailOkC ops k0 = true) : ∀ (c i fuel : Nat) (listed : Array Bool) (a : Act) (w : World), i + c = ops.size → k0 ≤ i → c ≤ fuel → listed.size = ops.size →
    (∀ j, j < ops.size → listed.getD j false = decide (j < i)) → TailY nn P ops Q c i a w → wpAnyIn Fence.wide nn P .any ops Q fuel listed a w := by
  have tk : ∀ j, j < ops.size → k0 < j → waits ops j (j - 1) = true := by
    intro j hj hk
    unfold tailOkC at ht
    simp only [Bool.and_eq_true, List.all_eq_true, List.mem_range] at ht
    have := ht.2 j hj
    rwa [if_neg (by omega), if_neg (by omega)] at this
  intro c
  induction c with
  | zero =>
    intro i fuel listed a w hi hk hc hl hd h
    have hr : Region.ready .any ops listed = [] := by
      apply List.eq_nil_iff_forall_not_mem.2
      intro j hj
      have := ready_un hl hj
      rw [hd j this.1] at this
      simp at this
      omega
    cases fuel with
    | zero => exact ⟨hr, h⟩
    | succ fuel => exact ⟨fun _ => h, fun j hj => by rw [hr] at hj; cases hj⟩
  | succ c ih =>
    intro i fuel listed a w hi hk hc hl hd h
    cases fuel with
    | zero => omega
    | succ fuel =>
      have hmem : i ∈ Region.ready .any ops listed := ready_of hok hl (by omega) (by rw [hd i (by omega)]; simp) (fun j hj => by rw [hd j (by omega)]; simpa using hj)
      refine ⟨fun hr => (by rw [hr] at hmem; cases hmem), fun j hj => ?_⟩
      have hju := ready_un hl hj
      have hji : j = i := by
        rw [hd j hju.1] at hju
        have hge : i ≤ j := by simpa using hju.2
        by_cases e : j = i
        · exact e
        · exfalso
          have := waits_ready hj (tk j hju.1 (by omega))
          rw [hd (j - 1) (by omega)] at this
          simp at this
          omega
      subst hji
      refine wpOpIn_mono ?_ h
      intro a' w' h'
      refine ih (j + 1) fuel (listed.setIfInBounds j true) a' w' (by omega) (by omega) (by omega) (by simpa using hl) ?_ h'
      intro m hm
      by_cases e : m = j
      · subst e; rw [getD_set_same (by omega)]; simp
      · rw [getD_set_ne e, hd m hm, decide_eq_decide]; omega

theorem wpAnyIn_flowTailY {k0 : Nat} (hnd : noDefer ops = true) (hQo : ¬ LetsOut Q) (hok : flowOk ops a0.tmps.size = true) (ht : tailOkC ops k0 = true) {kn : Nat → VP} (hs : ∀ m, m < k0 → FStep P ops base a0 Q kn m (kn m))
    (he : FlowTailY nn P ops base a0 Q k0 (ops.size - k0) 0 k0 kn) :
    ∀ (u fuel : Nat) (listed : Array Bool) (a : Act) (w : World), listed.size = ops.size → ((List.range k0).filter fun i => !listed.getD i false).length ≤ u → u + (ops.size - k0) ≤ fuel → (∀ j, k0 ≤ j → listed.getD j false = false) → (∀ j, listed.getD j false = true → ∀ m, waits ops j m = true → listed.getD m false = true) →
      FKept ops a0 a → Below base.heap.size base w → (∀ j, listed.getD j false = true → FDone ops kn a w j) → wpAnyIn Fence.wide nn P .any ops Q fuel listed a w := by
  obtain ⟨ok1, ok2, ok3⟩ := flowOk_spec hok
  have hk0 : k0 ≤ ops.size := by unfold tailOkC at ht; simp only [Bool.and_eq_true, decide_eq_true_eq] at ht; exact ht.1
  have tk : ∀ j, j < ops.size → k0 < j → waits ops j (j - 1) = true := by
    intro j hj hk
    unfold tailOkC at ht
    simp only [Bool.and_eq_true, List.all_eq_true, List.mem_range] at ht
    have := ht.2 j hj
    rwa [if_neg (by omega), if_neg (by omega)] at this
  have tk0 : ∀ m, m < k0 → ∃ j, m < j ∧ j ≤ k0 ∧ waits ops j m = true := by
    intro m hk
    unfold tailOkC at ht
    simp only [Bool.and_eq_true, List.all_eq_true, List.mem_range] at ht
    have := ht.2 m (by omega)
    rw [if_pos hk, List.any_eq_true] at this
    obtain ⟨j, hj, h⟩ := this
    rw [Bool.and_eq_true, decide_eq_true_eq] at h
    exact ⟨j, h.1, by simpa [Nat.lt_succ_iff] using hj, h.2⟩
  intro u
  induction u with
  | zero =>
    intro fuel listed a w hl hu hf htl hcl hk hb hd
    have hall : ∀ j, j < k0 → listed.getD j false = true := by
      intro j hj
      have h0 : ((List.range k0).filter fun i => !listed.getD i false) = [] := List.eq_nil_of_length_eq_zero (by omega)
      rw [List.filter_eq_nil_iff] at h0
      have := h0 j (by simpa using hj)
      simpa using this
    refine wpAnyIn_tailY hok ht (ops.size - k0) k0 fuel listed a w (by omega) (Nat.le_refl _) (by omega) hl ?_ (he a w hk hb (fun j hj => hd j (hall j hj)))
    intro j hj
    by_cases e : j < k0
    · rw [hall j e]; simp [e]
    · rw [htl j (by omega)]; simp [e]
  | succ u ih =>
    intro fuel listed a w hl hu hf htl hcl hk hb hd
    by_cases hall : ∀ j, j < k0 → listed.getD j false = true
    · refine wpAnyIn_tailY hok ht (ops.size - k0) k0 fuel listed a w (by omega) (Nat.le_refl _) (by omega) hl ?_ (he a w hk hb (fun j hj => hd j (hall j hj)))
      intro j hj
      by_cases e : j < k0
      · rw [hall j e]; simp [e]
      · rw [htl j (by omega)]; simp [e]
    · -- the least that is not yet done
      have hex : ∃ m, m < k0 ∧ listed.getD m false = false ∧ ∀ j, j < m → listed.getD j false = true := by
        have key : ∀ n, n ≤ k0 → (∀ j, j < n → listed.getD j false = true) ∨ ∃ m, m < n ∧ listed.getD m false = false ∧ ∀ j, j < m → listed.getD j false = true := by
          intro n
          induction n with
          | zero => intro _; exact .inl (fun j hj => absurd hj (by omega))
          | succ n ihn =>
            intro hn
            rcases ihn (by omega) with h | ⟨m, hm, h1, h2⟩
            · cases hc : listed.getD n false with
              | true => exact .inl (fun j hj => by by_cases e : j = n; exact e ▸ hc; exact h j (by omega))
              | false => exact .inr ⟨n, by omega, hc, h⟩
            · exact .inr ⟨m, by omega, h1, h2⟩
        rcases key k0 (Nat.le_refl _) with h | h
        · exact absurd h hall
        · exact h
      obtain ⟨m, hm, hmu, hmd⟩ := hex
      have hmem : m ∈ Region.ready .any ops listed := ready_of hok hl (by omega) hmu hmd
      cases fuel with
      | zero => omega
      | succ fuel =>
        refine ⟨fun hr => (by rw [hr] at hmem; cases hmem), fun i hi => ?_⟩
        have hiu := ready_un hl hi
        have hik : i < k0 := by
          by_cases e : i < k0
          · exact e
          · exfalso
            by_cases e2 : i = k0
            · subst e2
              have cov : ∀ d m, m + d = i → 0 < d → listed.getD m false = true := by
                intro d
                induction d using Nat.strongRecOn with
                | _ d ihd =>
                  intro m' hm' hd'
                  obtain ⟨j, h1, h2, h3⟩ := tk0 m' (by omega)
                  by_cases e3 : j = i
                  · rw [e3] at h3; exact waits_ready hi h3
                  · exact hcl j (ihd (i - j) (by omega) j (by omega) (by omega)) m' h3
              have := cov (i - m) m (by omega) (by omega)
              rw [hmu] at this
              cases this
            · have := waits_ready hi (tk i hiu.1 (by omega))
              rw [htl (i - 1) (by omega)] at this
              cases this
        obtain ⟨o, ho⟩ : ∃ o, ops[i]? = some o := ⟨_, Array.getElem?_eq_getElem hiu.1⟩
        have hstep := (hs i hik).2 o ho a w hk hb (by
          intro o' ho' e he' hbd
          rw [ho] at ho'
          cases ho'
          refine hd e.on (waits_ready hi ?_)
          unfold waits
          rw [ho]
          simp only [Option.any_some, List.any_eq_true, Bool.and_eq_true, beq_iff_eq]
          exact ⟨e, he', rfl, hbd⟩)
        refine wpOpW_of hnd hQo (wpOp_mono ?_ hstep)
        rintro a' w' ⟨v, rfl, hV, hbw⟩
        refine ih fuel (listed.setIfInBounds i true) _ w' (by simpa using hl) ?_ (by omega) ?_ ?_ ?_ (hb.trans (hbw.mono hb.size)) ?_
        · have hsub : ((List.range k0).filter fun j => !(listed.setIfInBounds i true).getD j false).length < ((List.range k0).filter fun j => !listed.getD j false).length := by
            have e1 : ((List.range k0).filter fun j => !(listed.setIfInBounds i true).getD j false) = ((List.range k0).filter fun j => !listed.getD j false).filter (fun j => j != i) := by
              rw [List.filter_filter]
              apply List.filter_congr
              intro j hj
              by_cases e : j = i
              · subst e; rw [getD_set_same (by omega)]; simp
              · rw [getD_set_ne e]; simp [e]
            rw [e1]
            refine List.length_filter_lt_length_iff_exists.2 ⟨i, ?_, by simp⟩
            simp only [List.mem_filter, List.mem_range]
            exact ⟨hik, by rw [hiu.2]; rfl⟩
          omega
        · intro j hj
          rw [getD_set_ne (by omega)]
          exact htl j hj
        · intro j hj m' hm'
          by_cases e4 : m' = i
          · subst e4; exact getD_set_same (by omega)
          · rw [getD_set_ne e4]
            by_cases e5 : j = i
            · subst e5; exact waits_ready hi hm'
            · rw [getD_set_ne e5] at hj; exact hcl j hj m' hm'
        · refine ⟨by rw [defers_put]; exact hk.1, by rw [size_put]; exact hk.2.1, fun t ht' => ?_⟩
          cases hdst : o.dst with
          | none => simp only [Act.put]; exact hk.2.2 t ht'
          | some s =>
            have : s ≠ t := by
              rintro rfl
              have := List.all_eq_true.1 ht' o (by rw [Array.mem_toList_iff]; exact Array.mem_of_getElem? ho)
              rw [hdst] at this
              simp at this
            rw [getD_put (fun h => this h.symm)]
            exact hk.2.2 t ht'
        · intro j hj o' ho' t ht'
          by_cases e : j = i
          · subst e
            rw [ho] at ho'
            cases ho'
            rw [ht', getD_put_self (by rw [hk.2.1]; exact ok3 j o t ho ht')]
            exact hV
          · rw [getD_set_ne e] at hj
            have hne : o.dst ≠ some t := fun hh => e (ok2 j i o' o t ho' ho ht' hh)
            have hold := hd j hj o' ho' t ht'
            have hslot : (a.put o.dst v).tmps.getD t undef = a.tmps.getD t undef := by
              cases hdst : o.dst with
              | none => rfl
              | some s => exact getD_put (fun h => hne (by rw [hdst, h]))
            rw [hslot]
            have hjk : j < k0 := by
              by_cases e2 : j < k0
              · exact e2
              · rw [htl j (by omega)] at hj; cases hj
            exact (hs j hjk).1 _ _ _ hold hbw

/-- THE LAW. -/
theorem wpIn_region_yield (k0 : Nat) (hnd : noDefer ops = true) (hQo : ¬ LetsOut Q) {id : Nat} {a : Act} {w : World} (hm : P.follows .mixedOrders = true) (hok : flowOk ops a.tmps.size = true) (ht : tailOkC ops k0 = true)
    (h : FlowTailY nn P ops w a Q k0 (ops.size - k0) k0 0 (fun _ _ _ => False)) : (Code.region id ops true).wpIn Fence.wide nn P Q a w := by
  refine wpIn_region_any hm ?_
  obtain ⟨kn, hs, he⟩ := flowTailY_family hok k0 0 _ (by omega) (fun m hm => absurd hm (by omega)) h
  have hk0 : k0 ≤ ops.size := by unfold tailOkC at ht; simp only [Bool.and_eq_true, decide_eq_true_eq] at ht; exact ht.1
  refine wpAnyIn_flowTailY hnd hQo hok ht hs he k0 ops.size _ a _ (by simp) ?_ (by omega) ?_ ?_ ⟨rfl, rfl, fun _ _ => rfl⟩ ((Below.refl _ w).drew) ?_
  · exact Nat.le_trans (List.length_filter_le _ _) (by simp)
  · intro j hj
    simp [Array.getD_eq_getD_getElem?, Array.getElem?_replicate]
    split <;> rfl
  · intro j hj
    simp [Array.getD_eq_getD_getElem?, Array.getElem?_replicate] at hj
    split at hj <;> simp at hj
  · intro j hj
    simp [Array.getD_eq_getD_getElem?, Array.getElem?_replicate] at hj
    split at hj <;> simp at hj
end
end Go.Proofs.YtkjghoomdefbbaaGreatDoor
end
section
namespace Go.Proofs.YtkjghoomdefbbaaGreatDoor
open Go.RowKit
set_option linter.unusedVariables false
set_option linter.unusedSimpArgs false
attribute [local irreducible] setN
section
variable {nn : Nat} {P : Program} {ops : Array Oper} {Q : Exit → Act → World → Prop} {i : Nat} {a : Act} {w : World} {c : Nat}
/-- A call of yield among the last operations. -/
theorem tailY_yield (l : Nat) (x : Operand) (xs : Array Operand) (ts : Array TypeId) (vs : Array Value) (d : Tmp) (hop : (ops[i]?).map (fun o => (o.op, o.guard)) = some (.call { callee := .value x, args := xs, argTypes := ts }, none)) (hd : (ops[i]?).bind (·.dst) = some d)
    (hv : a.eval x = .func (.yield l) #[] #[]) (hx : xs.map a.eval = vs) (h : YieldAt Fence.wide (nn - 1) P l vs w fun e w' => ∃ b, e = .returned (.bool b) ∧ TailY nn P ops Q c (i + 1) (a.put (some d) (.bool b)) w') : TailY nn P ops Q (c + 1) i a w := by
  show wpOpIn Fence.wide nn P ops Q i (fun a' w' => TailY nn P ops Q c (i + 1) a' w') a w
  unfold wpOpIn
  cases ho : ops[i]? with
  | none => rw [ho] at hop; simp at hop
  | some o =>
    rw [ho] at hop hd
    simp only [Option.map_some, Option.some.injEq, Prod.mk.injEq] at hop
    simp only [Option.bind_some] at hd
    simp only []
    rw [show Region.wanted o (yielded ops a.tmps) = true by simp [Region.wanted, hop.2]]
    refine ⟨fun _ _ => trivial, ?_⟩
    obtain ⟨fn, tmps, assign, body, hy, hR⟩ := h
    have e : (o.semAt Fence.wide.round a.eval).run P w = .ok (.round l fn tmps assign body) w := by
      rw [show Fence.wide.round = none from rfl, Oper.semAt_none]
      unfold execOp
      rw [hop.1]
      simp [resolve, hv, hx, Deferred.ofValue, Sem.run_bind, Result.andThen_ok, invoke, hy]
    rw [e, Oper.uponIn_round]
    refine ⟨fun e => (by cases e), hR.mono ?_⟩
    rintro e w' ⟨b, rfl, hq⟩
    rw [← hd] at hq
    exact hq
theorem tailY_not (t : TypeId) (x : Tmp) (b : Bool) (d : Tmp) (hop : (ops[i]?).map (fun o => (o.op, o.guard)) = some (.unOp .not t (.tmp x), none)) (hd : (ops[i]?).bind (·.dst) = some d)
    (hv : a.eval (.tmp x) = .bool b) (h : TailY nn P ops Q c (i + 1) (a.put (some d) (.bool (!b))) w) : TailY nn P ops Q (c + 1) i a w := by
  show wpOpIn Fence.wide nn P ops Q i (fun a' w' => TailY nn P ops Q c (i + 1) a' w') a w
  unfold wpOpIn
  cases ho : ops[i]? with
  | none => rw [ho] at hop; simp at hop
  | some o =>
    rw [ho] at hop hd
    simp only [Option.map_some, Option.some.injEq, Prod.mk.injEq] at hop
    simp only [Option.bind_some] at hd
    simp only []
    rw [show Region.wanted o (yielded ops a.tmps) = true by simp [Region.wanted, hop.2]]
    refine ⟨fun _ _ => trivial, ?_⟩
    have e : (o.semAt Fence.wide.round a.eval).run P w = .ok (.value (.bool (!b))) w := by
      rw [show Fence.wide.round = none from rfl, Oper.semAt_none]
      unfold execOp
      rw [hop.1]
      simp only [hv]
      simp [go_sem]
    rw [e]
    rw [← hd] at h
    exact h
end
theorem put_kept2 {Q : Exit → Act → World → Prop} {a : Act} {d1 d2 : Tmp} {v1 v2 : Value} {t : Array Value} {ds : List Deferred} {w : World} (e : a = { tmps := t, defers := ds }) (h : Q .normal { tmps := (t.setIfInBounds d1 v1).setIfInBounds d2 v2, defers := ds } w) : Q .normal ((a.put (some d1) v1).put (some d2) v2) w := by
  subst e; exact h
noncomputable def by3Ops : Array Oper := regionOf Tryz.f70 3
set_option maxRecDepth 100000 in
set_option maxHeartbeats 2000000 in
theorem by_region {nn : Nat} (Q : Exit → Act → World → Prop) (hQo : ¬ LetsOut Q) (a0 : Act) (w0 : World) (hsz : a0.tmps.size = 23) (l h : Nat) (E : En) (ep em : Value) (e0 : a0.tmps.getD 0 undef = .func (.yield l) #[] #[]) (e4 : a0.tmps.getD 4 undef = .pointer (some ⟨h, 0, none⟩))
    (HB : Blk w0 h [.string ⟨E.key.toArray⟩, .int .i64 E.val.kind, .int .i64 E.val.time, .int .i64 E.val.node, .bool E.val.dead, .string ⟨E.val.text.toArray⟩, ep, em, .int .u64 (E.val.flags.toNat : Int)]) (hl : E.key.length ≤ 1000)
    (hC : ∀ (y : Nat → Value) (w : World), Below w0.heap.size w0 w → YieldAt Fence.wide (nn - 1) Tryz.prog l #[.int .i64 (bucketN E.val.kind E.key : Int), .agg #[.string ⟨E.key.toArray⟩, .int .i64 E.val.kind, .int .i64 E.val.time, .int .i64 E.val.node, .bool E.val.dead, .string ⟨E.val.text.toArray⟩, ep, em, .int .u64 (E.val.flags.toNat : Int)]] w fun e w' => ∃ b, e = .returned (.bool b) ∧
      Q .normal { tmps := (([12, 13, 14, 15, 16, 17, 18, 19, 20, 21].foldl (fun t s => t.setIfInBounds s (y s)) a0.tmps).setIfInBounds 20 (.bool b)).setIfInBounds 21 (.bool (!b)), defers := a0.defers } w') :
    (Code.region 3 by3Ops true).wpIn Fence.wide nn Tryz.prog Q a0 w0 := by
  refine wpIn_region_yield 8 (by kernel_rfl) hQo mixed (by rw [hsz]; kernel_rfl) (by kernel_rfl) ?_
  rw [show by3Ops.size - 8 = 2 by kernel_rfl]
  refine ⟨isVal (.func (.yield l) #[] #[]), step_move (.tmp 0) (by kernel_rfl) (wanted_none (by kernel_rfl)) (stable_val _) (knows_old 0 (.func (.yield l) #[] #[]) (by kernel_rfl) e0), ?_⟩
  refine ⟨isVal (.pointer (some ⟨h, 1, none⟩)), step_field 48 (.tmp 4) 1 ⟨h, 0, none⟩ ⟨h, 1, none⟩ (by kernel_rfl) (wanted_none (by kernel_rfl)) (knows_old 4 (.pointer (some ⟨h, 0, none⟩)) (by kernel_rfl) e4) (f_en_0_1 (h)), ?_⟩
  refine ⟨isVal (.pointer (some ⟨h, 1, none⟩)), step_field 46 (.tmp 13) 0 ⟨h, 1, none⟩ ⟨h, 1, none⟩ (by kernel_rfl) (wanted_none (by kernel_rfl)) (knows_new (V := isVal (.pointer (some ⟨h, 1, none⟩))) 13 1 (by kernel_rfl) (by kernel_rfl) (by kernel_rfl)) (f_va_1_0 (h)), ?_⟩
  refine ⟨isVal (.int .i64 E.val.kind), step_read 3 (.tmp 14) ⟨h, 1, none⟩ (.int .i64 E.val.kind) (by kernel_rfl) (wanted_none (by kernel_rfl)) (knows_new (V := isVal (.pointer (some ⟨h, 1, none⟩))) 14 2 (by kernel_rfl) (by kernel_rfl) (by kernel_rfl)) (HB.cells.2 1 _ rfl) (HB.lt) (agg_noZ), ?_⟩
  refine ⟨isVal (.pointer (some ⟨h, 0, none⟩)), step_field 48 (.tmp 4) 0 ⟨h, 0, none⟩ ⟨h, 0, none⟩ (by kernel_rfl) (wanted_none (by kernel_rfl)) (knows_old 4 (.pointer (some ⟨h, 0, none⟩)) (by kernel_rfl) e4) (f_en_0_0 (h)), ?_⟩
  refine ⟨isVal (.string ⟨E.key.toArray⟩), step_read 9 (.tmp 16) ⟨h, 0, none⟩ (.string ⟨E.key.toArray⟩) (by kernel_rfl) (wanted_none (by kernel_rfl)) (knows_new (V := isVal (.pointer (some ⟨h, 0, none⟩))) 16 4 (by kernel_rfl) (by kernel_rfl) (by kernel_rfl)) (HB.cells.2 0 _ rfl) (HB.lt) (agg_noT), ?_⟩
  refine ⟨isVal (.int .i64 (bucketN E.val.kind E.key : Int)), step_call 17 #[.tmp 15, .tmp 17] #[3, 9] #[.int .i64 E.val.kind, .string ⟨E.key.toArray⟩] (by kernel_rfl) (wanted_none (by kernel_rfl)) (stable_val _) (args2 (.tmp 15) (.tmp 17) (.int .i64 E.val.kind) (.string ⟨E.key.toArray⟩) (knows_new (V := isVal (.int .i64 E.val.kind)) 15 3 (by kernel_rfl) (by kernel_rfl) (by kernel_rfl)) (knows_new (V := isVal (.string ⟨E.key.toArray⟩)) 17 5 (by kernel_rfl) (by kernel_rfl) (by kernel_rfl))) (enters_of Tryz.func17 (by kernel_rfl) rfl) (by intro w' hb; exact (bucket_any E.val.kind E.key w' hl).mono (by rintro e w2 ⟨rfl, hb2⟩; exact ⟨_, rfl, rfl, hb2⟩)), ?_⟩
  refine ⟨isVal (.agg #[.string ⟨E.key.toArray⟩, .int .i64 E.val.kind, .int .i64 E.val.time, .int .i64 E.val.node, .bool E.val.dead, .string ⟨E.val.text.toArray⟩, ep, em, .int .u64 (E.val.flags.toNat : Int)]), step_loadA 48 (.tmp 4) (h) (0) [.string ⟨E.key.toArray⟩, .int .i64 E.val.kind, .int .i64 E.val.time, .int .i64 E.val.node, .bool E.val.dead, .string ⟨E.val.text.toArray⟩, ep, em, .int .u64 (E.val.flags.toNat : Int)] (by kernel_rfl) (wanted_none (by kernel_rfl)) (knows_old 4 (.pointer (some ⟨h, 0, none⟩)) (by kernel_rfl) e4) size_en agg_en (⟨HB.lt, fun j x hx => by rw [Nat.zero_add]; exact HB.cells.2 j x hx⟩), ?_⟩
  intro a w hkp hb hd
  have d12 : a.eval (.tmp 12) = _ := fdone_of (hd 0 (by decide)) (t := 12) (V := isVal (.func (.yield l) #[] #[])) (by kernel_rfl) (by kernel_rfl)
  have d18 : a.eval (.tmp 18) = _ := fdone_of (hd 6 (by decide)) (t := 18) (V := isVal (.int .i64 (bucketN E.val.kind E.key : Int))) (by kernel_rfl) (by kernel_rfl)
  have d19 : a.eval (.tmp 19) = _ := fdone_of (hd 7 (by decide)) (t := 19) (V := isVal (.agg #[.string ⟨E.key.toArray⟩, .int .i64 E.val.kind, .int .i64 E.val.time, .int .i64 E.val.node, .bool E.val.dead, .string ⟨E.val.text.toArray⟩, ep, em, .int .u64 (E.val.flags.toNat : Int)])) (by kernel_rfl) (by kernel_rfl)
  obtain ⟨y, ey⟩ := kept_ex hkp [some 12, some 13, some 14, some 15, some 16, some 17, some 18, some 19, some 20, some 21] [12, 13, 14, 15, 16, 17, 18, 19, 20, 21] (by kernel_rfl) (by decide)
  refine tailY_yield l (.tmp 12) #[.tmp 18, .tmp 19] #[3, 48] _ 20 (by kernel_rfl) (by kernel_rfl) d12 (by simp only [List.map_toArray, List.map_cons, List.map_nil, d18, d19]) ((hC y w hb).mono ?_)
  rintro e w' ⟨b, rfl, hq⟩
  refine ⟨b, rfl, tailY_not 4 20 b 21 (by kernel_rfl) (by kernel_rfl) ?_ (put_kept2 ey hq)⟩
  exact getD_put_self (by rw [hkp.2.1, hsz]; decide)
end Go.Proofs.YtkjghoomdefbbaaGreatDoor
end
section
namespace Go.Proofs.YtkjghoomdefbbaaGreatDoor
open Go.RowKit
set_option linter.unusedVariables false
set_option linter.unusedSimpArgs false
attribute [local irreducible] setN

theorem ownR {s B : Nat} {e : TypeId} (h : s < B) (cs : List Value) : StableR (But s) (isOwn B e cs) := fun v w w' ho hb => hb.own ho (fun g hg => by
  obtain ⟨_, ⟨rfl, _⟩ | ⟨g', cap, cur, rfl, hB, _⟩⟩ := ho
  · simp [Value.ownBlock] at hg
  · simp [Value.ownBlock] at hg; omega)
theorem own_new {B : Nat} {e : TypeId} {cs : List Value} {v : Value} {w : World} (h : isOwn B e cs v w) : NewB B v := by
  obtain ⟨_, ⟨rfl, _⟩ | ⟨g', cap, cur, rfl, hB, _⟩⟩ := h
  · exact newB_nil _
  · exact newB_row hB _ _ _
section
variable {P : Program} {ops : Array Oper} {base : World} {a0 : Act} {Q : Exit → Act → World → Prop} {k0 : Nat} {kn : Nat → VP} {i : Nat} {ups : List Nat}
/-- A row of one's own laid into a struct's cell. -/
theorem ostep_row {t : TypeId} (e : TypeId) (g k B : Nat) (cs : List Value) (l : List Value) (x y : Operand) (hop : (ops[i]?).map (fun o => (o.op, o.guard, o.dst)) = some (.store t x y, none, none)) (hx : Knows ops a0 kn i x (isVal (.pointer (some ⟨g, k, none⟩)))) (hy : Knows ops a0 kn i y (isOwn B e cs))
    (hs : (P.info? t).map (·.size) = some 1) (hk : k < l.length) (hg : g < B) : OStep (But g) i ups (fun w => Blk w g l) P ops base a0 Q k0 kn i (fun _ w => ∃ v, isOwn B e cs v w ∧ Blk w g (l.set k v)) := by
  refine ⟨⟨fun _ => ?_, fun h => absurd rfl h⟩, fun o ho a w hk0 hb h0 hd => ?_⟩
  · rintro u w w' ⟨v, h1, h2⟩ hb
    exact ⟨v, stable_own _ _ _ _ _ _ h1 hb, h2.keep hb⟩
  · have hkf := hk0.f
    have HB := h0 (.inl rfl)
    rw [ho] at hop
    simp only [Option.map_some, Option.some.injEq, Prod.mk.injEq] at hop
    obtain ⟨ho1, ho2, ho3⟩ := hop
    have hd' : FDeps ops kn i a w := fun o' ho' e he hbd => rdone_f (hd o' ho' e he hbd)
    have e1 : a.eval x = _ := hx a w hkf hd'
    have e2 : isOwn B e cs (a.eval y) w := hy a w hkf hd'
    generalize hev : a.eval y = v at e2
    unfold wpOp
    simp only [ho]
    rw [show Region.wanted o (yielded ops a.tmps) = true by simp [Region.wanted, ho2]]
    refine .inl ?_
    have hone := e2.one
    obtain ⟨old, hc⟩ : ∃ old, w.cell? ⟨g, k, none⟩ = some old := ⟨_, HB.cells.2 k _ (List.getElem?_eq_getElem hk)⟩
    obtain ⟨ie, hie, hz⟩ := Option.map_eq_some_iff.1 hs
    have hsz : (sizeOf t).run P w = .ok 1 w := by simp [sizeOf, typeInfo, hie, hz]
    have hf := HB.free k
    have hst : (storeCells ⟨g, k, none⟩ [v]).run P w = .ok () (w.setCell ⟨g, k, none⟩ v) := by
      unfold storeCells
      rw [Sem.run_bind, show (⟨g, k, none⟩ : Addr).add 0 = ⟨g, k, none⟩ by simp [Addr.add], run_store P w _ v _ hone.2, hc]
      simp [hf, storeCells]
    unfold Oper.wp execOp
    rw [ho1]
    simp only [e1, hev, Instr.storeAt, Instr.sureAddr, Sem.run_bind, Sem.run_pure, Result.andThen_ok, storeVar, hsz, hone.1]
    rw [if_neg (by simp), hst]
    simp only [Result.andThen_ok, Oper.upon]
    exact ⟨undef, rfl, fun _ => rfl, ⟨v, e2.set (p := ⟨g, k, none⟩) hg v, HB.set k v hk⟩, ⟨rfl, rfl, rfl, by simp, fun b _ hne => Below.heap_setCell w ⟨g, k, none⟩ v b hne⟩, fun h => absurd rfl h⟩
end
noncomputable def twinOps : Array Oper := regionOf Tryz.f75 1
set_option maxRecDepth 100000 in
set_option maxHeartbeats 2000000 in
theorem twin_region (Q : Exit → Act → World → Prop) (a0 : Act) (w0 : World) (hsz : a0.tmps.size = 16) (g B : Nat) (E : En) (vp vm : Value) (h1 : a0.tmps.getD 1 undef = .pointer (some ⟨g, 0, none⟩)) (HB : Blk w0 g [.string ⟨E.key.toArray⟩, .int .i64 E.val.kind, .int .i64 E.val.time, .int .i64 E.val.node, .bool E.val.dead, .string ⟨E.val.text.toArray⟩, vp, vm, .int .u64 (E.val.flags.toNat : Int)]) (hp : isCells (E.val.plus.map intC) vp w0) (hm : isCells (E.val.minus.map intC) vm w0)
    (op : E.val.plus.map intC = [] ∨ blk vp ≠ some g) (om : E.val.minus.map intC = [] ∨ blk vm ≠ some g) (lp : E.val.plus.length * 8 ≤ 140737488355328) (lm : E.val.minus.length * 8 ≤ 140737488355328) (hB : B ≤ w0.heap.size) (hg : g < B)
    (hQ : ∀ (y : Nat → Value) (vp' vm' : Value) (w : World), isOwn B 3 (E.val.plus.map intC) vp' w → isOwn B 3 (E.val.minus.map intC) vm' w → Blk w g [.string ⟨E.key.toArray⟩, .int .i64 E.val.kind, .int .i64 E.val.time, .int .i64 E.val.node, .bool E.val.dead, .string ⟨E.val.text.toArray⟩, vp', vm', .int .u64 (E.val.flags.toNat : Int)] → But g w0 w → Q .normal { tmps := [3, 4, 5, 6, 7, 8, 9, 10, 11, 12, 13, 14].foldl (fun t s => t.setIfInBounds s (y s)) a0.tmps, defers := a0.defers } w) :
    (Code.region 1 twinOps true).wp Tryz.prog Q a0 w0 := by
  have hR := but_pre g
  refine wp_region_one hR 10 [0, 1, 2, 3, 4, 5, 6, 7, 8, 9] (fun w => Blk w g [.string ⟨E.key.toArray⟩, .int .i64 E.val.kind, .int .i64 E.val.time, .int .i64 E.val.node, .bool E.val.dead, .string ⟨E.val.text.toArray⟩, vp, vm, .int .u64 (E.val.flags.toNat : Int)]) (by kernel_rfl) (fun _ _ h hb => h.keep hb) (fun _ h => h.keep ((Below.refl _ _).drew)) 13 mixed (by rw [hsz]; kernel_rfl) (by kernel_rfl) HB ?_
  rw [show twinOps.size - 13 = 1 by kernel_rfl]
  refine ⟨isVal (.pointer (some ⟨g, 1, none⟩)), OStep.ofS hR (by decide) (by decide) (stabR_val' _ _) (by kernel_rfl) (by intro w hr hS; exact step_field 48 (.tmp 1) 1 ⟨g, 0, none⟩ ⟨g, 1, none⟩ (by kernel_rfl) (wanted_none (by kernel_rfl)) (knows_old 1 (.pointer (some ⟨g, 0, none⟩)) (by kernel_rfl) h1) (f_en_0_1 (g))), ?_⟩
  refine ⟨isVal (.pointer (some ⟨g, 6, none⟩)), OStep.ofS hR (by decide) (by decide) (stabR_val' _ _) (by kernel_rfl) (by intro w hr hS; exact step_field 46 (.tmp 3) 5 ⟨g, 1, none⟩ ⟨g, 6, none⟩ (by kernel_rfl) (wanted_none (by kernel_rfl)) (knows_new (V := isVal (.pointer (some ⟨g, 1, none⟩))) 3 0 (by kernel_rfl) (by kernel_rfl) (by kernel_rfl)) (f_va_1_5 (g))), ?_⟩
  refine ⟨isVal vp, OStep.ofS hR (by decide) (by decide) (stabR_val' _ _) (by kernel_rfl) (by intro w hr hS; exact step_read 23 (.tmp 4) ⟨g, 6, none⟩ vp (by kernel_rfl) (wanted_none (by kernel_rfl)) (knows_new (V := isVal (.pointer (some ⟨g, 6, none⟩))) 4 1 (by kernel_rfl) (by kernel_rfl) (by kernel_rfl)) (hS.cells.2 6 _ rfl) (hS.lt) (agg_noI)), ?_⟩
  refine ⟨(isOwn B 3 (E.val.plus.map intC)), OStep.ofS hR (by decide) (by decide) (ownR (by omega) _) (by kernel_rfl) (by intro w hr hS; exact step_call 74 #[.tmp 5] #[23] #[vp] (by kernel_rfl) (wanted_none (by kernel_rfl)) (stable_own _ _ _) (args1 (.tmp 5) vp (knows_new (V := isVal vp) 5 2 (by kernel_rfl) (by kernel_rfl) (by kernel_rfl))) (enters_of Tryz.func74 (by kernel_rfl) rfl) (by intro w' hb; exact clone_i' B E.val.plus vp w' (stable_cells _ _ _ _ (hr.cells hp op) hb) lp (Nat.le_trans hB (Nat.le_trans hr.size hb.size)))), ?_⟩
  refine ⟨isVal (.pointer (some ⟨g, 1, none⟩)), OStep.ofS hR (by decide) (by decide) (stabR_val' _ _) (by kernel_rfl) (by intro w hr hS; exact step_field 48 (.tmp 1) 1 ⟨g, 0, none⟩ ⟨g, 1, none⟩ (by kernel_rfl) (wanted_none (by kernel_rfl)) (knows_old 1 (.pointer (some ⟨g, 0, none⟩)) (by kernel_rfl) h1) (f_en_0_1 (g))), ?_⟩
  refine ⟨isVal (.pointer (some ⟨g, 7, none⟩)), OStep.ofS hR (by decide) (by decide) (stabR_val' _ _) (by kernel_rfl) (by intro w hr hS; exact step_field 46 (.tmp 7) 6 ⟨g, 1, none⟩ ⟨g, 7, none⟩ (by kernel_rfl) (wanted_none (by kernel_rfl)) (knows_new (V := isVal (.pointer (some ⟨g, 1, none⟩))) 7 4 (by kernel_rfl) (by kernel_rfl) (by kernel_rfl)) (f_va_1_6 (g))), ?_⟩
  refine ⟨isVal vm, OStep.ofS hR (by decide) (by decide) (stabR_val' _ _) (by kernel_rfl) (by intro w hr hS; exact step_read 23 (.tmp 8) ⟨g, 7, none⟩ vm (by kernel_rfl) (wanted_none (by kernel_rfl)) (knows_new (V := isVal (.pointer (some ⟨g, 7, none⟩))) 8 5 (by kernel_rfl) (by kernel_rfl) (by kernel_rfl)) (hS.cells.2 7 _ rfl) (hS.lt) (agg_noI)), ?_⟩
  refine ⟨(isOwn B 3 (E.val.minus.map intC)), OStep.ofS hR (by decide) (by decide) (ownR (by omega) _) (by kernel_rfl) (by intro w hr hS; exact step_call 74 #[.tmp 9] #[23] #[vm] (by kernel_rfl) (wanted_none (by kernel_rfl)) (stable_own _ _ _) (args1 (.tmp 9) vm (knows_new (V := isVal vm) 9 6 (by kernel_rfl) (by kernel_rfl) (by kernel_rfl))) (enters_of Tryz.func74 (by kernel_rfl) rfl) (by intro w' hb; exact clone_i' B E.val.minus vm w' (stable_cells _ _ _ _ (hr.cells hm om) hb) lm (Nat.le_trans hB (Nat.le_trans hr.size hb.size)))), ?_⟩
  refine ⟨isVal (.pointer (some ⟨g, 1, none⟩)), OStep.ofS hR (by decide) (by decide) (stabR_val' _ _) (by kernel_rfl) (by intro w hr hS; exact step_field 48 (.tmp 1) 1 ⟨g, 0, none⟩ ⟨g, 1, none⟩ (by kernel_rfl) (wanted_none (by kernel_rfl)) (knows_old 1 (.pointer (some ⟨g, 0, none⟩)) (by kernel_rfl) h1) (f_en_0_1 (g))), ?_⟩
  refine ⟨isVal (.pointer (some ⟨g, 6, none⟩)), OStep.ofS hR (by decide) (by decide) (stabR_val' _ _) (by kernel_rfl) (by intro w hr hS; exact step_field 46 (.tmp 11) 5 ⟨g, 1, none⟩ ⟨g, 6, none⟩ (by kernel_rfl) (wanted_none (by kernel_rfl)) (knows_new (V := isVal (.pointer (some ⟨g, 1, none⟩))) 11 8 (by kernel_rfl) (by kernel_rfl) (by kernel_rfl)) (f_va_1_5 (g))), ?_⟩
  refine ⟨(fun _ w => ∃ vp', isOwn B 3 (E.val.plus.map intC) vp' w ∧ Blk w g [.string ⟨E.key.toArray⟩, .int .i64 E.val.kind, .int .i64 E.val.time, .int .i64 E.val.node, .bool E.val.dead, .string ⟨E.val.text.toArray⟩, vp', vm, .int .u64 (E.val.flags.toNat : Int)]), ostep_row (t := 23) 3 g 6 B (E.val.plus.map intC) [.string ⟨E.key.toArray⟩, .int .i64 E.val.kind, .int .i64 E.val.time, .int .i64 E.val.node, .bool E.val.dead, .string ⟨E.val.text.toArray⟩, vp, vm, .int .u64 (E.val.flags.toNat : Int)] (.tmp 12) (.tmp 6) (by kernel_rfl) (knows_new (V := isVal (.pointer (some ⟨g, 6, none⟩))) 12 9 (by kernel_rfl) (by kernel_rfl) (by kernel_rfl)) (knows_new (V := (isOwn B 3 (E.val.plus.map intC))) 6 3 (by kernel_rfl) (by kernel_rfl) (by kernel_rfl)) (by kernel_rfl) (by simp) (by omega), ?_⟩
  refine ⟨isVal (.pointer (some ⟨g, 1, none⟩)), OStep.of hR (by decide) (stabR_val' _ _) (by kernel_rfl) (by intro w hr; exact step_field 48 (.tmp 1) 1 ⟨g, 0, none⟩ ⟨g, 1, none⟩ (by kernel_rfl) (wanted_none (by kernel_rfl)) (knows_old 1 (.pointer (some ⟨g, 0, none⟩)) (by kernel_rfl) h1) (f_en_0_1 (g))), ?_⟩
  refine ⟨isVal (.pointer (some ⟨g, 7, none⟩)), OStep.of hR (by decide) (stabR_val' _ _) (by kernel_rfl) (by intro w hr; exact step_field 46 (.tmp 13) 6 ⟨g, 1, none⟩ ⟨g, 7, none⟩ (by kernel_rfl) (wanted_none (by kernel_rfl)) (knows_new (V := isVal (.pointer (some ⟨g, 1, none⟩))) 13 11 (by kernel_rfl) (by kernel_rfl) (by kernel_rfl)) (f_va_1_6 (g))), ?_⟩
  intro a w hk0 hb hd
  have d10 : ∃ vp', isOwn B 3 (E.val.plus.map intC) vp' w ∧ Blk w g ([.string ⟨E.key.toArray⟩, .int .i64 E.val.kind, .int .i64 E.val.time, .int .i64 E.val.node, .bool E.val.dead, .string ⟨E.val.text.toArray⟩, vp, vm, .int .u64 (E.val.flags.toNat : Int)].set 6 vp') := by
    have := hd 10 (by decide)
    obtain ⟨o, ho⟩ : ∃ o, twinOps[10]? = some o := ⟨_, rfl⟩
    exact this o ho
  obtain ⟨vp', hop', HB'⟩ := d10
  have d10' := fdone_of (rdone_f (hd 7 (by decide))) (t := 10) (V := isOwn B 3 (E.val.minus.map intC)) (by kernel_rfl) (by kernel_rfl)
  have d14 := fdone_of (rdone_f (hd 12 (by decide))) (t := 14) (V := isVal (.pointer (some ⟨g, 7, none⟩))) (by kernel_rfl) (by kernel_rfl)
  generalize hv : a.tmps.getD 10 undef = vm' at d10'
  refine tail_store 23 (.tmp 14) (.tmp 10) ⟨g, 7, none⟩ vm' vm (by kernel_rfl) (by kernel_rfl) d14 hv (by kernel_rfl) d10'.one.1 d10'.one.2 (HB'.cells.2 7 _ rfl) (HB'.free 7) ?_
  obtain ⟨y, ey⟩ := kept_ex hk0.f [some 3, some 4, some 5, some 6, some 7, some 8, some 9, some 10, some 11, some 12, none, some 13, some 14, none] [3, 4, 5, 6, 7, 8, 9, 10, 11, 12, 13, 14] (by kernel_rfl) (by decide)
  rw [ey]
  exact hQ y vp' vm' _ (hop'.set (p := ⟨g, 7, none⟩) hg vm') (d10'.set (p := ⟨g, 7, none⟩) hg vm') (HB'.set 7 vm' (by simp)) (hR.trans _ _ _ hb ⟨rfl, rfl, rfl, by simp, fun b _ hne => Below.heap_setCell w ⟨g, 7, none⟩ vm' b hne⟩)
set_option maxRecDepth 100000 in
set_option maxHeartbeats 2000000 in
theorem twin_any (E : En) (v : Value) (w : World) (hv : isEn E v w) (hF : FitE E) : Calls Tryz.prog 75 #[v] w fun e w' => ∃ v', e = .returned v' ∧ isEnN w.heap.size E v' w' ∧ Below w.heap.size w w' := by
  obtain ⟨vp, vm, rfl, hp, hm⟩ := hv
  have op := off_size hp (Nat.le_refl _)
  have om := off_size hm (Nat.le_refl _)
  have hb1 : Below w.heap.size w ((w.alloc (.cells #[.string ⟨E.key.toArray⟩, .int .i64 E.val.kind, .int .i64 E.val.time, .int .i64 E.val.node, .bool E.val.dead, .string ⟨E.val.text.toArray⟩, vp, vm, .int .u64 (E.val.flags.toNat : Int)] 48)).alloc (.cells #[.string ⟨#[]⟩, .int .i64 0, .int .i64 0, .int .i64 0, .bool false, .string ⟨#[]⟩, .slice none 0 0, .slice none 0 0, .int .u64 0] 48)) := ((Below.refl _ w).alloc (Nat.le_refl _) _).alloc (by simp) _
  have HB : Blk ((w.alloc (.cells #[.string ⟨E.key.toArray⟩, .int .i64 E.val.kind, .int .i64 E.val.time, .int .i64 E.val.node, .bool E.val.dead, .string ⟨E.val.text.toArray⟩, vp, vm, .int .u64 (E.val.flags.toNat : Int)] 48)).alloc (.cells #[.string ⟨#[]⟩, .int .i64 0, .int .i64 0, .int .i64 0, .bool false, .string ⟨#[]⟩, .slice none 0 0, .slice none 0 0, .int .u64 0] 48)) w.heap.size [.string ⟨E.key.toArray⟩, .int .i64 E.val.kind, .int .i64 E.val.time, .int .i64 E.val.node, .bool E.val.dead, .string ⟨E.val.text.toArray⟩, vp, vm, .int .u64 (E.val.flags.toNat : Int)] := (Blk.new w 48 _ _ rfl).alloc _
  have HR : Blk ((w.alloc (.cells #[.string ⟨E.key.toArray⟩, .int .i64 E.val.kind, .int .i64 E.val.time, .int .i64 E.val.node, .bool E.val.dead, .string ⟨E.val.text.toArray⟩, vp, vm, .int .u64 (E.val.flags.toNat : Int)] 48)).alloc (.cells #[.string ⟨#[]⟩, .int .i64 0, .int .i64 0, .int .i64 0, .bool false, .string ⟨#[]⟩, .slice none 0 0, .slice none 0 0, .int .u64 0] 48)) (w.heap.size + 1) [.string ⟨#[]⟩, .int .i64 0, .int .i64 0, .int .i64 0, .bool false, .string ⟨#[]⟩, .slice none 0 0, .slice none 0 0, .int .u64 0] := Blk.new (w.alloc (.cells #[.string ⟨E.key.toArray⟩, .int .i64 E.val.kind, .int .i64 E.val.time, .int .i64 E.val.node, .bool E.val.dead, .string ⟨E.val.text.toArray⟩, vp, vm, .int .u64 (E.val.flags.toNat : Int)] 48)) 48 _ _ (by simp)
  have hs : ((w.alloc (.cells #[.string ⟨E.key.toArray⟩, .int .i64 E.val.kind, .int .i64 E.val.time, .int .i64 E.val.node, .bool E.val.dead, .string ⟨E.val.text.toArray⟩, vp, vm, .int .u64 (E.val.flags.toNat : Int)] 48)).alloc (.cells #[.string ⟨#[]⟩, .int .i64 0, .int .i64 0, .int .i64 0, .bool false, .string ⟨#[]⟩, .slice none 0 0, .slice none 0 0, .int .u64 0] 48)).heap.size = w.heap.size + 2 := by simp
  have hp1 := stable_cells _ _ _ _ hp hb1
  have hm1 := stable_cells _ _ _ _ hm hb1
  have lp := hF.val.plus
  have lm := hF.val.minus
  go_enter Tryz.func75, Tryz.ntmps75
  go_wp2_with fail
  generalize ((w.alloc (.cells #[.string ⟨E.key.toArray⟩, .int .i64 E.val.kind, .int .i64 E.val.time, .int .i64 E.val.node, .bool E.val.dead, .string ⟨E.val.text.toArray⟩, vp, vm, .int .u64 (E.val.flags.toNat : Int)] 48)).alloc (.cells #[.string ⟨#[]⟩, .int .i64 0, .int .i64 0, .int .i64 0, .bool false, .string ⟨#[]⟩, .slice none 0 0, .slice none 0 0, .int .u64 0] 48)) = W0 at *
  refine twin_region _ _ _ rfl w.heap.size (w.heap.size + 2) E vp vm rfl HB hp1 hm1 op om (by omega) (by omega) (by omega) (by omega) ?_
  intro y vp' vm' W hop hom HB' hbut
  simp only [List.foldl_cons, List.foldl_nil]
  generalize y 3 = z3
  generalize y 4 = z4
  generalize y 5 = z5
  generalize y 6 = z6
  generalize y 7 = z7
  generalize y 8 = z8
  generalize y 9 = z9
  generalize y 10 = z10
  generalize y 11 = z11
  generalize y 12 = z12
  generalize y 13 = z13
  generalize y 14 = z14
  simp only [List.setIfInBounds_toArray, List.set_cons_succ, List.set_cons_zero]
  have HR' := hbut.blk HR (by omega)
  have HO : Kept (Ones [.string ⟨E.key.toArray⟩, .int .i64 E.val.kind, .int .i64 E.val.time, .int .i64 E.val.node, .bool E.val.dead, .string ⟨E.val.text.toArray⟩, vp', vm', .int .u64 (E.val.flags.toNat : Int)]) := ⟨⟨rfl, rfl, rfl, rfl, rfl, rfl, hop.one.2, hom.one.2, rfl, trivial⟩⟩
  have KB : Kept (Below w.heap.size w W) := ⟨hb1.trans (hbut.below (Nat.le_refl _) (by omega))⟩
  have KR := Kept.mk HR'
  have KP := Kept.mk hop
  have KM := Kept.mk hom
  have kx0 := HB'.cells.2 0 _ rfl
  have kx1 := HB'.cells.2 1 _ rfl
  have kx2 := HB'.cells.2 2 _ rfl
  have kx3 := HB'.cells.2 3 _ rfl
  have kx4 := HB'.cells.2 4 _ rfl
  have kx5 := HB'.cells.2 5 _ rfl
  have kx6 := HB'.cells.2 6 _ rfl
  have kx7 := HB'.cells.2 7 _ rfl
  have kx8 := HB'.cells.2 8 _ rfl
  clear HB HR hb1 hp hm hp1 hm1 op om hop hom HB' hbut HR'
  go_wp2_with (have hz0 := HO; refine wpList_storeN 48 rfl (.tmp 2) (.tmp 15) rfl (w.heap.size + 1) [.string ⟨E.key.toArray⟩, .int .i64 E.val.kind, .int .i64 E.val.time, .int .i64 E.val.node, .bool E.val.dead, .string ⟨E.val.text.toArray⟩, vp', vm', .int .u64 (E.val.flags.toNat : Int)] size_en rfl rfl KR.out.cells rfl KR.out.free HO.out ?_; clear hz0 HO)
  have hR2 := (KR.out.all_ (l := [.string ⟨E.key.toArray⟩, .int .i64 E.val.kind, .int .i64 E.val.time, .int .i64 E.val.node, .bool E.val.dead, .string ⟨E.val.text.toArray⟩, vp', vm', .int .u64 (E.val.flags.toNat : Int)]) rfl).cells
  exact bodyPost_ret (resultsN1 rfl _ _ (w.heap.size + 1) _ size_en agg_en rfl hR2) rfl ⟨_, rfl, ⟨vp', vm', rfl, (KP.out.setN_ (by omega) _ 0 _).cells, (KM.out.setN_ (by omega) _ 0 _).cells, (own_new KP.out).low (by omega), (own_new KM.out).low (by omega)⟩, below_setN (by omega) _ 0 _ KB.out⟩
end Go.Proofs.YtkjghoomdefbbaaGreatDoor
end
section
namespace Go.Proofs.YtkjghoomdefbbaaGreatDoor
open Go.RowKit
set_option linter.unusedVariables false
set_option linter.unusedSimpArgs false

set_option maxRecDepth 100000 in
set_option maxHeartbeats 2000000 in
theorem room_any (n : Int) (w : World) : Calls Tryz.prog 50 #[.int .i64 n] w fun e w' => e = .returned (.bool (roomB n)) ∧ Below w.heap.size w w' := by
  have HR := Kept.mk (show roomB n = (decide (1 ≤ n) && decide (n ≤ 8)) from rfl)
  go_enter Tryz.func50, Tryz.ntmps50
  by_cases h1 : 1 ≤ n
  · rw [decide_eq_true h1, Bool.true_and] at HR
    by_cases h8 : n ≤ 8
    · rw [decide_eq_true h8] at HR
      go_wp2
      go_ret
      exact ⟨by rw [HR.out]; rfl, Below.refl _ _⟩
    · rw [decide_eq_false h8] at HR
      go_wp2
      go_ret
      exact ⟨by rw [HR.out]; rfl, Below.refl _ _⟩
  · rw [decide_eq_false h1, Bool.false_and] at HR
    go_wp2
    go_ret
    exact ⟨by rw [HR.out]; rfl, Below.refl _ _⟩
set_option maxRecDepth 100000 in
set_option maxHeartbeats 2000000 in
theorem ents1_any (E : En) (v : Value) (w : World) (hv : isEn E v w) (hF : FitE E) : Calls Tryz.prog 81 #[v] w fun e w' => e = .returned (.bool (!okE E)) ∧ Below w.heap.size w w' := by
  obtain ⟨p, m, rfl, hp, hm⟩ := hv
  obtain ⟨hB, Ve⟩ := ebox w E p m hp hm w.heap.size rfl
  clear hp hm
  obtain ⟨qe, re, xe, ye, ke0, ke1, ke2, ke3, ke4, ke5, ke6, ke7, ke8⟩ := Ve.out.open_
  have X := Kept.mk xe
  clear xe ye
  go_enter Tryz.func81, Tryz.ntmps81
  go_wp2_with fail
  refine (echeck_any E _ _ X.out hF).mono ?_
  rintro e W1 ⟨rfl, hb⟩
  replace hB := Kept.mk (hB.out.trans (hb.mono hB.out.size))
  clear hb X Ve ke0 ke1 ke2 ke3 ke4 ke5 ke6 ke7 ke8
  cases hok : okE E with
  | true =>
    rw [chk_ok hok]
    go_wp2
    go_ret
    exact ⟨by rw [hok]; rfl, hB.out⟩
  | false =>
    rw [chk_no hok]
    go_wp2
    go_ret
    exact ⟨by rw [hok]; rfl, hB.out⟩
set_option maxRecDepth 100000 in
set_option maxHeartbeats 2000000 in
theorem index_ents (l : List En) (v : Value) (w : World) (hv : isEns l v w) (hF : ∀ e ∈ l, FitE e) (hl : l.length ≤ 1000) : Calls Tryz.prog 105 #[v, .func (.func 81) #[] #[]] w fun e w' => ∃ r : Int, e = .returned (.int .i64 r) ∧ decide (0 ≤ r) = !l.all okE ∧ Below w.heap.size w w' := by
  have eg : ∀ args w, (callFunc 81 args).run Tryz.prog w = .ok (.enter 81 args) w := enters_of Tryz.func81 (by kernel_rfl) rfl
  rcases hv.cases_ with ⟨a, cap, rfl, rfl⟩ | ⟨b, off, cap, rfl, hb0, hc⟩
  · go_enter Tryz.func105, Tryz.ntmps105
    go_wp2
    go_loopw [5, 8] (fun _ i wr => i = .int .i64 0 ∧ Kept (Below w.heap.size w wr)) (fun _ i _ => 0)
    case atStart => exact ⟨rfl, ⟨Below.refl _ _⟩⟩
    case round =>
      obtain ⟨rfl, B⟩ := hrel
      go_wp2
      go_ret
      exact ⟨-1, rfl, rfl, B.out⟩
  · have HC := Kept.mk hc
    have HF := Kept.mk hF
    clear hc hv hF
    generalize hn : l.length = n at hl
    go_enter Tryz.func105, Tryz.ntmps105
    go_wp2
    go_loopw [5, 8] (fun _ i wr => ∃ k : Nat, k ≤ n ∧ i = .int .i64 (k : Int) ∧ Kept (Below w.heap.size w wr) ∧ Kept (∀ j E, j < k → l[j]? = some E → okE E = true)) (fun _ i _ => n - (intOf i).toNat)
    case atStart => exact ⟨0, Nat.zero_le _, rfl, ⟨Below.refl _ _⟩, ⟨fun j E h => absurd h (Nat.not_lt_zero _)⟩⟩
    case round =>
      obtain ⟨k, hk, rfl, B, A⟩ := hrel
      by_cases hlt : k < n
      · have hlt' : (k : Int) < (n : Int) := by omega
        obtain ⟨E, hE⟩ : ∃ E, l[k]? = some E := ⟨_, List.getElem?_eq_getElem (by omega)⟩
        obtain ⟨vp, vm, x0, y0, kc0, kc1, kc2, kc3, kc4, kc5, kc6, kc7, kc8⟩ := (HC.out k E hE).keep B.out hb0 |>.open_
        have X := Kept.mk x0
        have FE := Kept.mk (HF.out E (List.mem_of_getElem? hE))
        have HE := Kept.mk hE
        clear x0 y0 hE
        go_wp2_with fail
        refine (ents1_any E _ _ X.out FE.out).mono ?_
        rintro e W1 ⟨rfl, hb⟩
        replace B := Kept.mk (B.out.trans (hb.mono B.out.size))
        clear hb X kc0 kc1 kc2 kc3 kc4 kc5 kc6 kc7 kc8
        cases hok : okE E with
        | true =>
          have HO := Kept.mk hok
          clear hok
          go_wp2
          go_roundw
          case rel =>
            refine ⟨k + 1, by omega, by go_num, B, ⟨fun j E' hj h => ?_⟩⟩
            by_cases e : j = k
            · subst e; rw [HE.out] at h; injection h with h; rw [← h]; exact HO.out
            · exact A.out j E' (by omega) h
          case measure => simp [intOf]; omega
        | false =>
          go_wp2
          go_ret
          refine ⟨k, rfl, ?_, B.out⟩
          rw [show l.all okE = false by rw [List.all_eq_false]; exact ⟨E, List.mem_of_getElem? HE.out, by simp [hok]⟩]
          simp
      · have hlt' : ¬ (k : Int) < (n : Int) := by omega
        go_wp2
        go_ret
        refine ⟨-1, rfl, ?_, B.out⟩
        rw [show l.all okE = true by
          rw [List.all_eq_true]; intro x hx
          obtain ⟨j, hj⟩ := List.getElem?_of_mem hx
          have := (List.getElem?_eq_some_iff.1 hj).1
          exact A.out j x (by omega) hj]
        rfl
set_option maxRecDepth 100000 in
set_option maxHeartbeats 2000000 in
theorem ents_any (l : List En) (v : Value) (w : World) (hv : isEns l v w) (hF : ∀ e ∈ l, FitE e) (hl : l.length ≤ 1000) : Calls Tryz.prog 51 #[v] w fun e w' => e = .returned (.bool (l.all okE)) ∧ Below w.heap.size w w' := by
  have h2 : Calls Tryz.prog 80 #[v, .func (.func 81) #[] #[]] w fun e w' => e = .returned (.bool (!l.all okE)) ∧ Below w.heap.size w w' := by
    go_enter Tryz.func80, Tryz.ntmps80
    go_wp2_with fail
    refine (index_ents l v w hv hF hl).mono ?_
    rintro e W1 ⟨r, rfl, hr, hb⟩
    have HR := Kept.mk hr
    clear hr
    by_cases h0 : 0 ≤ r
    · go_wp2
      go_ret
      exact ⟨by rw [← HR.out, decide_eq_true h0]; rfl, hb⟩
    · go_wp2
      go_ret
      exact ⟨by rw [← HR.out, decide_eq_false (by omega)]; rfl, hb⟩
  go_enter Tryz.func51, Tryz.ntmps51
  generalize l.all okE = z at *
  go_wp2_with fail
  refine h2.mono ?_
  rintro e W1 ⟨rfl, hb⟩
  cases z <;>
  · go_wp2
    go_ret
    exact ⟨rfl, hb⟩
end Go.Proofs.YtkjghoomdefbbaaGreatDoor
end
section
namespace Go.Proofs.YtkjghoomdefbbaaGreatDoor
open Go.RowKit
set_option linter.unusedVariables false
set_option linter.unusedSimpArgs false
attribute [local irreducible] setN

theorem gtr_int {P : Program} (t : TypeId) (k : IntKind) (x y : Int) (b : Bool) (h : decide (y < x) = b) (w : World) : (binOp .gtr t (.int k x) (.int k y)).run P w = .ok (.bool b) w := by subst h; simp [go_sem]
theorem sub_one (k m : Nat) (h : k = m + 1) (h9 : k ≤ 1000) (w : World) : (binOp .sub 3 (.int .i64 (k : Int)) (.int .i64 1)).run Tryz.prog w = .ok (.int .i64 (m : Int)) w := by
  have e : (k : Int) - 1 = (m : Int) := by omega
  have : (IntKind.i64).wrap ((k : Int) - 1) = (m : Int) := by rw [e]; unfold IntKind.wrap; simp [IntKind.bits, IntKind.signed]; omega
  show Result.ok (Value.int .i64 ((IntKind.i64).wrap ((k : Int) - 1))) w = _
  rw [this]
theorem en_mk {E : En} {vp vm : Value} {w w' : World} (hp : isCells (E.val.plus.map intC) vp w) (hm : isCells (E.val.minus.map intC) vm w) (hb : Below w.heap.size w w') : isEn E (.agg #[.string ⟨E.key.toArray⟩, .int .i64 E.val.kind, .int .i64 E.val.time, .int .i64 E.val.node, .bool E.val.dead, .string ⟨E.val.text.toArray⟩, vp, vm, .int .u64 (E.val.flags.toNat : Int)]) w' := ⟨vp, vm, rfl, stable_cells _ _ _ _ hp hb, stable_cells _ _ _ _ hm hb⟩
theorem less_val (A B : En) (z : Bool) (v u : Value) (w : World) (hv : isEn A v w) (hu : isEn B u w) (hz : lessE A B = z) : Calls Tryz.prog 82 #[v, u] w fun e w' => ∃ x, e = .returned x ∧ isVal (.bool z) x w' ∧ Below w.heap.size w w' :=
  (eless_any A B v u w hv hu).mono (by rintro e w' ⟨rfl, h⟩; exact ⟨_, rfl, by rw [hz]; rfl, h⟩)
noncomputable def isidxOps : Array Oper := regionOf Tryz.f52 8
set_option maxRecDepth 100000 in
set_option maxHeartbeats 2000000 in
theorem isidx_region (Q : Exit → Act → World → Prop) (a0 : Act) (w0 : World) (hsz : a0.tmps.size = 51) (g bs os cs bi oi ci n k m p q : Nat) (cap : Int) (z : Bool) (X Y : En) (xp xm yp ym : Value) (e1 : a0.tmps.getD 1 undef = .pointer (some ⟨g, 0, none⟩)) (e3 : a0.tmps.getD 3 undef = .int .i64 (k : Int)) (e4 : a0.tmps.getD 4 undef = .int .i64 (q : Int)) (HV : Blk w0 g [.int .i64 cap, .slice (some ⟨bs, os, none⟩) n cs, .slice (some ⟨bi, oi, none⟩) n ci]) (hkm : k = m + 1) (hk9 : k ≤ 1000) (hmn : m < n) (hpn : p < n) (hqn : q < n) (hpi : w0.cell? ⟨bi, oi + m, none⟩ = some (.int .i64 (p : Int))) (hbi : bi < w0.heap.size) (hbs : bs < w0.heap.size) (hxc : ∀ (j : Nat) (x : Value), [.string ⟨X.key.toArray⟩, .int .i64 X.val.kind, .int .i64 X.val.time, .int .i64 X.val.node, .bool X.val.dead, .string ⟨X.val.text.toArray⟩, xp, xm, .int .u64 (X.val.flags.toNat : Int)][j]? = some x → w0.cell? ⟨bs, os + p * 9 + j, none⟩ = some x) (hyc : ∀ (j : Nat) (x : Value), [.string ⟨Y.key.toArray⟩, .int .i64 Y.val.kind, .int .i64 Y.val.time, .int .i64 Y.val.node, .bool Y.val.dead, .string ⟨Y.val.text.toArray⟩, yp, ym, .int .u64 (Y.val.flags.toNat : Int)][j]? = some x → w0.cell? ⟨bs, os + q * 9 + j, none⟩ = some x) (hxp : isCells (X.val.plus.map intC) xp w0) (hxm : isCells (X.val.minus.map intC) xm w0) (hyp : isCells (Y.val.plus.map intC) yp w0) (hym : isCells (Y.val.minus.map intC) ym w0) (hz : lessE X Y = z)
    (hQ : ∀ (g : Nat → Value) (w : World), g 49 = .bool !z → Below w0.heap.size w0 w → Q .normal { tmps := [29, 30, 31, 32, 33, 34, 35, 36, 37, 38, 39, 40, 41, 42, 43, 44, 45, 46, 47, 48, 49].foldl (fun t s => t.setIfInBounds s (g s)) a0.tmps, defers := a0.defers } w) :
    (Code.region 8 isidxOps true).wp Tryz.prog Q a0 w0 := by
  refine wp_region_flow mixed (by rw [hsz]; kernel_rfl) ?_
  rw [show isidxOps.size = 21 by kernel_rfl]
  refine ⟨isVal (.int .i64 (k : Int)), step_move (.tmp 3) (by kernel_rfl) (wanted_none (by kernel_rfl)) (stable_val _) (knows_old 3 (.int .i64 (k : Int)) (by kernel_rfl) e3), ?_⟩
  refine ⟨isVal (.bool true), step_bin .gtr 3 3 (.tmp 29) (.const (.int .i64 0)) (.int .i64 (k : Int)) (.int .i64 0) (.bool true) (by kernel_rfl) (wanted_none (by kernel_rfl)) (knows_new (V := isVal (.int .i64 (k : Int))) 29 0 (by kernel_rfl) (by kernel_rfl) (by kernel_rfl)) (knows_const _) (fun _ => rfl) (gtr_int _ _ _ _ _ (by simp; omega)), ?_⟩
  refine ⟨isVal (.bool true), step_move (.tmp 30) (by kernel_rfl) (wanted_none (by kernel_rfl)) (stable_val _) (knows_new (V := isVal (.bool true)) 30 1 (by kernel_rfl) (by kernel_rfl) (by kernel_rfl)), ?_⟩
  refine ⟨isVal (.pointer (some ⟨g, 1, none⟩)), step_field 25 (.tmp 1) 1 ⟨g, 0, none⟩ ⟨g, 1, none⟩ (by kernel_rfl) (wanted_some 2 31 true (by kernel_rfl) (by kernel_rfl) (by kernel_rfl) (by kernel_rfl)) (knows_old 1 (.pointer (some ⟨g, 0, none⟩)) (by kernel_rfl) e1) (f_ar_0_1 (g)), ?_⟩
  refine ⟨isVal (.slice (some ⟨bs, os, none⟩) n cs), step_read 22 (.tmp 32) ⟨g, 1, none⟩ (.slice (some ⟨bs, os, none⟩) n cs) (by kernel_rfl) (wanted_some 2 31 true (by kernel_rfl) (by kernel_rfl) (by kernel_rfl) (by kernel_rfl)) (knows_new (V := isVal (.pointer (some ⟨g, 1, none⟩))) 32 3 (by kernel_rfl) (by kernel_rfl) (by kernel_rfl)) (HV.cells.2 1 _ rfl) (HV.lt) (agg_noS), ?_⟩
  refine ⟨isVal (.pointer (some ⟨g, 2, none⟩)), step_field 25 (.tmp 1) 2 ⟨g, 0, none⟩ ⟨g, 2, none⟩ (by kernel_rfl) (wanted_some 2 31 true (by kernel_rfl) (by kernel_rfl) (by kernel_rfl) (by kernel_rfl)) (knows_old 1 (.pointer (some ⟨g, 0, none⟩)) (by kernel_rfl) e1) (f_ar_0_2 (g)), ?_⟩
  refine ⟨isVal (.slice (some ⟨bi, oi, none⟩) n ci), step_read 23 (.tmp 34) ⟨g, 2, none⟩ (.slice (some ⟨bi, oi, none⟩) n ci) (by kernel_rfl) (wanted_some 2 31 true (by kernel_rfl) (by kernel_rfl) (by kernel_rfl) (by kernel_rfl)) (knows_new (V := isVal (.pointer (some ⟨g, 2, none⟩))) 34 5 (by kernel_rfl) (by kernel_rfl) (by kernel_rfl)) (HV.cells.2 2 _ rfl) (HV.lt) (agg_noI), ?_⟩
  refine ⟨isVal (.int .i64 (k : Int)), step_move (.tmp 3) (by kernel_rfl) (wanted_some 2 31 true (by kernel_rfl) (by kernel_rfl) (by kernel_rfl) (by kernel_rfl)) (stable_val _) (knows_old 3 (.int .i64 (k : Int)) (by kernel_rfl) e3), ?_⟩
  refine ⟨isVal (.int .i64 (m : Int)), step_bin .sub 3 3 (.tmp 36) (.const (.int .i64 1)) (.int .i64 (k : Int)) (.int .i64 1) (.int .i64 (m : Int)) (by kernel_rfl) (wanted_some 2 31 true (by kernel_rfl) (by kernel_rfl) (by kernel_rfl) (by kernel_rfl)) (knows_new (V := isVal (.int .i64 (k : Int))) 36 7 (by kernel_rfl) (by kernel_rfl) (by kernel_rfl)) (knows_const _) (fun _ => rfl) (sub_one k m hkm hk9), ?_⟩
  refine ⟨isVal (.pointer (some ⟨bi, oi + m, none⟩)), step_place 23 3 (.tmp 35) (.tmp 37) bi (oi) (n) (ci) (m) (by kernel_rfl) (wanted_some 2 31 true (by kernel_rfl) (by kernel_rfl) (by kernel_rfl) (by kernel_rfl)) (knows_new (V := isVal (.slice (some ⟨bi, oi, none⟩) n ci)) 35 6 (by kernel_rfl) (by kernel_rfl) (by kernel_rfl)) (knows_new (V := isVal (.int .i64 (m : Int))) 37 8 (by kernel_rfl) (by kernel_rfl) (by kernel_rfl)) Tryz.underlying23 (by kernel_rfl) (hmn), ?_⟩
  refine ⟨isVal (.int .i64 (p : Int)), step_read 3 (.tmp 38) ⟨bi, oi + m, none⟩ (.int .i64 (p : Int)) (by kernel_rfl) (wanted_some 2 31 true (by kernel_rfl) (by kernel_rfl) (by kernel_rfl) (by kernel_rfl)) (knows_new (V := isVal (.pointer (some ⟨bi, oi + m, none⟩))) 38 9 (by kernel_rfl) (by kernel_rfl) (by kernel_rfl)) (hpi) (hbi) (agg_noZ), ?_⟩
  refine ⟨isVal (.pointer (some ⟨bs, os + p * 9, none⟩)), step_placeE 22 48 (.tmp 33) (.tmp 39) bs (os) (n) (cs) (p) (os + p * 9) (by kernel_rfl) (wanted_some 2 31 true (by kernel_rfl) (by kernel_rfl) (by kernel_rfl) (by kernel_rfl)) (knows_new (V := isVal (.slice (some ⟨bs, os, none⟩) n cs)) 33 4 (by kernel_rfl) (by kernel_rfl) (by kernel_rfl)) (knows_new (V := isVal (.int .i64 (p : Int))) 39 10 (by kernel_rfl) (by kernel_rfl) (by kernel_rfl)) Tryz.underlying22 (by kernel_rfl) (⟨hpn, rfl⟩), ?_⟩
  refine ⟨isVal (.agg #[.string ⟨X.key.toArray⟩, .int .i64 X.val.kind, .int .i64 X.val.time, .int .i64 X.val.node, .bool X.val.dead, .string ⟨X.val.text.toArray⟩, xp, xm, .int .u64 (X.val.flags.toNat : Int)]), step_loadA 48 (.tmp 40) (bs) (os + p * 9) [.string ⟨X.key.toArray⟩, .int .i64 X.val.kind, .int .i64 X.val.time, .int .i64 X.val.node, .bool X.val.dead, .string ⟨X.val.text.toArray⟩, xp, xm, .int .u64 (X.val.flags.toNat : Int)] (by kernel_rfl) (wanted_some 2 31 true (by kernel_rfl) (by kernel_rfl) (by kernel_rfl) (by kernel_rfl)) (knows_new (V := isVal (.pointer (some ⟨bs, os + p * 9, none⟩))) 40 11 (by kernel_rfl) (by kernel_rfl) (by kernel_rfl)) size_en agg_en (⟨hbs, hxc⟩), ?_⟩
  refine ⟨isVal (.pointer (some ⟨g, 1, none⟩)), step_field 25 (.tmp 1) 1 ⟨g, 0, none⟩ ⟨g, 1, none⟩ (by kernel_rfl) (wanted_some 2 31 true (by kernel_rfl) (by kernel_rfl) (by kernel_rfl) (by kernel_rfl)) (knows_old 1 (.pointer (some ⟨g, 0, none⟩)) (by kernel_rfl) e1) (f_ar_0_1 (g)), ?_⟩
  refine ⟨isVal (.slice (some ⟨bs, os, none⟩) n cs), step_read 22 (.tmp 42) ⟨g, 1, none⟩ (.slice (some ⟨bs, os, none⟩) n cs) (by kernel_rfl) (wanted_some 2 31 true (by kernel_rfl) (by kernel_rfl) (by kernel_rfl) (by kernel_rfl)) (knows_new (V := isVal (.pointer (some ⟨g, 1, none⟩))) 42 13 (by kernel_rfl) (by kernel_rfl) (by kernel_rfl)) (HV.cells.2 1 _ rfl) (HV.lt) (agg_noS), ?_⟩
  refine ⟨isVal (.int .i64 (q : Int)), step_move (.tmp 4) (by kernel_rfl) (wanted_some 2 31 true (by kernel_rfl) (by kernel_rfl) (by kernel_rfl) (by kernel_rfl)) (stable_val _) (knows_old 4 (.int .i64 (q : Int)) (by kernel_rfl) e4), ?_⟩
  refine ⟨isVal (.pointer (some ⟨bs, os + q * 9, none⟩)), step_placeE 22 48 (.tmp 43) (.tmp 44) bs (os) (n) (cs) (q) (os + q * 9) (by kernel_rfl) (wanted_some 2 31 true (by kernel_rfl) (by kernel_rfl) (by kernel_rfl) (by kernel_rfl)) (knows_new (V := isVal (.slice (some ⟨bs, os, none⟩) n cs)) 43 14 (by kernel_rfl) (by kernel_rfl) (by kernel_rfl)) (knows_new (V := isVal (.int .i64 (q : Int))) 44 15 (by kernel_rfl) (by kernel_rfl) (by kernel_rfl)) Tryz.underlying22 (by kernel_rfl) (⟨hqn, rfl⟩), ?_⟩
  refine ⟨isVal (.agg #[.string ⟨Y.key.toArray⟩, .int .i64 Y.val.kind, .int .i64 Y.val.time, .int .i64 Y.val.node, .bool Y.val.dead, .string ⟨Y.val.text.toArray⟩, yp, ym, .int .u64 (Y.val.flags.toNat : Int)]), step_loadA 48 (.tmp 45) (bs) (os + q * 9) [.string ⟨Y.key.toArray⟩, .int .i64 Y.val.kind, .int .i64 Y.val.time, .int .i64 Y.val.node, .bool Y.val.dead, .string ⟨Y.val.text.toArray⟩, yp, ym, .int .u64 (Y.val.flags.toNat : Int)] (by kernel_rfl) (wanted_some 2 31 true (by kernel_rfl) (by kernel_rfl) (by kernel_rfl) (by kernel_rfl)) (knows_new (V := isVal (.pointer (some ⟨bs, os + q * 9, none⟩))) 45 16 (by kernel_rfl) (by kernel_rfl) (by kernel_rfl)) size_en agg_en (⟨hbs, hyc⟩), ?_⟩
  refine ⟨isVal (.bool z), step_call 82 #[.tmp 41, .tmp 46] #[48, 48] #[.agg #[.string ⟨X.key.toArray⟩, .int .i64 X.val.kind, .int .i64 X.val.time, .int .i64 X.val.node, .bool X.val.dead, .string ⟨X.val.text.toArray⟩, xp, xm, .int .u64 (X.val.flags.toNat : Int)], .agg #[.string ⟨Y.key.toArray⟩, .int .i64 Y.val.kind, .int .i64 Y.val.time, .int .i64 Y.val.node, .bool Y.val.dead, .string ⟨Y.val.text.toArray⟩, yp, ym, .int .u64 (Y.val.flags.toNat : Int)]] (by kernel_rfl) (wanted_some 2 31 true (by kernel_rfl) (by kernel_rfl) (by kernel_rfl) (by kernel_rfl)) (stable_val _) (args2 (.tmp 41) (.tmp 46) (.agg #[.string ⟨X.key.toArray⟩, .int .i64 X.val.kind, .int .i64 X.val.time, .int .i64 X.val.node, .bool X.val.dead, .string ⟨X.val.text.toArray⟩, xp, xm, .int .u64 (X.val.flags.toNat : Int)]) (.agg #[.string ⟨Y.key.toArray⟩, .int .i64 Y.val.kind, .int .i64 Y.val.time, .int .i64 Y.val.node, .bool Y.val.dead, .string ⟨Y.val.text.toArray⟩, yp, ym, .int .u64 (Y.val.flags.toNat : Int)]) (knows_new (V := isVal (.agg #[.string ⟨X.key.toArray⟩, .int .i64 X.val.kind, .int .i64 X.val.time, .int .i64 X.val.node, .bool X.val.dead, .string ⟨X.val.text.toArray⟩, xp, xm, .int .u64 (X.val.flags.toNat : Int)])) 41 12 (by kernel_rfl) (by kernel_rfl) (by kernel_rfl)) (knows_new (V := isVal (.agg #[.string ⟨Y.key.toArray⟩, .int .i64 Y.val.kind, .int .i64 Y.val.time, .int .i64 Y.val.node, .bool Y.val.dead, .string ⟨Y.val.text.toArray⟩, yp, ym, .int .u64 (Y.val.flags.toNat : Int)])) 46 17 (by kernel_rfl) (by kernel_rfl) (by kernel_rfl))) (enters_of Tryz.func82 (by kernel_rfl) rfl) (by intro w' hb; exact less_val X Y z _ _ w' (en_mk hxp hxm hb) (en_mk hyp hym hb) hz), ?_⟩
  refine ⟨isVal (.bool !z), step_un .not 4 (.tmp 47) (.bool z) (.bool !z) (by kernel_rfl) (wanted_some 2 31 true (by kernel_rfl) (by kernel_rfl) (by kernel_rfl) (by kernel_rfl)) (knows_new (V := isVal (.bool z)) 47 18 (by kernel_rfl) (by kernel_rfl) (by kernel_rfl)) (fun _ => rfl), ?_⟩
  refine ⟨isVal (.bool !z), step_pick (.tmp 31) (.tmp 48) (.const (.bool false)) true (by kernel_rfl) (wanted_none (by kernel_rfl)) (stable_val _) (knows_new (V := isVal (.bool true)) 31 2 (by kernel_rfl) (by kernel_rfl) (by kernel_rfl)) (knows_new (V := isVal (.bool !z)) 48 19 (by kernel_rfl) (by kernel_rfl) (by kernel_rfl)), ?_⟩
  intro a w hkp hb hd
  rw [kept_of hkp [some 29, some 30, some 31, some 32, some 33, some 34, some 35, some 36, some 37, some 38, some 39, some 40, some 41, some 42, some 43, some 44, some 45, some 46, some 47, some 48, some 49] [29, 30, 31, 32, 33, 34, 35, 36, 37, 38, 39, 40, 41, 42, 43, 44, 45, 46, 47, 48, 49] (by kernel_rfl) (by decide)]
  have d49 := fdone_of (hd 20 (by rw [show isidxOps.size = 21 by kernel_rfl]; decide)) (t := 49) (V := isVal (.bool !z)) (by kernel_rfl) (by kernel_rfl)
  exact hQ (fun s => a.tmps.getD s undef) w d49 hb
end Go.Proofs.YtkjghoomdefbbaaGreatDoor
end
