/- Contract of entry.Join. -/
import Derived.Test.YtebjljiklacolaaEnApi
namespace Go.Proofs.Ytebjljiklacolaa
open Go.RowKit
set_option linter.unusedVariables false
set_option linter.unusedSimpArgs false
attribute [local irreducible] setN

structure JSt (w W : World) (A B : En) (pa ma pb mb : Value) : Prop where
  hb : Below w.heap.size w W
  a : Blk W w.heap.size [.string ⟨A.key.toArray⟩, .int .i64 A.val.kind, .int .i64 A.val.time, .int .i64 A.val.node, .bool A.val.dead, .string ⟨A.val.text.toArray⟩, pa, ma, .int .u64 (A.val.flags.toNat : Int)]
  b : Blk W (w.heap.size + 1) [.string ⟨B.key.toArray⟩, .int .i64 B.val.kind, .int .i64 B.val.time, .int .i64 B.val.node, .bool B.val.dead, .string ⟨B.val.text.toArray⟩, pb, mb, .int .u64 (B.val.flags.toNat : Int)]
  r : Blk W (w.heap.size + 1 + 1) [.string ⟨#[]⟩, .int .i64 0, .int .i64 0, .int .i64 0, .bool false, .string ⟨#[]⟩, .slice none 0 0, .slice none 0 0, .int .u64 0]
  s : Blk W (w.heap.size + 1 + 1 + 1) [.string ⟨A.key.toArray⟩, .int .i64 A.val.kind, .int .i64 A.val.time, .int .i64 A.val.node, .bool A.val.dead, .string ⟨A.val.text.toArray⟩, pa, ma, .int .u64 (A.val.flags.toNat : Int), .string ⟨B.key.toArray⟩, .int .i64 B.val.kind, .int .i64 B.val.time, .int .i64 B.val.node, .bool B.val.dead, .string ⟨B.val.text.toArray⟩, pb, mb, .int .u64 (B.val.flags.toNat : Int)]
theorem JSt.keep {w W W' : World} {A B : En} {pa ma pb mb : Value} (h : JSt w W A B pa ma pb mb) (k : Below W.heap.size W W') : JSt w W' A B pa ma pb mb :=
  ⟨h.hb.trans (k.mono h.hb.size), h.a.keep k, h.b.keep k, h.r.keep k, h.s.keep k⟩
theorem jst_new (w : World) (A B : En) (pa ma pb mb : Value) : JSt w ((((w.alloc (.cells #[.string ⟨A.key.toArray⟩, .int .i64 A.val.kind, .int .i64 A.val.time, .int .i64 A.val.node, .bool A.val.dead, .string ⟨A.val.text.toArray⟩, pa, ma, .int .u64 (A.val.flags.toNat : Int)] 27)).alloc (.cells #[.string ⟨B.key.toArray⟩, .int .i64 B.val.kind, .int .i64 B.val.time, .int .i64 B.val.node, .bool B.val.dead, .string ⟨B.val.text.toArray⟩, pb, mb, .int .u64 (B.val.flags.toNat : Int)] 27)).alloc (.cells #[.string ⟨#[]⟩, .int .i64 0, .int .i64 0, .int .i64 0, .bool false, .string ⟨#[]⟩, .slice none 0 0, .slice none 0 0, .int .u64 0] 27)).alloc (.cells #[.string ⟨A.key.toArray⟩, .int .i64 A.val.kind, .int .i64 A.val.time, .int .i64 A.val.node, .bool A.val.dead, .string ⟨A.val.text.toArray⟩, pa, ma, .int .u64 (A.val.flags.toNat : Int), .string ⟨B.key.toArray⟩, .int .i64 B.val.kind, .int .i64 B.val.time, .int .i64 B.val.node, .bool B.val.dead, .string ⟨B.val.text.toArray⟩, pb, mb, .int .u64 (B.val.flags.toNat : Int)] 27)) A B pa ma pb mb where
  hb := ((((Below.refl _ w).alloc (Nat.le_refl _) _).alloc (by simp) _).alloc (by simp; omega) _).alloc (by simp; omega) _
  a := (((Blk.new w 27 _ _ rfl).alloc _).alloc _).alloc _
  b := ((Blk.new (w.alloc (.cells #[.string ⟨A.key.toArray⟩, .int .i64 A.val.kind, .int .i64 A.val.time, .int .i64 A.val.node, .bool A.val.dead, .string ⟨A.val.text.toArray⟩, pa, ma, .int .u64 (A.val.flags.toNat : Int)] 27)) 27 _ _ (by simp)).alloc _).alloc _
  r := (Blk.new ((w.alloc (.cells #[.string ⟨A.key.toArray⟩, .int .i64 A.val.kind, .int .i64 A.val.time, .int .i64 A.val.node, .bool A.val.dead, .string ⟨A.val.text.toArray⟩, pa, ma, .int .u64 (A.val.flags.toNat : Int)] 27)).alloc (.cells #[.string ⟨B.key.toArray⟩, .int .i64 B.val.kind, .int .i64 B.val.time, .int .i64 B.val.node, .bool B.val.dead, .string ⟨B.val.text.toArray⟩, pb, mb, .int .u64 (B.val.flags.toNat : Int)] 27)) 27 _ _ (by simp)).alloc _
  s := Blk.new (((w.alloc (.cells #[.string ⟨A.key.toArray⟩, .int .i64 A.val.kind, .int .i64 A.val.time, .int .i64 A.val.node, .bool A.val.dead, .string ⟨A.val.text.toArray⟩, pa, ma, .int .u64 (A.val.flags.toNat : Int)] 27)).alloc (.cells #[.string ⟨B.key.toArray⟩, .int .i64 B.val.kind, .int .i64 B.val.time, .int .i64 B.val.node, .bool B.val.dead, .string ⟨B.val.text.toArray⟩, pb, mb, .int .u64 (B.val.flags.toNat : Int)] 27)).alloc (.cells #[.string ⟨#[]⟩, .int .i64 0, .int .i64 0, .int .i64 0, .bool false, .string ⟨#[]⟩, .slice none 0 0, .slice none 0 0, .int .u64 0] 27)) 27 _ _ (by simp)
theorem chk_ok {E : En} (h : okE E = true) : chkE E = 0 := by unfold chkE; rw [if_pos h]
theorem chk_no {E : En} (h : okE E = false) : chkE E = 2 := by unfold chkE; rw [h]; rfl
set_option maxRecDepth 100000 in
set_option maxHeartbeats 4000000 in
theorem ejoin_any (A B : En) (v u : Value) (w : World) (hv : isEn A v w) (hu : isEn B u w) (hA : FitE A) (hF : FitE B) : Calls Try.prog 14 #[v, u] w fun e w' => ∃ v', e = .returned (.tuple #[v', .int .i64 (joinEE A B)]) ∧ isEnN w.heap.size (joinEF A B) v' w' ∧ Below w.heap.size w w' := by
  obtain ⟨pa, ma, rfl, hpa, hma⟩ := hv
  obtain ⟨pb, mb, rfl, hpb, hmb⟩ := hu
  have HPA := Kept.mk hpa
  have HMA := Kept.mk hma
  have HPB := Kept.mk hpb
  have HMB := Kept.mk hmb
  clear hpa hma hpb hmb
  have J := Kept.mk (jst_new w A B pa ma pb mb)
  go_enter Try.func14, Try.ntmps14
  go_wp2
  generalize ((((w.alloc (.cells #[.string ⟨A.key.toArray⟩, .int .i64 A.val.kind, .int .i64 A.val.time, .int .i64 A.val.node, .bool A.val.dead, .string ⟨A.val.text.toArray⟩, pa, ma, .int .u64 (A.val.flags.toNat : Int)] 27)).alloc (.cells #[.string ⟨B.key.toArray⟩, .int .i64 B.val.kind, .int .i64 B.val.time, .int .i64 B.val.node, .bool B.val.dead, .string ⟨B.val.text.toArray⟩, pb, mb, .int .u64 (B.val.flags.toNat : Int)] 27)).alloc (.cells #[.string ⟨#[]⟩, .int .i64 0, .int .i64 0, .int .i64 0, .bool false, .string ⟨#[]⟩, .slice none 0 0, .slice none 0 0, .int .u64 0] 27)).alloc (.cells #[.string ⟨A.key.toArray⟩, .int .i64 A.val.kind, .int .i64 A.val.time, .int .i64 A.val.node, .bool A.val.dead, .string ⟨A.val.text.toArray⟩, pa, ma, .int .u64 (A.val.flags.toNat : Int), .string ⟨B.key.toArray⟩, .int .i64 B.val.kind, .int .i64 B.val.time, .int .i64 B.val.node, .bool B.val.dead, .string ⟨B.val.text.toArray⟩, pb, mb, .int .u64 (B.val.flags.toNat : Int)] 27)) = W0 at *
  go_loopw [15] (fun i wr => ∃ k : Nat, k ≤ 2 ∧ i = .int .i64 (k : Int) ∧ Kept (JSt w wr A B pa ma pb mb) ∧ Kept (1 ≤ k → okE A = true) ∧ Kept (k = 2 → okE B = true)) (fun i _ => 2 - (intOf i).toNat)
  case atStart => exact ⟨0, by omega, rfl, J, ⟨by omega⟩, ⟨by omega⟩⟩
  case round =>
    clear J
    obtain ⟨k, hk, rfl, J, O1, O2⟩ := hrel
    have hsz := J.out.r.lt
    rcases (show k = 0 ∨ k = 1 ∨ k = 2 by omega) with rfl | rfl | rfl
    · have ks0 := J.out.s.cells.2 0 _ rfl
      have ks1 := J.out.s.cells.2 1 _ rfl
      have ks2 := J.out.s.cells.2 2 _ rfl
      have ks3 := J.out.s.cells.2 3 _ rfl
      have ks4 := J.out.s.cells.2 4 _ rfl
      have ks5 := J.out.s.cells.2 5 _ rfl
      have ks6 := J.out.s.cells.2 6 _ rfl
      have ks7 := J.out.s.cells.2 7 _ rfl
      have ks8 := J.out.s.cells.2 8 _ rfl
      obtain ⟨K1, K2, K3, K4, K5⟩ := enew wr A pa ma (stable_cells _ _ _ _ HPA.out J.out.hb) (stable_cells _ _ _ _ HMA.out J.out.hb) wr.heap.size rfl
      go_wp2_with (have hz0 := K1; refine wpList_storeN 27 rfl (.tmp 7) (.tmp 18) rfl wr.heap.size [.string ⟨A.key.toArray⟩, .int .i64 A.val.kind, .int .i64 A.val.time, .int .i64 A.val.node, .bool A.val.dead, .string ⟨A.val.text.toArray⟩, pa, ma, .int .u64 (A.val.flags.toNat : Int)] size_en rfl rfl K1.out rfl K2.out K5.out ?_; replace J := Kept.mk (J.out.keep K3.out); clear hz0 K1 K2 K3 K5 ks0 ks1 ks2 ks3 ks4 ks5 ks6 ks7 ks8; generalize setN (wr.alloc (.cells #[.string ⟨#[]⟩, .int .i64 0, .int .i64 0, .int .i64 0, .bool false, .string ⟨#[]⟩, .slice none 0 0, .slice none 0 0, .int .u64 0] 27)) wr.heap.size 0 [.string ⟨A.key.toArray⟩, .int .i64 A.val.kind, .int .i64 A.val.time, .int .i64 A.val.node, .bool A.val.dead, .string ⟨A.val.text.toArray⟩, pa, ma, .int .u64 (A.val.flags.toNat : Int)] = W1 at *; have kx0 := K4.out.1.2 0 _ rfl; have kx1 := K4.out.1.2 1 _ rfl; have kx2 := K4.out.1.2 2 _ rfl; have kx3 := K4.out.1.2 3 _ rfl; have kx4 := K4.out.1.2 4 _ rfl; have kx5 := K4.out.1.2 5 _ rfl; have kx6 := K4.out.1.2 6 _ rfl; have kx7 := K4.out.1.2 7 _ rfl; have kx8 := K4.out.1.2 8 _ rfl)
      refine (echeck_any A _ W1 ⟨_, _, rfl, K4.out.2.1, K4.out.2.2⟩ hA).mono ?_
      rintro e W2 ⟨rfl, hb⟩
      replace J := Kept.mk (J.out.keep hb)
      clear hb K4 kx0 kx1 kx2 kx3 kx4 kx5 kx6 kx7 kx8
      cases hok : okE A with
      | true =>
        rw [chk_ok hok]
        have HO := Kept.mk hok
        clear hok
        go_wp2
        go_roundw
        case rel => exact ⟨1, by omega, by go_num, J, ⟨fun _ => HO.out⟩, ⟨fun h => by omega⟩⟩
        case measure => simp [intOf]
      | false =>
        rw [chk_no hok]
        have HO := Kept.mk hok
        clear hok
        have KZ : Kept (Ones [.string ⟨#[]⟩, .int .i64 0, .int .i64 0, .int .i64 0, .bool false, .string ⟨#[]⟩, .slice none 0 0, .slice none 0 0, .int .u64 0]) := ⟨⟨rfl, rfl, rfl, rfl, rfl, rfl, rfl, rfl, rfl, trivial⟩⟩
        go_wp2_with (refine wpList_storeN 27 rfl (.tmp 4) (.tmp 23) rfl (w.heap.size + 1 + 1) [.string ⟨#[]⟩, .int .i64 0, .int .i64 0, .int .i64 0, .bool false, .string ⟨#[]⟩, .slice none 0 0, .slice none 0 0, .int .u64 0] size_en rfl rfl J.out.r.cells rfl J.out.r.free KZ.out ?_)
        have e1 : joinEE A B = 2 := by unfold joinEE; rw [HO.out]; rfl
        have e2 : joinEF A B = zeroE := by unfold joinEF; rw [e1]; rfl
        rw [e1, e2]
        exact bodyPost_ret (resultsN2 rfl _ _ (w.heap.size + 1 + 1) _ (.int .i64 2) size_en agg_en rfl rfl (J.out.r.all_ rfl).cells) rfl ⟨_, rfl, ⟨.slice none 0 0, .slice none 0 0, rfl, .inl ⟨rfl, rfl⟩, .inl ⟨rfl, rfl⟩, newB_nil _, newB_nil _⟩, below_setN (by omega) _ 0 _ J.out.hb⟩
    · have ks0 := J.out.s.cells.2 9 _ rfl
      have ks1 := J.out.s.cells.2 10 _ rfl
      have ks2 := J.out.s.cells.2 11 _ rfl
      have ks3 := J.out.s.cells.2 12 _ rfl
      have ks4 := J.out.s.cells.2 13 _ rfl
      have ks5 := J.out.s.cells.2 14 _ rfl
      have ks6 := J.out.s.cells.2 15 _ rfl
      have ks7 := J.out.s.cells.2 16 _ rfl
      have ks8 := J.out.s.cells.2 17 _ rfl
      obtain ⟨K1, K2, K3, K4, K5⟩ := enew wr B pb mb (stable_cells _ _ _ _ HPB.out J.out.hb) (stable_cells _ _ _ _ HMB.out J.out.hb) wr.heap.size rfl
      go_wp2_with (have hz0 := K1; refine wpList_storeN 27 rfl (.tmp 7) (.tmp 18) rfl wr.heap.size [.string ⟨B.key.toArray⟩, .int .i64 B.val.kind, .int .i64 B.val.time, .int .i64 B.val.node, .bool B.val.dead, .string ⟨B.val.text.toArray⟩, pb, mb, .int .u64 (B.val.flags.toNat : Int)] size_en rfl rfl K1.out rfl K2.out K5.out ?_; replace J := Kept.mk (J.out.keep K3.out); clear hz0 K1 K2 K3 K5 ks0 ks1 ks2 ks3 ks4 ks5 ks6 ks7 ks8; generalize setN (wr.alloc (.cells #[.string ⟨#[]⟩, .int .i64 0, .int .i64 0, .int .i64 0, .bool false, .string ⟨#[]⟩, .slice none 0 0, .slice none 0 0, .int .u64 0] 27)) wr.heap.size 0 [.string ⟨B.key.toArray⟩, .int .i64 B.val.kind, .int .i64 B.val.time, .int .i64 B.val.node, .bool B.val.dead, .string ⟨B.val.text.toArray⟩, pb, mb, .int .u64 (B.val.flags.toNat : Int)] = W1 at *; have kx0 := K4.out.1.2 0 _ rfl; have kx1 := K4.out.1.2 1 _ rfl; have kx2 := K4.out.1.2 2 _ rfl; have kx3 := K4.out.1.2 3 _ rfl; have kx4 := K4.out.1.2 4 _ rfl; have kx5 := K4.out.1.2 5 _ rfl; have kx6 := K4.out.1.2 6 _ rfl; have kx7 := K4.out.1.2 7 _ rfl; have kx8 := K4.out.1.2 8 _ rfl)
      refine (echeck_any B _ W1 ⟨_, _, rfl, K4.out.2.1, K4.out.2.2⟩ hF).mono ?_
      rintro e W2 ⟨rfl, hb⟩
      replace J := Kept.mk (J.out.keep hb)
      clear hb K4 kx0 kx1 kx2 kx3 kx4 kx5 kx6 kx7 kx8
      cases hok : okE B with
      | true =>
        rw [chk_ok hok]
        have HO := Kept.mk hok
        clear hok
        go_wp2
        go_roundw
        case rel => exact ⟨2, by omega, by go_num, J, ⟨fun _ => O1.out (by omega)⟩, ⟨fun _ => HO.out⟩⟩
        case measure => simp [intOf]
      | false =>
        rw [chk_no hok]
        have HO := Kept.mk hok
        clear hok
        have KZ : Kept (Ones [.string ⟨#[]⟩, .int .i64 0, .int .i64 0, .int .i64 0, .bool false, .string ⟨#[]⟩, .slice none 0 0, .slice none 0 0, .int .u64 0]) := ⟨⟨rfl, rfl, rfl, rfl, rfl, rfl, rfl, rfl, rfl, trivial⟩⟩
        go_wp2_with (refine wpList_storeN 27 rfl (.tmp 4) (.tmp 23) rfl (w.heap.size + 1 + 1) [.string ⟨#[]⟩, .int .i64 0, .int .i64 0, .int .i64 0, .bool false, .string ⟨#[]⟩, .slice none 0 0, .slice none 0 0, .int .u64 0] size_en rfl rfl J.out.r.cells rfl J.out.r.free KZ.out ?_)
        have e1 : joinEE A B = 2 := by unfold joinEE; rw [HO.out]; rw [Bool.and_false]; rfl
        have e2 : joinEF A B = zeroE := by unfold joinEF; rw [e1]; rfl
        rw [e1, e2]
        exact bodyPost_ret (resultsN2 rfl _ _ (w.heap.size + 1 + 1) _ (.int .i64 2) size_en agg_en rfl rfl (J.out.r.all_ rfl).cells) rfl ⟨_, rfl, ⟨.slice none 0 0, .slice none 0 0, rfl, .inl ⟨rfl, rfl⟩, .inl ⟨rfl, rfl⟩, newB_nil _, newB_nil _⟩, below_setN (by omega) _ 0 _ J.out.hb⟩
    · have P1 := Kept.mk (O1.out (by omega))
      have P2 := Kept.mk (O2.out rfl)
      clear O1 O2
      have ka0 := J.out.a.cells.2 0 _ rfl
      have ka1 := J.out.a.cells.2 1 _ rfl
      have ka2 := J.out.a.cells.2 2 _ rfl
      have ka3 := J.out.a.cells.2 3 _ rfl
      have ka4 := J.out.a.cells.2 4 _ rfl
      have ka5 := J.out.a.cells.2 5 _ rfl
      have ka6 := J.out.a.cells.2 6 _ rfl
      have ka7 := J.out.a.cells.2 7 _ rfl
      have ka8 := J.out.a.cells.2 8 _ rfl
      have kb0 := J.out.b.cells.2 0 _ rfl
      have kb1 := J.out.b.cells.2 1 _ rfl
      have kb2 := J.out.b.cells.2 2 _ rfl
      have kb3 := J.out.b.cells.2 3 _ rfl
      have kb4 := J.out.b.cells.2 4 _ rfl
      have kb5 := J.out.b.cells.2 5 _ rfl
      have kb6 := J.out.b.cells.2 6 _ rfl
      have kb7 := J.out.b.cells.2 7 _ rfl
      have kb8 := J.out.b.cells.2 8 _ rfl
      cases hk : (A.val.kind == B.val.kind) with
      | false =>
        have hk2 : (A.val.kind != B.val.kind) = true := by simp [bne, hk]
        have KZ : Kept (Ones [.string ⟨#[]⟩, .int .i64 0, .int .i64 0, .int .i64 0, .bool false, .string ⟨#[]⟩, .slice none 0 0, .slice none 0 0, .int .u64 0]) := ⟨⟨rfl, rfl, rfl, rfl, rfl, rfl, rfl, rfl, rfl, trivial⟩⟩
        go_wp2_with (refine wpList_storeN 27 rfl (.tmp 4) (.tmp 40) rfl (w.heap.size + 1 + 1) [.string ⟨#[]⟩, .int .i64 0, .int .i64 0, .int .i64 0, .bool false, .string ⟨#[]⟩, .slice none 0 0, .slice none 0 0, .int .u64 0] size_en rfl rfl J.out.r.cells rfl J.out.r.free KZ.out ?_)
        have e1 : joinEE A B = 3 := by unfold joinEE; rw [P1.out, P2.out]; unfold nameB; rw [show decide (A.val.kind = B.val.kind) = false by simpa using hk]; rfl
        have e2 : joinEF A B = zeroE := by unfold joinEF; rw [e1]; rfl
        rw [e1, e2]
        exact bodyPost_ret (resultsN2 rfl _ _ (w.heap.size + 1 + 1) _ (.int .i64 3) size_en agg_en rfl rfl (J.out.r.all_ rfl).cells) rfl ⟨_, rfl, ⟨.slice none 0 0, .slice none 0 0, rfl, .inl ⟨rfl, rfl⟩, .inl ⟨rfl, rfl⟩, newB_nil _, newB_nil _⟩, below_setN (by omega) _ 0 _ J.out.hb⟩
      | true =>
        have hk2 : (A.val.kind != B.val.kind) = false := by simp [bne, hk]
        cases hy : (A.key == B.key) with
        | false =>
          have hy2 : (A.key != B.key) = true := by simp [bne, hy]
          have KZ : Kept (Ones [.string ⟨#[]⟩, .int .i64 0, .int .i64 0, .int .i64 0, .bool false, .string ⟨#[]⟩, .slice none 0 0, .slice none 0 0, .int .u64 0]) := ⟨⟨rfl, rfl, rfl, rfl, rfl, rfl, rfl, rfl, rfl, trivial⟩⟩
          go_wp2_with (refine wpList_storeN 27 rfl (.tmp 4) (.tmp 40) rfl (w.heap.size + 1 + 1) [.string ⟨#[]⟩, .int .i64 0, .int .i64 0, .int .i64 0, .bool false, .string ⟨#[]⟩, .slice none 0 0, .slice none 0 0, .int .u64 0] size_en rfl rfl J.out.r.cells rfl J.out.r.free KZ.out ?_)
          have e1 : joinEE A B = 3 := by unfold joinEE; rw [P1.out, P2.out]; unfold nameB; rw [show decide (A.key = B.key) = false by simpa using hy, Bool.and_false]; rfl
          have e2 : joinEF A B = zeroE := by unfold joinEF; rw [e1]; rfl
          rw [e1, e2]
          exact bodyPost_ret (resultsN2 rfl _ _ (w.heap.size + 1 + 1) _ (.int .i64 3) size_en agg_en rfl rfl (J.out.r.all_ rfl).cells) rfl ⟨_, rfl, ⟨.slice none 0 0, .slice none 0 0, rfl, .inl ⟨rfl, rfl⟩, .inl ⟨rfl, rfl⟩, newB_nil _, newB_nil _⟩, below_setN (by omega) _ 0 _ J.out.hb⟩
        | true =>
          have hy2 : (A.key != B.key) = false := by simp [bne, hy]
          have HK := Kept.mk (show A.val.kind = B.val.kind by simpa using hk)
          have HY := Kept.mk (show A.key = B.key by simpa using hy)
          go_wp2_with fail
          clear hk hy hk2 hy2 ka0 kb0 ka1 kb1 ka2 kb2 ka3 kb3 ka4 kb4 ka5 kb5 ka6 kb6 ka7 kb7 ka8 kb8
          refine (vjoin_any A.val B.val _ _ wr ⟨pa, ma, rfl, stable_cells _ _ _ _ HPA.out J.out.hb, stable_cells _ _ _ _ HMA.out J.out.hb⟩ ⟨pb, mb, rfl, stable_cells _ _ _ _ HPB.out J.out.hb, stable_cells _ _ _ _ HMB.out J.out.hb⟩ hA.val hF.val).mono ?_
          rintro e U ⟨v', rfl, ⟨p', m', rfl, hp', hm', np, nm⟩, hb⟩
          replace J := Kept.mk (J.out.keep hb)
          clear hb
          obtain ⟨K1, K2, K3, K4, K5⟩ := vnew U (joinF A.val B.val) p' m' hp' hm' U.heap.size rfl
          have NP := Kept.mk np
          have NM := Kept.mk nm
          clear hp' hm' np nm
          generalize joinE A.val B.val = je
          go_wp2_with (first | (have hz0 := K1; refine wpList_storeN 25 rfl (.tmp 9) (.tmp 47) rfl U.heap.size [.int .i64 (joinF A.val B.val).kind, .int .i64 (joinF A.val B.val).time, .int .i64 (joinF A.val B.val).node, .bool (joinF A.val B.val).dead, .string ⟨(joinF A.val B.val).text.toArray⟩, p', m', .int .u64 ((joinF A.val B.val).flags.toNat : Int)] size_va rfl rfl K1.out rfl K2.out K5.out ?_; replace J := Kept.mk (J.out.keep K3.out); clear hz0 K1 K2 K3 K5; generalize setN (U.alloc (.cells #[.int .i64 0, .int .i64 0, .int .i64 0, .bool false, .string ⟨#[]⟩, .slice none 0 0, .slice none 0 0, .int .u64 0] 25)) U.heap.size 0 [.int .i64 (joinF A.val B.val).kind, .int .i64 (joinF A.val B.val).time, .int .i64 (joinF A.val B.val).node, .bool (joinF A.val B.val).dead, .string ⟨(joinF A.val B.val).text.toArray⟩, p', m', .int .u64 ((joinF A.val B.val).flags.toNat : Int)] = W1 at *; obtain ⟨Q1, Q2, Q3, Q4, Q5⟩ := eset (⟨A.key, joinF A.val B.val⟩ : En) p' m' (g := w.heap.size + 1 + 1) (B := w.heap.size) (by omega) J.out.hb J.out.r.cells rfl K4.out.2.1 K4.out.2.2 (NP.out.ne (by omega)) (NM.out.ne (by omega)); have ka0 := J.out.a.cells.2 0 _ rfl; have kg0 := K4.out.1.2 0 _ rfl; have kg1 := K4.out.1.2 1 _ rfl; have kg2 := K4.out.1.2 2 _ rfl; have kg3 := K4.out.1.2 3 _ rfl; have kg4 := K4.out.1.2 4 _ rfl; have kg5 := K4.out.1.2 5 _ rfl; have kg6 := K4.out.1.2 6 _ rfl; have kg7 := K4.out.1.2 7 _ rfl) | (have hz1 := Q5; refine wpList_storeN 27 rfl (.tmp 4) (.tmp 52) rfl (w.heap.size + 1 + 1) [.string ⟨A.key.toArray⟩, .int .i64 (joinF A.val B.val).kind, .int .i64 (joinF A.val B.val).time, .int .i64 (joinF A.val B.val).node, .bool (joinF A.val B.val).dead, .string ⟨(joinF A.val B.val).text.toArray⟩, p', m', .int .u64 ((joinF A.val B.val).flags.toNat : Int)] size_en rfl rfl J.out.r.cells rfl J.out.r.free Q5.out ?_; clear hz1 Q5))
          have e0 : nameB A B = true := by unfold nameB; simp [HK.out, HY.out]
          have e1 : joinEE A B = 0 := by unfold joinEE; rw [P1.out, P2.out, e0]; rfl
          have e3 : joinE A.val B.val = 0 := by
            have h1 := P1.out; have h2 := P2.out; unfold okE at h1 h2; rw [Bool.and_eq_true] at h1 h2; unfold joinE; rw [h1.2, h2.2, Bool.and_self, if_pos rfl, if_pos HK.out]
          have e2 : joinEF A B = ⟨A.key, joinF A.val B.val⟩ := by unfold joinEF joinF; rw [if_pos e1, if_pos e3]
          rw [e1, e2]
          exact bodyPost_ret (resultsN2 rfl _ _ (w.heap.size + 1 + 1) _ (.int .i64 0) size_en agg_en rfl rfl Q2.out) rfl ⟨_, rfl, ⟨p', m', rfl, Q3.out, Q4.out, NP.out.low (by omega), NM.out.low (by omega)⟩, Q1.out⟩
end Go.Proofs.Ytebjljiklacolaa
