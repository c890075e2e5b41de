/- Contracts of the reader: a register, a row, a counter, flags. -/
import Derived.Test.YtebjljiklacolaaEnBlk
namespace Go.Proofs.Ytebjljiklacolaa
open Go.RowKit
set_option linter.unusedVariables false
set_option linter.unusedSimpArgs false
attribute [local irreducible] setN

/-- Behind a call of the reader. -/
theorem step3 {w W W' : World} {g r v : Nat} {x y : Value} {cr cv : List Value} (HW : Kept (Wr g x w W)) (HR : Kept (Blk W r cr)) (HV : Kept (Blk W v cv)) (h : Wr g y W W') (hr : r ≠ g) (hv : v ≠ g) : Kept (Wr g y w W') ∧ Kept (Blk W' r cr) ∧ Kept (Blk W' v cv) :=
  ⟨⟨HW.out.trans h⟩, ⟨HR.out.wr h hr⟩, ⟨HV.out.wr h hv⟩⟩
/-- Behind a store into the variable. -/
theorem set3 {w W : World} {g r v : Nat} {x : Value} {cr cv : List Value} (HW : Kept (Wr g x w W)) (HR : Kept (Blk W r cr)) (HV : Kept (Blk W v cv)) (k : Nat) (y : Value) (hk : k < cv.length) (hw : w.heap.size ≤ v) (hr : r ≠ v) (hv : v ≠ g) : Kept (Wr g x w (W.setCell ⟨v, k, none⟩ y)) ∧ Kept (Blk (W.setCell ⟨v, k, none⟩ y) r cr) ∧ Kept (Blk (W.setCell ⟨v, k, none⟩ y) v (cv.set k y)) :=
  ⟨⟨HW.out.setCell_new hw hv k y⟩, ⟨HR.out.apart hr k y⟩, ⟨HV.out.set k y hk⟩⟩
/-- A result's block and a variable's, in which a literal is laid down. -/
theorem lay3 (w : World) (g : Nat) (x : Value) (h : At w g x) (l : List Value) (hl : l.length = 8) (n m : Nat) (hn : n = w.heap.size) (hm : m = w.heap.size + 1) :
    Kept (Blk ((w.alloc (.cells #[.int .i64 0, .int .i64 0, .int .i64 0, .bool false, .string ⟨#[]⟩, .slice none 0 0, .slice none 0 0, .int .u64 0] 25)).alloc (.cells #[.int .i64 0, .int .i64 0, .int .i64 0, .bool false, .string ⟨#[]⟩, .slice none 0 0, .slice none 0 0, .int .u64 0] 25)) m [.int .i64 0, .int .i64 0, .int .i64 0, .bool false, .string ⟨#[]⟩, .slice none 0 0, .slice none 0 0, .int .u64 0]) ∧ Kept (Wr g x w (setN ((w.alloc (.cells #[.int .i64 0, .int .i64 0, .int .i64 0, .bool false, .string ⟨#[]⟩, .slice none 0 0, .slice none 0 0, .int .u64 0] 25)).alloc (.cells #[.int .i64 0, .int .i64 0, .int .i64 0, .bool false, .string ⟨#[]⟩, .slice none 0 0, .slice none 0 0, .int .u64 0] 25)) m 0 l)) ∧ Kept (Blk (setN ((w.alloc (.cells #[.int .i64 0, .int .i64 0, .int .i64 0, .bool false, .string ⟨#[]⟩, .slice none 0 0, .slice none 0 0, .int .u64 0] 25)).alloc (.cells #[.int .i64 0, .int .i64 0, .int .i64 0, .bool false, .string ⟨#[]⟩, .slice none 0 0, .slice none 0 0, .int .u64 0] 25)) m 0 l) n [.int .i64 0, .int .i64 0, .int .i64 0, .bool false, .string ⟨#[]⟩, .slice none 0 0, .slice none 0 0, .int .u64 0]) ∧ Kept (Blk (setN ((w.alloc (.cells #[.int .i64 0, .int .i64 0, .int .i64 0, .bool false, .string ⟨#[]⟩, .slice none 0 0, .slice none 0 0, .int .u64 0] 25)).alloc (.cells #[.int .i64 0, .int .i64 0, .int .i64 0, .bool false, .string ⟨#[]⟩, .slice none 0 0, .slice none 0 0, .int .u64 0] 25)) m 0 l) m l) := by
  subst hn hm
  have hg := h.lt
  have b1 := Blk.new w 25 [.int .i64 0, .int .i64 0, .int .i64 0, .bool false, .string ⟨#[]⟩, .slice none 0 0, .slice none 0 0, .int .u64 0] w.heap.size rfl
  have b2 := Blk.new (w.alloc (.cells #[.int .i64 0, .int .i64 0, .int .i64 0, .bool false, .string ⟨#[]⟩, .slice none 0 0, .slice none 0 0, .int .u64 0] 25)) 25 [.int .i64 0, .int .i64 0, .int .i64 0, .bool false, .string ⟨#[]⟩, .slice none 0 0, .slice none 0 0, .int .u64 0] (w.heap.size + 1) (by simp)
  exact ⟨⟨b2⟩, ⟨Wr.setN_new (by omega) (by omega) l 0 _ (((Wr.refl h).alloc _).alloc _)⟩, ⟨(b1.alloc _).apartN (by omega) 0 l⟩, ⟨b2.all_ hl.symm⟩⟩
set_option maxRecDepth 100000 in
set_option maxHeartbeats 2000000 in
theorem rreg_any (g : Nat) (l : List UInt8) (w : World) (h : At w g (txt l)) (hl : 32 ≤ l.length) (hl2 : l.length ≤ 1000) :
    Calls Try.prog 44 #[ptr g] w fun e w' => (regOk l ∧ (∃ v', e = .returned v' ∧ isVaN w.heap.size (regV l) v' w') ∧ Wr g (txt (regR l)) w w') ∨ (¬ regOk l ∧ e = Gave ∧ ∃ x, Wr g x w w') := by
  obtain ⟨K1, HW, HR, HV⟩ := lay3 w g (txt l) h [.int .i64 1, .int .i64 0, .int .i64 0, .bool false, .string ⟨#[]⟩, .slice none 0 0, .slice none 0 0, .int .u64 0] rfl w.heap.size (w.heap.size + 1) rfl rfl
  have hg := h.lt
  have K5 : Kept (Ones [.int .i64 1, .int .i64 0, .int .i64 0, .bool false, .string ⟨#[]⟩, .slice none 0 0, .slice none 0 0, .int .u64 0]) := ⟨⟨rfl, rfl, rfl, rfl, rfl, rfl, rfl, rfl, trivial⟩⟩
  go_enter Try.func44, Try.ntmps44
  go_wp2_with (refine wpList_storeN 25 rfl (.tmp 3) (.tmp 6) rfl (w.heap.size + 1) [.int .i64 1, .int .i64 0, .int .i64 0, .bool false, .string ⟨#[]⟩, .slice none 0 0, .slice none 0 0, .int .u64 0] size_va rfl rfl K1.out.cells rfl K1.out.free K5.out ?_)
  generalize setN ((w.alloc (.cells #[.int .i64 0, .int .i64 0, .int .i64 0, .bool false, .string ⟨#[]⟩, .slice none 0 0, .slice none 0 0, .int .u64 0] 25)).alloc (.cells #[.int .i64 0, .int .i64 0, .int .i64 0, .bool false, .string ⟨#[]⟩, .slice none 0 0, .slice none 0 0, .int .u64 0] 25)) (w.heap.size + 1) 0 [.int .i64 1, .int .i64 0, .int .i64 0, .bool false, .string ⟨#[]⟩, .slice none 0 0, .slice none 0 0, .int .u64 0] = W1 at *
  clear K1 K5
  refine (rnumber_any g l 4 W1 HW.out.at_ (by omega) (by omega) (by omega) (by first | omega | (simp only [List.length_drop]; omega))).mono ?_
  rintro e W2 ⟨rfl, hw⟩
  replace ⟨HW, HR, HV⟩ := step3 HW HR HV hw (by omega) (by omega)
  clear hw
  generalize hT : getN (l.take 4) = tm
  have HT := Kept.mk hT
  clear hT
  have c1 := HV.out.cells.2 1 _ rfl
  have f1 := HV.out.free 1
  go_wp2_with fail
  clear c1 f1
  replace ⟨HW, HR, HV⟩ := set3 HW HR HV 1 (.int .i64 (tm : Int)) (by simp) (by omega) (by omega) (by omega)
  generalize W2.setCell ⟨w.heap.size + 1, 1, none⟩ (.int .i64 (tm : Int)) = W3 at *
  refine (rnumber_any g (l.drop 4) 1 W3 HW.out.at_ (by omega) (by omega) (by first | omega | (simp only [List.length_drop]; omega)) (by first | omega | (simp only [List.length_drop]; omega))).mono ?_
  rintro e W4 ⟨rfl, hw⟩
  replace ⟨HW, HR, HV⟩ := step3 HW HR HV hw (by omega) (by omega)
  clear hw
  generalize hN : getN ((l.drop 4).take 1) = nd
  have HN := Kept.mk hN
  clear hN
  have c2 := HV.out.cells.2 2 _ rfl
  have f2 := HV.out.free 2
  go_wp2_with fail
  clear c2 f2
  replace ⟨HW, HR, HV⟩ := set3 HW HR HV 2 (.int .i64 (nd : Int)) (by simp) (by omega) (by omega) (by omega)
  generalize W4.setCell ⟨w.heap.size + 1, 2, none⟩ (.int .i64 (nd : Int)) = W5 at *
  refine (rnumber_any g ((l.drop 4).drop 1) 1 W5 HW.out.at_ (by omega) (by omega) (by first | omega | (simp only [List.length_drop]; omega)) (by first | omega | (simp only [List.length_drop]; omega))).mono ?_
  rintro e W6 ⟨rfl, hw⟩
  replace ⟨HW, HR, HV⟩ := step3 HW HR HV hw (by omega) (by omega)
  clear hw
  generalize hD : getN (((l.drop 4).drop 1).take 1) = dd
  have HD := Kept.mk hD
  clear hD
  go_wp2_with fail
  by_cases hd1 : (dd : Int) ≤ 1
  · refine (insist_yes _ (by first | rfl | simpa using hd1) _).mono ?_
    rintro e w9 ⟨rfl, rfl⟩
    have HD1 := Kept.mk hd1
    clear hd1
    have c3 := HV.out.cells.2 3 _ rfl
    have f3 := HV.out.free 3
    go_wp2_with fail
    clear c3 f3
    generalize hQ : ((dd : Int) == 1) = qd
    have HQ := Kept.mk hQ
    clear hQ
    replace ⟨HW, HR, HV⟩ := set3 HW HR HV 3 (.bool qd) (by simp) (by omega) (by omega) (by omega)
    generalize W6.setCell ⟨w.heap.size + 1, 3, none⟩ (.bool qd) = W7 at *
    refine (rnumber_any g (((l.drop 4).drop 1).drop 1) 1 W7 HW.out.at_ (by omega) (by omega) (by first | omega | (simp only [List.length_drop]; omega)) (by first | omega | (simp only [List.length_drop]; omega))).mono ?_
    rintro e W8 ⟨rfl, hw⟩
    replace ⟨HW, HR, HV⟩ := step3 HW HR HV hw (by omega) (by omega)
    clear hw
    have hz : getN ((((l.drop 4).drop 1).drop 1).take 1) < 256 := by have := getN_lt ((((l.drop 4).drop 1).drop 1).take 1); rw [List.length_take, Nat.min_eq_left (by first | omega | (simp only [List.length_drop]; omega))] at this; exact this
    generalize hZ : getN ((((l.drop 4).drop 1).drop 1).take 1) = z at hz ⊢
    have HZ := Kept.mk hZ
    clear hZ
    go_wp2_with fail
    refine (padded_any g ((((l.drop 4).drop 1).drop 1).drop 1) z W8 HW.out.at_ (by first | omega | (simp only [List.length_drop]; omega)) (by first | omega | (simp only [List.length_drop]; omega)) (by omega)).mono ?_
    rintro e W9 (⟨hp, rfl, hw⟩ | ⟨hp, rfl, x, hw⟩)
    · replace ⟨HW, HR, HV⟩ := step3 HW HR HV hw (by omega) (by omega)
      clear hw
      have HP := Kept.mk hp
      clear hp
      generalize hX : ((((l.drop 4).drop 1).drop 1).drop 1).take z = tx
      have HX := Kept.mk hX
      clear hX
      have c0 : W9.cell? ⟨w.heap.size + 1, 0, none⟩ = some (.int .i64 1) := HV.out.cells.2 0 _ rfl
      have c1 : W9.cell? ⟨w.heap.size + 1, 1, none⟩ = some (.int .i64 (tm : Int)) := HV.out.cells.2 1 _ rfl
      have c2 : W9.cell? ⟨w.heap.size + 1, 2, none⟩ = some (.int .i64 (nd : Int)) := HV.out.cells.2 2 _ rfl
      have c3 : W9.cell? ⟨w.heap.size + 1, 3, none⟩ = some (.bool qd) := HV.out.cells.2 3 _ rfl
      have c4 : W9.cell? ⟨w.heap.size + 1, 4, none⟩ = some (.string ⟨#[]⟩) := HV.out.cells.2 4 _ rfl
      have c5 : W9.cell? ⟨w.heap.size + 1, 5, none⟩ = some (.slice none 0 0) := HV.out.cells.2 5 _ rfl
      have c6 : W9.cell? ⟨w.heap.size + 1, 6, none⟩ = some (.slice none 0 0) := HV.out.cells.2 6 _ rfl
      have c7 : W9.cell? ⟨w.heap.size + 1, 7, none⟩ = some (.int .u64 0) := HV.out.cells.2 7 _ rfl
      have f4 := HV.out.free 4
      have K5 : Kept (Ones [.int .i64 1, .int .i64 (tm : Int), .int .i64 (nd : Int), .bool qd, .string ⟨tx.toArray⟩, .slice none 0 0, .slice none 0 0, .int .u64 0]) := ⟨⟨rfl, rfl, rfl, rfl, rfl, rfl, rfl, rfl, trivial⟩⟩
      replace ⟨HW, HR, HV⟩ := set3 HW HR HV 4 (.string ⟨tx.toArray⟩) (by simp) (by omega) (by omega) (by omega)
      have HE := Kept.mk (Wr.setN_new (Nat.le_refl _) (by omega) [.int .i64 1, .int .i64 (tm : Int), .int .i64 (nd : Int), .bool qd, .string ⟨tx.toArray⟩, .slice none 0 0, .slice none 0 0, .int .u64 0] 0 _ HW.out)
      have HC := Kept.mk (HR.out.all_ (l := [.int .i64 1, .int .i64 (tm : Int), .int .i64 (nd : Int), .bool qd, .string ⟨tx.toArray⟩, .slice none 0 0, .slice none 0 0, .int .u64 0]) rfl).cells
      clear HV HW
      go_wp2_with (refine wpList_storeN 25 rfl (.tmp 2) (.tmp 27) rfl w.heap.size [.int .i64 1, .int .i64 (tm : Int), .int .i64 (nd : Int), .bool qd, .string ⟨tx.toArray⟩, .slice none 0 0, .slice none 0 0, .int .u64 0] size_va rfl rfl HR.out.cells rfl HR.out.free K5.out ?_)
      have ev : regV l = ⟨1, (tm : Int), (nd : Int), qd, tx, [], [], 0⟩ := by
        unfold regV
        rw [HT.out, HN.out, HD.out, HZ.out, HX.out, ← HQ.out]
        congr 1
        rw [Bool.eq_iff_iff]; simp; omega
      rw [ev]
      refine bodyPost_ret (resultsN1 rfl _ _ w.heap.size _ size_va agg_va rfl HC.out) rfl (.inl ⟨⟨by rw [HD.out]; have := HD1.out; omega, by unfold regZ regS; rw [HZ.out]; exact HP.out⟩, ⟨_, rfl, .slice none 0 0, .slice none 0 0, rfl, .inl ⟨rfl, rfl⟩, .inl ⟨rfl, rfl⟩, newB_nil _, newB_nil _⟩, ?_⟩)
      unfold regR regZ regS
      rw [HZ.out]
      exact HE.out
    · replace ⟨HW, HR, HV⟩ := step3 HW HR HV hw (by omega) (by omega)
      clear hw
      have HP := Kept.mk hp
      clear hp
      go_wp2
      exact ⟨rfl, .inr ⟨fun k => HP.out (by have := k.2; unfold regZ regS at this; rwa [HZ.out] at this), rfl, _, HW.out⟩⟩
  · refine (insist_no _ (by first | rfl | simpa using hd1) _).mono ?_
    rintro e w9 ⟨rfl, rfl⟩
    go_wp2
    exact ⟨rfl, .inr ⟨fun k => by have := k.1; rw [HD.out] at this; omega, rfl, _, HW.out⟩⟩
end Go.Proofs.Ytebjljiklacolaa
