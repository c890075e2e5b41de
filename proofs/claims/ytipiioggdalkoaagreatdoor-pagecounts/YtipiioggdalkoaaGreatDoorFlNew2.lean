/- Contract of flash.New. -/
import Derived.Test.YtipiioggdalkoaaGreatDoorFlNew
namespace Go.Proofs.YtipiioggdalkoaaGreatDoor
open Go.RowKit
set_option linter.unusedVariables false
set_option linter.unusedSimpArgs false
attribute [local irreducible] set5

def newB (n m : Int) : Bool := decide (1 ≤ n) && decide (n ≤ 6) && (decide (1 ≤ m) && decide (m ≤ 8192))
def newF (n m : Int) : Fl := if newB n m = true then ⟨List.replicate n.toNat (List.replicate m.toNat 255), List.replicate n.toNat 0, -1, [], false⟩ else ⟨[], [], 0, [], false⟩
def newE (n m : Int) : Int := if newB n m = true then 0 else 1
theorem Tryz.infoInt : (Tryz.prog.info? 3).map (fun i => (i.zero, i.size, i.bytes)) = some (some (.int .i64 0), 1, 8) := by kernel_rfl
set_option maxRecDepth 100000 in
set_option maxHeartbeats 2000000 in
theorem new_no1 (n m : Int) (w : World) (h : (decide (1 ≤ n) && decide (n ≤ 6)) = false) :
    Calls Tryz.prog 31 #[.int .i64 n, .int .i64 m] w fun e w' => ∃ v', e = .returned (.tuple #[v', .int .i64 1]) ∧ isFlN w.heap.size ⟨[], [], 0, [], false⟩ v' w' ∧ Below w.heap.size w w' := by
  have HH := Kept.mk h
  clear h
  have hb0 : Below w.heap.size w (w.alloc (.cells #[.slice none 0 0, .slice none 0 0, .int .i64 0, .string ⟨#[]⟩, .bool false] 31)) := (Below.refl _ _).alloc (Nat.le_refl _) _
  have hc := cells5_new w 31 (.slice none 0 0) (.slice none 0 0) (.int .i64 0) (.string ⟨#[]⟩) (.bool false)
  have HC := Kept.mk hc
  have HF := Kept.mk (free5_new w #[.slice none 0 0, .slice none 0 0, .int .i64 0, .string ⟨#[]⟩, .bool false] 31)
  have HR := Kept.mk (hc.set5_ (.slice none 0 0) (.slice none 0 0) (.int .i64 0) (.string ⟨#[]⟩) (.bool false))
  have HB := Kept.mk (below_set5 hb0 (Nat.le_refl _) (.slice none 0 0) (.slice none 0 0) (.int .i64 0) (.string ⟨#[]⟩) (.bool false))
  clear hb0 hc
  go_enter Tryz.func31, Tryz.ntmps31
  go_wp2_with fail
  refine (isPages_any n _).mono ?_
  rintro e w1 ⟨rfl, rfl⟩
  rewrite [HH.out]
  go_wp2_with (refine wpList_store5 rfl (.tmp 4) (.tmp 15) rfl w.heap.size (.slice none 0 0) (.slice none 0 0) (.int .i64 0) (.string ⟨#[]⟩) (.bool false) rfl rfl HC.out HF.out rfl rfl rfl rfl rfl ?_)
  exact bodyPost_ret (results2 rfl _ _ w.heap.size _ _ _ _ _ (.int .i64 1) rfl rfl HR.out) rfl ⟨_, rfl, ⟨_, _, rfl, .inl ⟨rfl, rfl⟩, .inl ⟨rfl, rfl⟩⟩, HB.out⟩
set_option maxRecDepth 100000 in
set_option maxHeartbeats 2000000 in
theorem new_no2 (n m : Int) (w : World) (h : (decide (1 ≤ n) && decide (n ≤ 6)) = true) (h2 : (decide (1 ≤ m) && decide (m ≤ 8192)) = false) :
    Calls Tryz.prog 31 #[.int .i64 n, .int .i64 m] w fun e w' => ∃ v', e = .returned (.tuple #[v', .int .i64 1]) ∧ isFlN w.heap.size ⟨[], [], 0, [], false⟩ v' w' ∧ Below w.heap.size w w' := by
  have HH := Kept.mk h
  have HH2 := Kept.mk h2
  clear h h2
  have hb0 : Below w.heap.size w (w.alloc (.cells #[.slice none 0 0, .slice none 0 0, .int .i64 0, .string ⟨#[]⟩, .bool false] 31)) := (Below.refl _ _).alloc (Nat.le_refl _) _
  have hc := cells5_new w 31 (.slice none 0 0) (.slice none 0 0) (.int .i64 0) (.string ⟨#[]⟩) (.bool false)
  have HC := Kept.mk hc
  have HF := Kept.mk (free5_new w #[.slice none 0 0, .slice none 0 0, .int .i64 0, .string ⟨#[]⟩, .bool false] 31)
  have HR := Kept.mk (hc.set5_ (.slice none 0 0) (.slice none 0 0) (.int .i64 0) (.string ⟨#[]⟩) (.bool false))
  have HB := Kept.mk (below_set5 hb0 (Nat.le_refl _) (.slice none 0 0) (.slice none 0 0) (.int .i64 0) (.string ⟨#[]⟩) (.bool false))
  clear hb0 hc
  go_enter Tryz.func31, Tryz.ntmps31
  go_wp2_with fail
  refine (isPages_any n _).mono ?_
  rintro e w1 ⟨rfl, rfl⟩
  rewrite [HH.out]
  go_wp2_with fail
  refine (isSize_any m _).mono ?_
  rintro e w1 ⟨rfl, rfl⟩
  rewrite [HH2.out]
  go_wp2_with (refine wpList_store5 rfl (.tmp 4) (.tmp 15) rfl w.heap.size (.slice none 0 0) (.slice none 0 0) (.int .i64 0) (.string ⟨#[]⟩) (.bool false) rfl rfl HC.out HF.out rfl rfl rfl rfl rfl ?_)
  exact bodyPost_ret (results2 rfl _ _ w.heap.size _ _ _ _ _ (.int .i64 1) rfl rfl HR.out) rfl ⟨_, rfl, ⟨_, _, rfl, .inl ⟨rfl, rfl⟩, .inl ⟨rfl, rfl⟩⟩, HB.out⟩

set_option maxRecDepth 100000 in
set_option maxHeartbeats 2000000 in
theorem new_yes (n m : Nat) (w : World) (h1 : 1 ≤ n) (h6 : n ≤ 6) (h2 : 1 ≤ m) (h3 : m ≤ 8192) :
    Calls Tryz.prog 31 #[.int .i64 (n : Int), .int .i64 (m : Int)] w fun e w' => ∃ v', e = .returned (.tuple #[v', .int .i64 0]) ∧ isFlN w.heap.size ⟨List.replicate n (List.replicate m 255), List.replicate n 0, -1, [], false⟩ v' w' ∧ Below w.heap.size w w' := by
  have HH := Kept.mk (show (decide (1 ≤ (n : Int)) && decide ((n : Int) ≤ 6)) = true by simp; omega)
  have HH2 := Kept.mk (show (decide (1 ≤ (m : Int)) && decide ((m : Int) ≤ 8192)) = true by simp; omega)
  have HO := Kept.mk (show onesL (m : Int) = List.replicate m 255 by unfold onesL; rw [if_pos (by omega), Int.toNat_natCast])
  have hmk := fun W => run_make_row' (P := Tryz.prog) 29 3 (.int .i64 0) 8 Tryz.underlying29 Tryz.infoInt rfl .i64 .i64 n (by omega) (by omega) W
  have hb0 : Below w.heap.size w (w.alloc (.cells #[.slice none 0 0, .slice none 0 0, .int .i64 0, .string ⟨#[]⟩, .bool false] 31)) := (Below.refl _ _).alloc (Nat.le_refl _) _
  have HB0 := Kept.mk hb0
  have HC := Kept.mk (cells5_new w 31 (.slice none 0 0) (.slice none 0 0) (.int .i64 0) (.string ⟨#[]⟩) (.bool false))
  have HF := Kept.mk (free5_new w #[.slice none 0 0, .slice none 0 0, .int .i64 0, .string ⟨#[]⟩, .bool false] 31)
  clear hb0
  go_enter Tryz.func31, Tryz.ntmps31
  go_wp2_with fail
  refine (isPages_any n _).mono ?_
  rintro e w1 ⟨rfl, rfl⟩
  rewrite [HH.out]
  go_wp2_with fail
  refine (isSize_any m _).mono ?_
  rintro e w1 ⟨rfl, rfl⟩
  rewrite [HH2.out]
  go_wp2_with fail
  refine (ones_any m _).mono ?_
  rintro e w2 ⟨rfl, hb2⟩
  rewrite [HO.out]
  have HB2 := Kept.mk hb2
  clear hb2
  obtain ⟨pg, hpg⟩ : ∃ pg, pg = List.replicate m (255 : UInt8) := ⟨_, rfl⟩
  rewrite [← hpg]
  have HPG := Kept.mk hpg
  clear hpg
  go_wp2_with fail
  refine (repeat_any pg n w2.heap.size _ h1 h6 (by simp) (by rw [World.cell?_alloc_new]; rfl)).mono ?_
  rintro e w3 ⟨vp', rfl, hp', hb3⟩
  obtain ⟨W4, hW4⟩ : ∃ W4, W4 = w3.alloc (.cells (madeCells #[Value.int .i64 0] n) 3) := ⟨_, rfl⟩
  have hb34 : Below w3.heap.size w3 W4 := by rw [hW4]; exact (Below.refl _ _).alloc (Nat.le_refl _) _
  have hbz : Below (w2.alloc (.cells #[Value.string ⟨pg.toArray⟩] 9)).heap.size (w2.alloc (.cells #[Value.string ⟨pg.toArray⟩] 9)) W4 := hb3.trans (hb34.mono hb3.size)
  have hbr := ((Below.refl w2.heap.size w2).alloc (Nat.le_refl _) (.cells #[Value.string ⟨pg.toArray⟩] 9)).trans (hbz.mono (by simp))
  have hbq := HB2.out.trans (hbr.mono HB2.out.size)
  have hs2 : w.heap.size < w2.heap.size := by have := HB2.out.size; simp at this; omega
  have hs3 : w2.heap.size < w3.heap.size := by have := hb3.size; simp at this; omega
  have hs4 : W4.heap.size = w3.heap.size + 1 := by rw [hW4]; simp
  have hrow : W4.heap[w3.heap.size]? = some (.cells (madeCells #[Value.int .i64 0] n) 3 (0, 0)) := by rw [hW4]; show (w3.heap.push _)[w3.heap.size]? = _; simp
  have hq' : isBtw (w.heap.size + 1) W4.heap.size 3 ((List.replicate n (0 : Int)).map intC) (.slice (some ⟨w3.heap.size, 0, none⟩) n n) W4 := by
    refine .inr ⟨w3.heap.size, n, _, by simp, by omega, by omega, hrow, by simp, by simp [size_madeCells], ?_⟩
    apply List.ext_getElem?
    intro j
    by_cases hj : j < n
    · rw [List.getElem?_take, if_pos (by simpa using hj), Array.getElem?_toList, madeCells_get _ _ _ hj]
      simp [hj, intC]
    · rw [List.getElem?_eq_none (by simp; omega), List.getElem?_eq_none (by simp; omega)]
  have hpp : isBtw (w.heap.size + 1) W4.heap.size 9 ((List.replicate n pg).map strC) vp' W4 := by
    rw [List.map_replicate]
    exact (hp'.grow hb34).weak (by simp; omega) (by omega)
  obtain ⟨gp, capp, _, hvp, _⟩ := hpp.some_ (by simp; omega)
  rw [List.length_map, List.length_replicate] at hvp
  subst hvp
  obtain ⟨K1, K2, K3, K4, K5⟩ := told (G := ⟨List.replicate n pg, List.replicate n 0, -1, [], false⟩) (B := w.heap.size + 1) (g := w.heap.size) (by omega) (by simp) HB0.out (Nat.le_refl _) HC.out HF.out hbq hpp hq'
  have oo1 := hpp.one
  clear hpp hq' hrow hbq hbr hbz hp' hb3 hb34 hs2 hs3 hs4
  subst hW4
  go_wp2_with (refine wpList_store5 rfl (.tmp 4) (.tmp 24) rfl w.heap.size (.slice (some ⟨gp, 0, none⟩) n capp) (.slice (some ⟨w3.heap.size, 0, none⟩) n n) (.int .i64 (-1)) (.string ⟨#[]⟩) (.bool false) rfl rfl K1.out K2.out rfl rfl rfl rfl rfl ?_)
  have K4' := K4.out
  rw [HPG.out] at K4'
  exact bodyPost_ret (results2 rfl _ _ w.heap.size _ _ _ _ _ (.int .i64 0) rfl rfl K3.out) rfl ⟨_, rfl, K4', K5.out⟩
theorem new_any (n m : Int) (w : World) :
    Calls Tryz.prog 31 #[.int .i64 n, .int .i64 m] w fun e w' => ∃ v', e = .returned (.tuple #[v', .int .i64 (newE n m)]) ∧ isFlN w.heap.size (newF n m) v' w' ∧ Below w.heap.size w w' := by
  cases h : (decide (1 ≤ n) && decide (n ≤ 6)) with
  | false =>
    have hb : newB n m = false := by unfold newB; rw [h]; rfl
    rw [show newE n m = 1 by simp [newE, hb], show newF n m = ⟨[], [], 0, [], false⟩ by simp [newF, hb]]
    exact new_no1 n m w h
  | true =>
    cases h2 : (decide (1 ≤ m) && decide (m ≤ 8192)) with
    | false =>
      have hb : newB n m = false := by unfold newB; rw [h, h2]; rfl
      rw [show newE n m = 1 by simp [newE, hb], show newF n m = ⟨[], [], 0, [], false⟩ by simp [newF, hb]]
      exact new_no2 n m w h h2
    | true =>
      have hb : newB n m = true := by unfold newB; rw [h, h2]; rfl
      simp only [Bool.and_eq_true, decide_eq_true_eq] at h h2
      obtain ⟨a, rfl⟩ := Int.eq_ofNat_of_zero_le (show 0 ≤ n by omega)
      obtain ⟨b, rfl⟩ := Int.eq_ofNat_of_zero_le (show 0 ≤ m by omega)
      rw [show newE a b = 0 by simp [newE, hb], show newF a b = ⟨List.replicate a (List.replicate b 255), List.replicate a 0, -1, [], false⟩ by simp [newF, hb]]
      exact new_yes a b w (by omega) (by omega) (by omega) (by omega)
end Go.Proofs.YtipiioggdalkoaaGreatDoor
