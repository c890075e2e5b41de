/- Contracts of the reader: a row of numbers. -/
import Derived.Test.YtebjljiklacolaaEnRead
import Derived.Test.YtebjljiklacolaaVaKinds
namespace Go.Proofs.Ytebjljiklacolaa
open Go.RowKit
set_option linter.unusedVariables false
set_option linter.unusedSimpArgs false
attribute [local irreducible] setN

theorem nums_snoc : ∀ (k : Nat) (l : List UInt8), numsOf (k + 1) l = numsOf k l ++ [(getN ((restOf k l).take 2) : Int)]
  | 0, l => rfl
  | k + 1, l => by
    rw [numsOf, nums_snoc k (l.drop 2), numsOf, restOf, List.cons_append]
theorem rest_snoc : ∀ (k : Nat) (l : List UInt8), restOf (k + 1) l = (restOf k l).drop 2
  | 0, l => rfl
  | k + 1, l => by
    rw [restOf, rest_snoc k (l.drop 2), restOf]
theorem flags_or (lo hi : Nat) (h1 : lo < 4294967296) (h2 : hi < 4294967296) : bits .or .u64 (lo : Int) ((hi : Int) * 4294967296) = ((UInt64.ofNat (lo + 4294967296 * hi)).toNat : Int) := by
  have e : (hi : Int) * 4294967296 = ((4294967296 * hi : Nat) : Int) := by omega
  have e2 : 4294967296 * hi ||| lo = 4294967296 * hi + lo := (Nat.two_pow_add_eq_or_of_lt (i := 32) h1 hi).symm
  rw [e, u64_or_nat _ _ (by omega) (by omega), Nat.or_comm, e2, UInt64.toNat_ofNat', Nat.mod_eq_of_lt (by omega)]
  congr 1
  omega
def rowL (k : Nat) (l : List UInt8) : List Value := (numsOf k l).map intC ++ List.replicate (8 - k) (intC 0)
theorem rowL_len (k : Nat) (l : List UInt8) (h : k ≤ 8) : (rowL k l).length = 8 := by
  simp only [rowL, List.length_append, List.length_map, length_numsOf, List.length_replicate]; omega
theorem rowL_set (k : Nat) (l : List UInt8) (h : k < 8) : (rowL k l).set k (intC (getN ((restOf k l).take 2) : Int)) = rowL (k + 1) l := by
  unfold rowL
  rw [nums_snoc, List.map_append, show 8 - k = (8 - (k + 1)) + 1 by omega, List.replicate_succ, List.set_append_right _ _ (by simp [length_numsOf])]
  simp [length_numsOf]
theorem rowL_at (k : Nat) (l : List UInt8) (h : k < 8) : (rowL k l)[k]? = some (intC 0) := by
  unfold rowL
  rw [List.getElem?_append_right (by simp [length_numsOf])]
  rw [List.length_map, length_numsOf, Nat.sub_self, List.getElem?_replicate, if_pos (by omega)]
theorem rowL_zero (l : List UInt8) : (rowL 0 l).toArray = madeCells #[Value.int .i64 0] 8 := by
  apply Array.ext'
  simp [rowL, numsOf, madeCells, intC, List.replicate]
  rfl
theorem rowL_all (l : List UInt8) : rowL 8 l = (numsOf 8 l).map intC := by simp [rowL]
set_option maxRecDepth 100000 in
set_option maxHeartbeats 2000000 in
theorem rrow_any (g : Nat) (l : List UInt8) (w : World) (h : At w g (txt l)) (hl : 16 ≤ l.length) (hl2 : l.length ≤ 1000) :
    Calls Try.prog 54 #[ptr g] w fun e w' => ∃ v', e = .returned v' ∧ isCells ((numsOf 8 l).map intC) v' w' ∧ NewB w.heap.size v' ∧ Wr g (txt (restOf 8 l)) w w' := by
  have hg := h.lt
  have hmk : ∀ W : World, (Instr.makeSlice 22 (.int .i64 8) (.int .i64 8)).run Try.prog W = .ok (.slice (some ⟨W.heap.size, 0, none⟩) 8 8) (W.alloc (.cells (madeCells #[Value.int .i64 0] 8) 3)) := fun W => run_make_row' (P := Try.prog) 22 3 (.int .i64 0) 8 Try.underlying22 Try.infoInt rfl .i64 .i64 8 (by omega) (by omega) W
  have HW := Kept.mk ((Wr.refl h).alloc (.cells (madeCells #[Value.int .i64 0] 8) 3))
  have HR := Kept.mk (show Blk (w.alloc (.cells (madeCells #[Value.int .i64 0] 8) 3)) w.heap.size (rowL 0 l) by rw [← rowL_zero l]; exact Blk.new w 3 (rowL 0 l) w.heap.size rfl)
  go_enter Try.func54, Try.ntmps54
  go_wp2
  clear hmk
  generalize w.alloc (.cells (madeCells #[Value.int .i64 0] 8) 3) = w0 at *
  go_loopw [8] (fun i wr => ∃ k : Nat, k ≤ 8 ∧ i = .int .i64 (k : Int) ∧ Kept (Wr g (txt (restOf k l)) w wr) ∧ Kept (Blk wr w.heap.size (rowL k l))) (fun i _ => 8 - (intOf i).toNat)
  case atStart => exact ⟨0, by omega, rfl, HW, HR⟩
  case round =>
    clear HW HR
    obtain ⟨k, hk, rfl, HW, HR⟩ := hrel
    have hrl := length_rest k l
    by_cases hlt : k < 8
    · have d1 : decide ((k : Int) < 8) = true := by simp; omega
      go_wp2_with fail
      refine (rnumber_any g (restOf k l) 2 _ HW.out.at_ (by omega) (by omega) (by omega) (by omega)).mono ?_
      rintro e w2 ⟨rfl, hw⟩
      replace HW := Kept.mk (HW.out.trans hw)
      replace HR := Kept.mk (HR.out.wr hw (by omega))
      have HT := Kept.mk (rowL_set k l hlt)
      generalize getN ((restOf k l).take 2) = x at *
      have hcell : w2.cell? ⟨w.heap.size, k, none⟩ = some (.int .i64 0) := HR.out.cells.2 k _ (rowL_at k l hlt)
      have hfz := HR.out.free k
      have HR3 := Kept.mk (HR.out.set k (.int .i64 (x : Int)) (by rw [rowL_len k l hk]; omega))
      have HW3 := Kept.mk (HW.out.setCell_new (Nat.le_refl _) (by omega) k (.int .i64 (x : Int)))
      clear hw HR HW
      go_wp2
      go_roundw
      case rel => exact ⟨k + 1, by omega, by go_num, ⟨by rw [rest_snoc]; exact HW3.out⟩, ⟨by rw [← HT.out]; exact HR3.out⟩⟩
      case measure => simp [intOf]; omega
    · have d1 : decide ((k : Int) < 8) = false := by simp; omega
      obtain rfl : k = 8 := by omega
      go_wp2
      go_ret
      refine ⟨_, rfl, ?_, newB_row (Nat.le_refl _) _ _ _, HW.out⟩
      have e : (rowL 8 l).length = 8 := rowL_len 8 l (by omega)
      have hr := HR.out
      rw [← rowL_all]
      have := (show isCells (rowL 8 l) (.slice (some ⟨w.heap.size, 0, none⟩) (rowL 8 l).length 8) _ from .inr (.inr ⟨w.heap.size, 0, 8, rfl, hr.lt, fun j x hx => by rw [Nat.zero_add]; exact hr.cells.2 j x hx⟩))
      rwa [e] at this
set_option maxRecDepth 100000 in
set_option maxHeartbeats 2000000 in
theorem rcount_any (g : Nat) (l : List UInt8) (w : World) (h : At w g (txt l)) (hl : 32 ≤ l.length) (hl2 : l.length ≤ 1000) :
    Calls Try.prog 45 #[ptr g] w fun e w' => ∃ v', e = .returned v' ∧ isVaN w.heap.size (countV l) v' w' ∧ Wr g (txt (restOf 8 (restOf 8 l))) w w' := by
  obtain ⟨K1, HW, HR, HV⟩ := lay3 w g (txt l) h [.int .i64 2, .int .i64 0, .int .i64 0, .bool false, .string ⟨#[]⟩, .slice none 0 0, .slice none 0 0, .int .u64 0] rfl w.heap.size (w.heap.size + 1) rfl rfl
  have hg := h.lt
  have K5 : Kept (Ones [.int .i64 2, .int .i64 0, .int .i64 0, .bool false, .string ⟨#[]⟩, .slice none 0 0, .slice none 0 0, .int .u64 0]) := ⟨⟨rfl, rfl, rfl, rfl, rfl, rfl, rfl, rfl, trivial⟩⟩
  go_enter Try.func45, Try.ntmps45
  go_wp2_with (refine wpList_storeN 25 rfl (.tmp 3) (.tmp 4) rfl (w.heap.size + 1) [.int .i64 2, .int .i64 0, .int .i64 0, .bool false, .string ⟨#[]⟩, .slice none 0 0, .slice none 0 0, .int .u64 0] size_va rfl rfl K1.out.cells rfl K1.out.free K5.out ?_)
  generalize setN ((w.alloc (.cells #[.int .i64 0, .int .i64 0, .int .i64 0, .bool false, .string ⟨#[]⟩, .slice none 0 0, .slice none 0 0, .int .u64 0] 25)).alloc (.cells #[.int .i64 0, .int .i64 0, .int .i64 0, .bool false, .string ⟨#[]⟩, .slice none 0 0, .slice none 0 0, .int .u64 0] 25)) (w.heap.size + 1) 0 [.int .i64 2, .int .i64 0, .int .i64 0, .bool false, .string ⟨#[]⟩, .slice none 0 0, .slice none 0 0, .int .u64 0] = W1 at *
  clear K1 K5
  have hv1 : w.heap.size + 1 < W1.heap.size := HV.out.lt
  refine (rrow_any g l W1 HW.out.at_ (by omega) hl2).mono ?_
  rintro e W2 ⟨vp, rfl, hp, np, hw⟩
  replace ⟨HW, HR, HV⟩ := step3 HW HR HV hw (by omega) (by omega)
  have lp : ((numsOf 8 l).map intC).length = 8 := by rw [List.length_map, length_numsOf]
  obtain ⟨ap, kp, rfl⟩ := hp.len
  rw [lp] at hp np ⊢
  have HP := Kept.mk hp
  have NP := Kept.mk np
  clear hw hp np lp
  have c5 : W2.cell? ⟨w.heap.size + 1, 5, none⟩ = some (.slice none 0 0) := HV.out.cells.2 5 _ rfl
  have f5 := HV.out.free 5
  go_wp2_with fail
  clear c5 f5
  have hW2 := HW.out.size
  have hV2 := HV.out.lt
  have HP2 := Kept.mk (HP.out.setCell_apart (w.heap.size + 1) 5 (.slice ap 8 kp) (NP.out.ne (by omega)))
  replace ⟨HW, HR, HV⟩ := set3 HW HR HV 5 (.slice ap 8 kp) (by simp) (by omega) (by omega) (by omega)
  generalize W2.setCell ⟨w.heap.size + 1, 5, none⟩ (.slice ap 8 kp) = W3 at *
  clear HP
  have hr8 := length_rest 8 l
  refine (rrow_any g (restOf 8 l) W3 HW.out.at_ (by omega) (by omega)).mono ?_
  rintro e W4 ⟨vm, rfl, hm, nm, hw⟩
  have HP3 := Kept.mk (HP2.out.wr hw (NP.out.ne (by omega)))
  have hV3 := HV.out.lt
  replace ⟨HW, HR, HV⟩ := step3 HW HR HV hw (by omega) (by omega)
  have lm : ((numsOf 8 (restOf 8 l)).map intC).length = 8 := by rw [List.length_map, length_numsOf]
  obtain ⟨am, km, rfl⟩ := hm.len
  rw [lm] at hm nm ⊢
  have HM := Kept.mk hm
  have NM := Kept.mk nm
  clear hw hm nm lm HP2
  have HM2 := Kept.mk (HM.out.setCell_apart (w.heap.size + 1) 6 (.slice am 8 km) (NM.out.ne (by omega)))
  have HP4 := Kept.mk (HP3.out.setCell_apart (w.heap.size + 1) 6 (.slice am 8 km) (NP.out.ne (by omega)))
  clear HM HP3
  have c0 : W4.cell? ⟨w.heap.size + 1, 0, none⟩ = some (.int .i64 2) := HV.out.cells.2 0 _ rfl
  have c1 : W4.cell? ⟨w.heap.size + 1, 1, none⟩ = some (.int .i64 0) := HV.out.cells.2 1 _ rfl
  have c2 : W4.cell? ⟨w.heap.size + 1, 2, none⟩ = some (.int .i64 0) := HV.out.cells.2 2 _ rfl
  have c3 : W4.cell? ⟨w.heap.size + 1, 3, none⟩ = some (.bool false) := HV.out.cells.2 3 _ rfl
  have c4 : W4.cell? ⟨w.heap.size + 1, 4, none⟩ = some (.string ⟨#[]⟩) := HV.out.cells.2 4 _ rfl
  have c5 : W4.cell? ⟨w.heap.size + 1, 5, none⟩ = some (.slice ap 8 kp) := HV.out.cells.2 5 _ rfl
  have c6 : W4.cell? ⟨w.heap.size + 1, 6, none⟩ = some (.slice none 0 0) := HV.out.cells.2 6 _ rfl
  have c7 : W4.cell? ⟨w.heap.size + 1, 7, none⟩ = some (.int .u64 0) := HV.out.cells.2 7 _ rfl
  have f6 := HV.out.free 6
  have K5 : Kept (Ones [.int .i64 2, .int .i64 0, .int .i64 0, .bool false, .string ⟨#[]⟩, .slice ap 8 kp, .slice am 8 km, .int .u64 0]) := ⟨⟨rfl, rfl, rfl, rfl, rfl, rfl, rfl, rfl, trivial⟩⟩
  replace ⟨HW, HR, HV⟩ := set3 HW HR HV 6 (.slice am 8 km) (by simp) (by omega) (by omega) (by omega)
  have HE := Kept.mk (Wr.setN_new (Nat.le_refl _) (by omega) [.int .i64 2, .int .i64 0, .int .i64 0, .bool false, .string ⟨#[]⟩, .slice ap 8 kp, .slice am 8 km, .int .u64 0] 0 _ HW.out)
  have HC := Kept.mk (HR.out.all_ (l := [.int .i64 2, .int .i64 0, .int .i64 0, .bool false, .string ⟨#[]⟩, .slice ap 8 kp, .slice am 8 km, .int .u64 0]) rfl).cells
  have EP := Kept.mk (cells_apart HP4.out (g := w.heap.size) (fun b off cap e _ => by have := NP.out b (by rw [e]; rfl); omega) 0 [.int .i64 2, .int .i64 0, .int .i64 0, .bool false, .string ⟨#[]⟩, .slice ap 8 kp, .slice am 8 km, .int .u64 0])
  have EM := Kept.mk (cells_apart HM2.out (g := w.heap.size) (fun b off cap e _ => by have := NM.out b (by rw [e]; rfl); omega) 0 [.int .i64 2, .int .i64 0, .int .i64 0, .bool false, .string ⟨#[]⟩, .slice ap 8 kp, .slice am 8 km, .int .u64 0])
  clear HV HW HM2 HP4
  go_wp2_with (refine wpList_storeN 25 rfl (.tmp 2) (.tmp 11) rfl w.heap.size [.int .i64 2, .int .i64 0, .int .i64 0, .bool false, .string ⟨#[]⟩, .slice ap 8 kp, .slice am 8 km, .int .u64 0] size_va rfl rfl HR.out.cells rfl HR.out.free K5.out ?_)
  exact bodyPost_ret (resultsN1 rfl _ _ w.heap.size _ size_va agg_va rfl HC.out) rfl ⟨_, rfl, ⟨_, _, rfl, EP.out, EM.out, NP.out.low (by omega), NM.out.low (by omega)⟩, HE.out⟩
set_option maxRecDepth 100000 in
set_option maxHeartbeats 2000000 in
theorem rflags_any (g : Nat) (l : List UInt8) (w : World) (h : At w g (txt l)) (hl : 8 ≤ l.length) (hl2 : l.length ≤ 1000) :
    Calls Try.prog 46 #[ptr g] w fun e w' => ∃ v', e = .returned v' ∧ isVaN w.heap.size (flagsV l) v' w' ∧ Wr g (txt ((l.drop 4).drop 4)) w w' := by
  have hg := h.lt
  have HW := Kept.mk ((Wr.refl h).alloc (.cells #[.int .i64 0, .int .i64 0, .int .i64 0, .bool false, .string ⟨#[]⟩, .slice none 0 0, .slice none 0 0, .int .u64 0] 25))
  have HR := Kept.mk (Blk.new w 25 [.int .i64 0, .int .i64 0, .int .i64 0, .bool false, .string ⟨#[]⟩, .slice none 0 0, .slice none 0 0, .int .u64 0] w.heap.size rfl)
  go_enter Try.func46, Try.ntmps46
  go_wp2_with fail
  generalize w.alloc (.cells #[.int .i64 0, .int .i64 0, .int .i64 0, .bool false, .string ⟨#[]⟩, .slice none 0 0, .slice none 0 0, .int .u64 0] 25) = W0 at *
  refine (rnumber_any g l 4 W0 HW.out.at_ (by omega) (by omega) (by omega) (by omega)).mono ?_
  rintro e W1 ⟨rfl, hw⟩
  replace HW := Kept.mk (HW.out.trans hw)
  replace HR := Kept.mk (HR.out.wr hw (by omega))
  clear hw
  have h1 : getN (l.take 4) < 4294967296 := by have := getN_lt (l.take 4); rw [List.length_take, Nat.min_eq_left (by omega)] at this; exact this
  generalize hL : getN (l.take 4) = lo at *
  go_wp2_with fail
  refine (rnumber_any g (l.drop 4) 4 W1 HW.out.at_ (by omega) (by omega) (by rw [List.length_drop]; omega) (by rw [List.length_drop]; omega)).mono ?_
  rintro e W2 ⟨rfl, hw⟩
  replace HW := Kept.mk (HW.out.trans hw)
  replace HR := Kept.mk (HR.out.wr hw (by omega))
  clear hw
  have h2 : getN ((l.drop 4).take 4) < 4294967296 := by have := getN_lt ((l.drop 4).take 4); rw [List.length_take, Nat.min_eq_left (by rw [List.length_drop]; omega)] at this; exact this
  generalize hH : getN ((l.drop 4).take 4) = hi at *
  have HL := Kept.mk hL
  have HH := Kept.mk hH
  clear hL hH
  have FB := Kept.mk (flags_or lo hi h1 h2)
  have K5 : Kept (Ones [.int .i64 3, .int .i64 0, .int .i64 0, .bool false, .string ⟨#[]⟩, .slice none 0 0, .slice none 0 0, .int .u64 (bits .or .u64 (lo : Int) ((hi : Int) * 4294967296))]) := ⟨⟨rfl, rfl, rfl, rfl, rfl, rfl, rfl, rfl, trivial⟩⟩
  have HE := Kept.mk (Wr.setN_new (Nat.le_refl _) (by omega) [.int .i64 3, .int .i64 0, .int .i64 0, .bool false, .string ⟨#[]⟩, .slice none 0 0, .slice none 0 0, .int .u64 (bits .or .u64 (lo : Int) ((hi : Int) * 4294967296))] 0 _ HW.out)
  have HC := Kept.mk (HR.out.all_ (l := [.int .i64 3, .int .i64 0, .int .i64 0, .bool false, .string ⟨#[]⟩, .slice none 0 0, .slice none 0 0, .int .u64 (bits .or .u64 (lo : Int) ((hi : Int) * 4294967296))]) rfl).cells
  clear HW
  go_wp2_with (refine wpList_storeN 25 rfl (.tmp 2) (.tmp 15) rfl w.heap.size [.int .i64 3, .int .i64 0, .int .i64 0, .bool false, .string ⟨#[]⟩, .slice none 0 0, .slice none 0 0, .int .u64 (bits .or .u64 (lo : Int) ((hi : Int) * 4294967296))] size_va rfl rfl HR.out.cells rfl HR.out.free K5.out ?_)
  have ev : flagsV l = ⟨3, 0, 0, false, [], [], [], UInt64.ofNat (lo + 4294967296 * hi)⟩ := by unfold flagsV; rw [HL.out, HH.out]
  rw [ev]
  refine bodyPost_ret (resultsN1 rfl _ _ w.heap.size _ size_va agg_va rfl HC.out) rfl ⟨_, rfl, ⟨.slice none 0 0, .slice none 0 0, ?_, .inl ⟨rfl, rfl⟩, .inl ⟨rfl, rfl⟩, newB_nil _, newB_nil _⟩, HE.out⟩
  rw [FB.out]
set_option maxRecDepth 100000 in
set_option maxHeartbeats 2000000 in
theorem rval_count (g : Nat) (l : List UInt8) (w : World) (h : At w g (txt l)) (hl : 32 ≤ l.length) (hl2 : l.length ≤ 1000) :
    Calls Try.prog 35 #[ptr g, .int .i64 2] w fun e w' => ∃ v', e = .returned v' ∧ isVaN w.heap.size (countV l) v' w' ∧ Wr g (txt (restOf 8 (restOf 8 l))) w w' := by
  have hg := h.lt
  have HW := Kept.mk ((Wr.refl h).alloc (.cells #[.int .i64 0, .int .i64 0, .int .i64 0, .bool false, .string ⟨#[]⟩, .slice none 0 0, .slice none 0 0, .int .u64 0] 25))
  have HR := Kept.mk (Blk.new w 25 [.int .i64 0, .int .i64 0, .int .i64 0, .bool false, .string ⟨#[]⟩, .slice none 0 0, .slice none 0 0, .int .u64 0] w.heap.size rfl)
  go_enter Try.func35, Try.ntmps35
  go_wp2_with fail
  generalize w.alloc (.cells #[.int .i64 0, .int .i64 0, .int .i64 0, .bool false, .string ⟨#[]⟩, .slice none 0 0, .slice none 0 0, .int .u64 0] 25) = W0 at *
  have h0 := HR.out.lt
  refine (rcount_any g l W0 HW.out.at_ hl hl2).mono ?_
  rintro e W1 ⟨v', rfl, hv, hw⟩
  replace HW := Kept.mk (HW.out.trans hw)
  replace HR := Kept.mk (HR.out.wr hw (by omega))
  obtain ⟨vp, vm, rfl, hp, hm, np, nm⟩ := hv
  have K5 : Kept (Ones [.int .i64 (countV l).kind, .int .i64 (countV l).time, .int .i64 (countV l).node, .bool (countV l).dead, .string ⟨(countV l).text.toArray⟩, vp, vm, .int .u64 ((countV l).flags.toNat : Int)]) := ⟨⟨rfl, rfl, rfl, rfl, rfl, hp.one, hm.one, rfl, trivial⟩⟩
  have HE := Kept.mk (Wr.setN_new (Nat.le_refl _) (by omega) [.int .i64 (countV l).kind, .int .i64 (countV l).time, .int .i64 (countV l).node, .bool (countV l).dead, .string ⟨(countV l).text.toArray⟩, vp, vm, .int .u64 ((countV l).flags.toNat : Int)] 0 _ HW.out)
  have HC := Kept.mk (HR.out.all_ (l := [.int .i64 (countV l).kind, .int .i64 (countV l).time, .int .i64 (countV l).node, .bool (countV l).dead, .string ⟨(countV l).text.toArray⟩, vp, vm, .int .u64 ((countV l).flags.toNat : Int)]) rfl).cells
  have EP := Kept.mk (cells_apart hp (g := w.heap.size) (fun b off cap e _ => by have := np b (by rw [e]; rfl); omega) 0 [.int .i64 (countV l).kind, .int .i64 (countV l).time, .int .i64 (countV l).node, .bool (countV l).dead, .string ⟨(countV l).text.toArray⟩, vp, vm, .int .u64 ((countV l).flags.toNat : Int)])
  have EM := Kept.mk (cells_apart hm (g := w.heap.size) (fun b off cap e _ => by have := nm b (by rw [e]; rfl); omega) 0 [.int .i64 (countV l).kind, .int .i64 (countV l).time, .int .i64 (countV l).node, .bool (countV l).dead, .string ⟨(countV l).text.toArray⟩, vp, vm, .int .u64 ((countV l).flags.toNat : Int)])
  have NP := Kept.mk (np.low (B' := w.heap.size) (by omega))
  have NM := Kept.mk (nm.low (B' := w.heap.size) (by omega))
  clear hw HW hp hm np nm
  go_wp2_with (refine wpList_storeN 25 rfl (.tmp 4) (.tmp 13) rfl w.heap.size [.int .i64 (countV l).kind, .int .i64 (countV l).time, .int .i64 (countV l).node, .bool (countV l).dead, .string ⟨(countV l).text.toArray⟩, vp, vm, .int .u64 ((countV l).flags.toNat : Int)] size_va rfl rfl HR.out.cells rfl HR.out.free K5.out ?_)
  exact bodyPost_ret (resultsN1 rfl _ _ w.heap.size _ size_va agg_va rfl HC.out) rfl ⟨_, rfl, ⟨_, _, rfl, EP.out, EM.out, NP.out, NM.out⟩, HE.out⟩
set_option maxRecDepth 100000 in
set_option maxHeartbeats 2000000 in
theorem rval_flags (g : Nat) (l : List UInt8) (w : World) (h : At w g (txt l)) (hl : 32 ≤ l.length) (hl2 : l.length ≤ 1000) :
    Calls Try.prog 35 #[ptr g, .int .i64 3] w fun e w' => ∃ v', e = .returned v' ∧ isVaN w.heap.size (flagsV l) v' w' ∧ Wr g (txt ((l.drop 4).drop 4)) w w' := by
  have hg := h.lt
  have HW := Kept.mk ((Wr.refl h).alloc (.cells #[.int .i64 0, .int .i64 0, .int .i64 0, .bool false, .string ⟨#[]⟩, .slice none 0 0, .slice none 0 0, .int .u64 0] 25))
  have HR := Kept.mk (Blk.new w 25 [.int .i64 0, .int .i64 0, .int .i64 0, .bool false, .string ⟨#[]⟩, .slice none 0 0, .slice none 0 0, .int .u64 0] w.heap.size rfl)
  go_enter Try.func35, Try.ntmps35
  go_wp2_with fail
  generalize w.alloc (.cells #[.int .i64 0, .int .i64 0, .int .i64 0, .bool false, .string ⟨#[]⟩, .slice none 0 0, .slice none 0 0, .int .u64 0] 25) = W0 at *
  have h0 := HR.out.lt
  refine (rflags_any g l W0 HW.out.at_ (by omega) hl2).mono ?_
  rintro e W1 ⟨v', rfl, hv, hw⟩
  replace HW := Kept.mk (HW.out.trans hw)
  replace HR := Kept.mk (HR.out.wr hw (by omega))
  obtain ⟨vp, vm, rfl, hp, hm, np, nm⟩ := hv
  have K5 : Kept (Ones [.int .i64 (flagsV l).kind, .int .i64 (flagsV l).time, .int .i64 (flagsV l).node, .bool (flagsV l).dead, .string ⟨(flagsV l).text.toArray⟩, vp, vm, .int .u64 ((flagsV l).flags.toNat : Int)]) := ⟨⟨rfl, rfl, rfl, rfl, rfl, hp.one, hm.one, rfl, trivial⟩⟩
  have HE := Kept.mk (Wr.setN_new (Nat.le_refl _) (by omega) [.int .i64 (flagsV l).kind, .int .i64 (flagsV l).time, .int .i64 (flagsV l).node, .bool (flagsV l).dead, .string ⟨(flagsV l).text.toArray⟩, vp, vm, .int .u64 ((flagsV l).flags.toNat : Int)] 0 _ HW.out)
  have HC := Kept.mk (HR.out.all_ (l := [.int .i64 (flagsV l).kind, .int .i64 (flagsV l).time, .int .i64 (flagsV l).node, .bool (flagsV l).dead, .string ⟨(flagsV l).text.toArray⟩, vp, vm, .int .u64 ((flagsV l).flags.toNat : Int)]) rfl).cells
  have EP := Kept.mk (cells_apart hp (g := w.heap.size) (fun b off cap e _ => by have := np b (by rw [e]; rfl); omega) 0 [.int .i64 (flagsV l).kind, .int .i64 (flagsV l).time, .int .i64 (flagsV l).node, .bool (flagsV l).dead, .string ⟨(flagsV l).text.toArray⟩, vp, vm, .int .u64 ((flagsV l).flags.toNat : Int)])
  have EM := Kept.mk (cells_apart hm (g := w.heap.size) (fun b off cap e _ => by have := nm b (by rw [e]; rfl); omega) 0 [.int .i64 (flagsV l).kind, .int .i64 (flagsV l).time, .int .i64 (flagsV l).node, .bool (flagsV l).dead, .string ⟨(flagsV l).text.toArray⟩, vp, vm, .int .u64 ((flagsV l).flags.toNat : Int)])
  have NP := Kept.mk (np.low (B' := w.heap.size) (by omega))
  have NM := Kept.mk (nm.low (B' := w.heap.size) (by omega))
  clear hw HW hp hm np nm
  go_wp2_with (refine wpList_storeN 25 rfl (.tmp 4) (.tmp 17) rfl w.heap.size [.int .i64 (flagsV l).kind, .int .i64 (flagsV l).time, .int .i64 (flagsV l).node, .bool (flagsV l).dead, .string ⟨(flagsV l).text.toArray⟩, vp, vm, .int .u64 ((flagsV l).flags.toNat : Int)] size_va rfl rfl HR.out.cells rfl HR.out.free K5.out ?_)
  exact bodyPost_ret (resultsN1 rfl _ _ w.heap.size _ size_va agg_va rfl HC.out) rfl ⟨_, rfl, ⟨_, _, rfl, EP.out, EM.out, NP.out, NM.out⟩, HE.out⟩
set_option maxRecDepth 100000 in
set_option maxHeartbeats 2000000 in
theorem rval_reg (g : Nat) (l : List UInt8) (w : World) (h : At w g (txt l)) (hl : 32 ≤ l.length) (hl2 : l.length ≤ 1000) :
    Calls Try.prog 35 #[ptr g, .int .i64 1] w fun e w' => (regOk l ∧ (∃ v', e = .returned v' ∧ isVaN w.heap.size (regV l) v' w') ∧ Wr g (txt (regR l)) w w') ∨ (¬ regOk l ∧ e = Gave ∧ ∃ x, Wr g x w w') := by
  have hg := h.lt
  have HW := Kept.mk ((Wr.refl h).alloc (.cells #[.int .i64 0, .int .i64 0, .int .i64 0, .bool false, .string ⟨#[]⟩, .slice none 0 0, .slice none 0 0, .int .u64 0] 25))
  have HR := Kept.mk (Blk.new w 25 [.int .i64 0, .int .i64 0, .int .i64 0, .bool false, .string ⟨#[]⟩, .slice none 0 0, .slice none 0 0, .int .u64 0] w.heap.size rfl)
  go_enter Try.func35, Try.ntmps35
  go_wp2_with fail
  generalize w.alloc (.cells #[.int .i64 0, .int .i64 0, .int .i64 0, .bool false, .string ⟨#[]⟩, .slice none 0 0, .slice none 0 0, .int .u64 0] 25) = W0 at *
  have h0 := HR.out.lt
  refine (rreg_any g l W0 HW.out.at_ hl hl2).mono ?_
  rintro e W1 (⟨hok, ⟨v', rfl, hv⟩, hw⟩ | ⟨hok, rfl, x, hw⟩)
  · have HK := Kept.mk hok
    clear hok
    replace HW := Kept.mk (HW.out.trans hw)
    replace HR := Kept.mk (HR.out.wr hw (by omega))
    obtain ⟨vp, vm, rfl, hp, hm, np, nm⟩ := hv
    have K5 : Kept (Ones [.int .i64 (regV l).kind, .int .i64 (regV l).time, .int .i64 (regV l).node, .bool (regV l).dead, .string ⟨(regV l).text.toArray⟩, vp, vm, .int .u64 ((regV l).flags.toNat : Int)]) := ⟨⟨rfl, rfl, rfl, rfl, rfl, hp.one, hm.one, rfl, trivial⟩⟩
    have HE := Kept.mk (Wr.setN_new (Nat.le_refl _) (by omega) [.int .i64 (regV l).kind, .int .i64 (regV l).time, .int .i64 (regV l).node, .bool (regV l).dead, .string ⟨(regV l).text.toArray⟩, vp, vm, .int .u64 ((regV l).flags.toNat : Int)] 0 _ HW.out)
    have HC := Kept.mk (HR.out.all_ (l := [.int .i64 (regV l).kind, .int .i64 (regV l).time, .int .i64 (regV l).node, .bool (regV l).dead, .string ⟨(regV l).text.toArray⟩, vp, vm, .int .u64 ((regV l).flags.toNat : Int)]) rfl).cells
    have EP := Kept.mk (cells_apart hp (g := w.heap.size) (fun b off cap e _ => by have := np b (by rw [e]; rfl); omega) 0 [.int .i64 (regV l).kind, .int .i64 (regV l).time, .int .i64 (regV l).node, .bool (regV l).dead, .string ⟨(regV l).text.toArray⟩, vp, vm, .int .u64 ((regV l).flags.toNat : Int)])
    have EM := Kept.mk (cells_apart hm (g := w.heap.size) (fun b off cap e _ => by have := nm b (by rw [e]; rfl); omega) 0 [.int .i64 (regV l).kind, .int .i64 (regV l).time, .int .i64 (regV l).node, .bool (regV l).dead, .string ⟨(regV l).text.toArray⟩, vp, vm, .int .u64 ((regV l).flags.toNat : Int)])
    have NP := Kept.mk (np.low (B' := w.heap.size) (by omega))
    have NM := Kept.mk (nm.low (B' := w.heap.size) (by omega))
    clear hw HW hp hm np nm
    go_wp2_with (refine wpList_storeN 25 rfl (.tmp 4) (.tmp 9) rfl w.heap.size [.int .i64 (regV l).kind, .int .i64 (regV l).time, .int .i64 (regV l).node, .bool (regV l).dead, .string ⟨(regV l).text.toArray⟩, vp, vm, .int .u64 ((regV l).flags.toNat : Int)] size_va rfl rfl HR.out.cells rfl HR.out.free K5.out ?_)
    exact bodyPost_ret (resultsN1 rfl _ _ w.heap.size _ size_va agg_va rfl HC.out) rfl (.inl ⟨HK.out, ⟨_, rfl, ⟨_, _, rfl, EP.out, EM.out, NP.out, NM.out⟩⟩, HE.out⟩)
  · have HK := Kept.mk hok
    replace HW := Kept.mk (HW.out.trans hw)
    clear hok hw
    go_wp2
    exact ⟨rfl, .inr ⟨HK.out, rfl, _, HW.out⟩⟩
set_option maxRecDepth 100000 in
set_option maxHeartbeats 2000000 in
theorem rval_none (g : Nat) (l : List UInt8) (k : Nat) (w : World) (h : At w g (txt l)) (h1 : ¬ k = 1) (h2 : ¬ k = 2) (h3 : ¬ k = 3) :
    Calls Try.prog 35 #[ptr g, .int .i64 (k : Int)] w fun e w' => e = Gave ∧ ∃ x, Wr g x w w' := by
  have HW := Kept.mk ((Wr.refl h).alloc (.cells #[.int .i64 0, .int .i64 0, .int .i64 0, .bool false, .string ⟨#[]⟩, .slice none 0 0, .slice none 0 0, .int .u64 0] 25))
  have e1 : ((k : Int) == 1) = false := by simp; omega
  have e2 : ((k : Int) == 2) = false := by simp; omega
  have e3 : ((k : Int) == 3) = false := by simp; omega
  go_enter Try.func35, Try.ntmps35
  go_wp2
  exact ⟨rfl, rfl, _, HW.out⟩
theorem rval_any (g : Nat) (l : List UInt8) (k : Nat) (w : World) (h : At w g (txt l)) (hl : 32 ≤ l.length) (hl2 : l.length ≤ 1000) :
    Calls Try.prog 35 #[ptr g, .int .i64 (k : Int)] w fun e w' => (∃ A r, rdVal k l = some (A, r) ∧ (∃ v', e = .returned v' ∧ isVaN w.heap.size A v' w') ∧ Wr g (txt r) w w') ∨ (rdVal k l = none ∧ e = Gave ∧ ∃ x, Wr g x w w') := by
  unfold rdVal
  by_cases h1 : k = 1
  · subst h1
    refine (rval_reg g l w h hl hl2).mono ?_
    rintro e w' (⟨hok, hv, hw⟩ | ⟨hok, rfl, hx⟩)
    · rw [if_pos rfl, if_pos hok]; exact .inl ⟨_, _, rfl, hv, hw⟩
    · rw [if_pos rfl, if_neg hok]; exact .inr ⟨rfl, rfl, hx⟩
  · rw [if_neg h1]
    by_cases h2 : k = 2
    · subst h2
      refine (rval_count g l w h hl hl2).mono ?_
      rintro e w' ⟨v', rfl, hv, hw⟩
      rw [if_pos rfl]; exact .inl ⟨_, _, rfl, ⟨_, rfl, hv⟩, hw⟩
    · rw [if_neg h2]
      by_cases h3 : k = 3
      · subst h3
        refine (rval_flags g l w h hl hl2).mono ?_
        rintro e w' ⟨v', rfl, hv, hw⟩
        rw [if_pos rfl]; exact .inl ⟨_, _, rfl, ⟨_, rfl, hv⟩, hw⟩
      · rw [if_neg h3]
        refine (rval_none g l k w h h1 h2 h3).mono ?_
        rintro e w' ⟨rfl, hx⟩
        exact .inr ⟨rfl, rfl, hx⟩
end Go.Proofs.Ytebjljiklacolaa
