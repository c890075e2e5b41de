/- Contracts of slices.Repeat of one text, and of flash.New. -/
import Derived.Test.YtipiioggdalkoaaGreatDoorFlRepeat
import Derived.Test.YtipiioggdalkoaaGreatDoorShelf2
import Derived.Laws.CopyOwn
namespace Go.Proofs.YtipiioggdalkoaaGreatDoor
open Go.RowKit
set_option linter.unusedVariables false
set_option linter.unusedSimpArgs false

theorem Tryz.infoStr : (Tryz.prog.info? 9).map (fun i => (i.zero, i.size, i.bytes)) = some (some (.string ⟨#[]⟩), 1, 16) := by kernel_rfl
set_option maxRecDepth 100000 in
set_option maxHeartbeats 2000000 in
theorem repeat_any (x : List UInt8) (n g : Nat) (w : World) (h1 : 1 ≤ n) (h6 : n ≤ 6) (hg : g < w.heap.size) (hc : w.cell? ⟨g, 0, none⟩ = some (strC x)) :
    Calls Tryz.prog 60 #[.slice (some ⟨g, 0, none⟩) 1 1, .int .i64 (n : Int)] w fun e w' => ∃ v', e = .returned v' ∧ isBtw w.heap.size w'.heap.size 9 (List.replicate n (strC x)) v' w' ∧ Below w.heap.size w w' := by
  have hmk := fun W => run_make_row' (P := Tryz.prog) 26 9 (.string ⟨#[]⟩) 16 Tryz.underlying26 Tryz.infoStr rfl .i64 .i64 n (by omega) (by omega) W
  obtain ⟨cur, hcur⟩ : ∃ cur, cur = madeCells #[Value.string ⟨#[]⟩] n := ⟨_, rfl⟩
  have hcs : cur.size = n := by rw [hcur]; simp [size_madeCells]
  rw [← hcur] at hmk
  have HCUR := Kept.mk hcur
  have hcp : ∀ ty, (Builtin.copy_ #[26, 26] ty #[.slice (some ⟨w.heap.size, 0, none⟩) n n, .slice (some ⟨g, 0, none⟩) 1 1]).run Tryz.prog (w.alloc (.cells cur 9)) = .ok (.int .i64 1) ((w.alloc (.cells cur 9)).setRow w.heap.size (repA (strC x) 1 cur)) := by
    intro ty
    have hr := run_copy_row (P := Tryz.prog) (w.alloc (.cells cur 9)) 26 26 ty 9 w.heap.size 0 n n ⟨g, 0, none⟩ 1 1 cur 9 [strC x] Tryz.underlying26 (by kernel_rfl)
      (by show (w.heap.push _)[w.heap.size]? = _; simp) (by show 1 = min 1 n; omega)
      (fun j y hy => by
        have hj : j = 0 := by have := (List.getElem?_eq_some_iff.1 hy).1; simp at this; exact this
        subst hj
        injection hy with hy
        rw [← hy, show (⟨g, 0, none⟩ : Addr).add 0 = ⟨g, 0, none⟩ by simp [Addr.add]]
        exact (((Below.refl w.heap.size w).alloc (Nat.le_refl _) _).cell (p := ⟨g, 0, none⟩) hg).trans hc)
      (by show 0 + 1 ≤ cur.size; omega) (fun y hy => by rw [List.mem_singleton.1 hy]; rfl)
    exact hr
  have hW0 : Below w.heap.size w ((w.alloc (.cells cur 9)).setRow w.heap.size (repA (strC x) 1 cur)) := below_setRow ((Below.refl _ _).alloc (Nat.le_refl _) _) (Nat.le_refl _) _
  have hG0 : ((w.alloc (.cells cur 9)).setRow w.heap.size (repA (strC x) 1 cur)).heap[w.heap.size]? = some (.cells (repA (strC x) 1 cur) 9 (0, 0)) := setRow_heap _ _ cur _ _ _ (by show (w.heap.push _)[w.heap.size]? = _; simp)
  have HW0 := Kept.mk hW0
  have HG0 := Kept.mk hG0
  have HC := Kept.mk hc
  have hd1 : decide ((n : Int) < 0) = false := by simp
  clear hcur hW0 hG0 hc
  go_enter Tryz.func60, Tryz.ntmps60
  go_wp2_with fail
  refine (Tryz.bits_Mul 1 n (by omega) (by omega) _).mono ?_
  rintro e w1 ⟨rfl, rfl⟩
  rewrite [show 1 * n / 18446744073709551616 = 0 by rw [Nat.one_mul]; exact Nat.div_eq_of_lt (by omega), show 1 * n % 18446744073709551616 = n by rw [Nat.one_mul]; exact Nat.mod_eq_of_lt (by omega)]
  go_wp2
  clear hmk hcp
  generalize (w1.alloc (.cells cur 9)).setRow w1.heap.size (repA (strC x) 1 cur) = W0 at *
  go_loopw [8] (fun i wr => ∃ m : Nat, 1 ≤ m ∧ m ≤ n ∧ i = .int .i64 (m : Int) ∧ Kept (wr.heap[w1.heap.size]? = some (.cells (repA (strC x) m cur) 9 (0, 0))) ∧ Kept (Below w1.heap.size w1 wr)) (fun i _ => n - (intOf i).toNat)
  case atStart => exact ⟨1, by omega, h1, rfl, HG0, HW0⟩
  case round =>
    obtain ⟨m, hm1, hmn, rfl, hrow, hbel⟩ := hrel
    by_cases hlt : m < n
    · go_wp2_with fail
      refine rep_region _ _ _ rfl w1.heap.size n m (min m (n - m)) (strC x) cur rfl rfl (by omega) hlt hcs (by omega) rfl rfl hrow.out ?_
      intro act W2 hdf hsz hkeep hn8 hrow' hturn
      have hk0 : act.tmps.getD 0 undef = (.slice (some ⟨g, 0, none⟩) 1 1) := hkeep 0 (by kernel_rfl)
      have hk1 : act.tmps.getD 1 undef = (.int .i64 (n : Int)) := hkeep 1 (by kernel_rfl)
      have hk2 : act.tmps.getD 2 undef = undef := hkeep 2 (by kernel_rfl)
      have hk3 : act.tmps.getD 3 undef = undef := hkeep 3 (by kernel_rfl)
      have hk4 : act.tmps.getD 4 undef = (.slice none 0 0) := hkeep 4 (by kernel_rfl)
      have hk5 : act.tmps.getD 5 undef = (.int .u64 0) := hkeep 5 (by kernel_rfl)
      have hk6 : act.tmps.getD 6 undef = (.int .u64 (n : Int)) := hkeep 6 (by kernel_rfl)
      have hk7 : act.tmps.getD 7 undef = (.slice (some ⟨w1.heap.size, 0, none⟩) n n) := hkeep 7 (by kernel_rfl)
      have hk9 : act.tmps.getD 9 undef = (.int .i64 (n : Int)) := hkeep 9 (by kernel_rfl)
      have hk10 : act.tmps.getD 10 undef = (.bool false) := hkeep 10 (by kernel_rfl)
      have hk11 : act.tmps.getD 11 undef = undef := hkeep 11 (by kernel_rfl)
      have hk12 : act.tmps.getD 12 undef = (.tuple #[.int .u64 0, .int .u64 (n : Int)]) := hkeep 12 (by kernel_rfl)
      have hk13 : act.tmps.getD 13 undef = (.slice (some ⟨g, 0, none⟩) 1 1) := hkeep 13 (by kernel_rfl)
      have hk14 : act.tmps.getD 14 undef = (.int .i64 1) := hkeep 14 (by kernel_rfl)
      have hk15 : act.tmps.getD 15 undef = (.int .u64 1) := hkeep 15 (by kernel_rfl)
      have hk16 : act.tmps.getD 16 undef = (.int .i64 (n : Int)) := hkeep 16 (by kernel_rfl)
      have hk17 : act.tmps.getD 17 undef = (.int .u64 (n : Int)) := hkeep 17 (by kernel_rfl)
      have hk18 : act.tmps.getD 18 undef = (.tuple #[.int .u64 0, .int .u64 (n : Int)]) := hkeep 18 (by kernel_rfl)
      have hk19 : act.tmps.getD 19 undef = (.int .u64 0) := hkeep 19 (by kernel_rfl)
      have hk20 : act.tmps.getD 20 undef = (.int .u64 (n : Int)) := hkeep 20 (by kernel_rfl)
      have hk21 : act.tmps.getD 21 undef = (.int .u64 0) := hkeep 21 (by kernel_rfl)
      have hk22 : act.tmps.getD 22 undef = (.bool false) := hkeep 22 (by kernel_rfl)
      have hk23 : act.tmps.getD 23 undef = (.bool false) := hkeep 23 (by kernel_rfl)
      have hk24 : act.tmps.getD 24 undef = (.int .u64 (n : Int)) := hkeep 24 (by kernel_rfl)
      have hk25 : act.tmps.getD 25 undef = (.bool (decide (9223372036854775807 < (n : Int)))) := hkeep 25 (by kernel_rfl)
      have hk26 : act.tmps.getD 26 undef = (.bool (decide (9223372036854775807 < (n : Int)))) := hkeep 26 (by kernel_rfl)
      have hk27 : act.tmps.getD 27 undef = undef := hkeep 27 (by kernel_rfl)
      have hk28 : act.tmps.getD 28 undef = (.int .u64 (n : Int)) := hkeep 28 (by kernel_rfl)
      have hk29 : act.tmps.getD 29 undef = (.int .i64 (n : Int)) := hkeep 29 (by kernel_rfl)
      have hk30 : act.tmps.getD 30 undef = (.slice (some ⟨w1.heap.size, 0, none⟩) n n) := hkeep 30 (by kernel_rfl)
      have hk31 : act.tmps.getD 31 undef = (.slice (some ⟨w1.heap.size, 0, none⟩) n n) := hkeep 31 (by kernel_rfl)
      have hk32 : act.tmps.getD 32 undef = (.slice (some ⟨g, 0, none⟩) 1 1) := hkeep 32 (by kernel_rfl)
      have hk33 : act.tmps.getD 33 undef = (.int .i64 1) := hkeep 33 (by kernel_rfl)
      have hk47 : act.tmps.getD 47 undef = undef := hkeep 47 (by kernel_rfl)
      obtain ⟨tm, df⟩ := act
      obtain rfl : df = [] := hdf
      clear hkeep
      obtain ⟨f, rfl, hn8, hk0, hk1, hk2, hk3, hk4, hk5, hk6, hk7, hk9, hk10, hk11, hk12, hk13, hk14, hk15, hk16, hk17, hk18, hk19, hk20, hk21, hk22, hk23, hk24, hk25, hk26, hk27, hk28, hk29, hk30, hk31, hk32, hk33, hk47⟩ : ∃ f : Nat → Value, tm = ((List.range 48).map f).toArray ∧ f 8 = .int .i64 ((m + min m (n - m) : Nat) : Int) ∧ f 0 = (.slice (some ⟨g, 0, none⟩) 1 1) ∧ f 1 = (.int .i64 (n : Int)) ∧ f 2 = undef ∧ f 3 = undef ∧ f 4 = (.slice none 0 0) ∧ f 5 = (.int .u64 0) ∧ f 6 = (.int .u64 (n : Int)) ∧ f 7 = (.slice (some ⟨w1.heap.size, 0, none⟩) n n) ∧ f 9 = (.int .i64 (n : Int)) ∧ f 10 = (.bool false) ∧ f 11 = undef ∧ f 12 = (.tuple #[.int .u64 0, .int .u64 (n : Int)]) ∧ f 13 = (.slice (some ⟨g, 0, none⟩) 1 1) ∧ f 14 = (.int .i64 1) ∧ f 15 = (.int .u64 1) ∧ f 16 = (.int .i64 (n : Int)) ∧ f 17 = (.int .u64 (n : Int)) ∧ f 18 = (.tuple #[.int .u64 0, .int .u64 (n : Int)]) ∧ f 19 = (.int .u64 0) ∧ f 20 = (.int .u64 (n : Int)) ∧ f 21 = (.int .u64 0) ∧ f 22 = (.bool false) ∧ f 23 = (.bool false) ∧ f 24 = (.int .u64 (n : Int)) ∧ f 25 = (.bool (decide (9223372036854775807 < (n : Int)))) ∧ f 26 = (.bool (decide (9223372036854775807 < (n : Int)))) ∧ f 27 = undef ∧ f 28 = (.int .u64 (n : Int)) ∧ f 29 = (.int .i64 (n : Int)) ∧ f 30 = (.slice (some ⟨w1.heap.size, 0, none⟩) n n) ∧ f 31 = (.slice (some ⟨w1.heap.size, 0, none⟩) n n) ∧ f 32 = (.slice (some ⟨g, 0, none⟩) 1 1) ∧ f 33 = (.int .i64 1) ∧ f 47 = undef := ⟨fun i => tm.getD i undef, arr_eta tm hsz, hn8, hk0, hk1, hk2, hk3, hk4, hk5, hk6, hk7, hk9, hk10, hk11, hk12, hk13, hk14, hk15, hk16, hk17, hk18, hk19, hk20, hk21, hk22, hk23, hk24, hk25, hk26, hk27, hk28, hk29, hk30, hk31, hk32, hk33, hk47⟩
      rewrite [show ((List.range 48).map f).toArray = #[f 0, f 1, f 2, f 3, f 4, f 5, f 6, f 7, f 8, f 9, f 10, f 11, f 12, f 13, f 14, f 15, f 16, f 17, f 18, f 19, f 20, f 21, f 22, f 23, f 24, f 25, f 26, f 27, f 28, f 29, f 30, f 31, f 32, f 33, f 34, f 35, f 36, f 37, f 38, f 39, f 40, f 41, f 42, f 43, f 44, f 45, f 46, f 47] from rfl]
      rewrite [hn8, hk0, hk1, hk2, hk3, hk4, hk5, hk6, hk7, hk9, hk10, hk11, hk12, hk13, hk14, hk15, hk16, hk17, hk18, hk19, hk20, hk21, hk22, hk23, hk24, hk25, hk26, hk27, hk28, hk29, hk30, hk31, hk32, hk33, hk47]
      dsimp only
      clear hsz hn8 hk0 hk1 hk2 hk3 hk4 hk5 hk6 hk7 hk9 hk10 hk11 hk12 hk13 hk14 hk15 hk16 hk17 hk18 hk19 hk20 hk21 hk22 hk23 hk24 hk25 hk26 hk27 hk28 hk29 hk30 hk31 hk32 hk33 hk47
      have HB2 : Kept (Below w1.heap.size w1 W2) := ⟨{
        os := hturn.os.trans hbel.out.os
        tape := hturn.tape.trans hbel.out.tape
        output := hturn.output.trans hbel.out.output
        size := Nat.le_trans hbel.out.size hturn.size
        block := fun b hb => (hturn.block b (Nat.lt_of_lt_of_le hb hbel.out.size) (by omega)).trans (hbel.out.block b hb) }⟩
      have HR2 := Kept.mk hrow'
      clear hrow' hturn hrow hbel
      obtain ⟨q, hq⟩ : ∃ q, q = m + min m (n - m) := ⟨_, rfl⟩
      rewrite [← hq]
      rw [← hq] at HR2
      have hq1 : m < q := by omega
      have hq2 : q ≤ n := by omega
      clear hq
      go_wp2_with fail
      go_roundw
      case rel => exact ⟨q, by omega, hq2, rfl, HR2, HB2⟩
      case measure => simp [intOf]; omega
    · obtain rfl : m = n := by omega
      go_wp2
      go_ret
      exact ⟨_, rfl, .inr ⟨w1.heap.size, m, repA (strC x) m cur, by rw [List.length_replicate]; rfl, Nat.le_refl _, (Array.getElem?_eq_some_iff.1 hrow.out).1, hrow.out, by rw [List.length_replicate]; exact Nat.le_refl _, by rw [repA_size _ _ _ (by omega)]; exact hcs, by rw [List.length_replicate]; simp [repA]⟩, hbel.out⟩
end Go.Proofs.YtipiioggdalkoaaGreatDoor
