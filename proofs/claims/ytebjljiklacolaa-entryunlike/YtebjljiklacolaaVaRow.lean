/- Contracts of package value: rows that are made place by place. -/
import Derived.Test.YtebjljiklacolaaVaWalk
namespace Go.Proofs.Ytebjljiklacolaa
open Go.RowKit
set_option linter.unusedVariables false
set_option linter.unusedSimpArgs false

theorem own_of_row {w : World} {B g n : Nat} {f : Nat → Value} {t : TypeId} (h : w.rowIs g t n f) (hB : B ≤ g) (hm : n ≤ maxLen) : isOwn B t ((List.range n).map f) (.slice (some ⟨g, 0, none⟩) n n) w := by
  obtain ⟨c, hb, hn, hc⟩ := h
  unfold isOwn World.ownsRow
  rw [List.length_map, List.length_range]
  refine ⟨by simp, .inr ⟨g, n, c, rfl, hB, hb, Nat.le_refl _, hm, by simpa using hn, ?_⟩⟩
  rw [Nat.mul_one]
  apply List.ext_getElem?
  intro j
  by_cases hj : j < n
  · rw [List.getElem?_take, if_pos hj, Array.getElem?_toList, hc j hj]
    simp [hj]
  · rw [List.getElem?_eq_none (by simp; omega), List.getElem?_eq_none (by simp; omega)]
theorem Try.infoInt : (Try.prog.info? 3).map (fun i => (i.zero, i.size, i.bytes)) = some (some (.int .i64 0), 1, 8) := by kernel_rfl
set_option maxRecDepth 20000 in
set_option maxHeartbeats 400000 in
theorem row_any (f : Nat → Int) (g : Nat) (caps : Array Value) (hent : Enters Try.prog g) (w : World)
    (hf : ∀ (k : Nat) (w' : World), k < 8 → Below w.heap.size w w' → Calls Try.prog g (#[.int .i64 (k : Int)] ++ caps) w' fun e w'' => e = .returned (.int .i64 (f k)) ∧ Below w'.heap.size w' w'') :
    Calls Try.prog 97 #[.func (.func g) #[] caps] w fun e w' => e = .returned (.slice (some ⟨w.heap.size, 0, none⟩) 8 8) ∧ w'.rowIs w.heap.size 3 8 (fun j => intC (f j)) ∧ Below w.heap.size w w' := by
  have HF := Kept.mk hf
  clear hf
  have hmk : ∀ W : World, (Instr.makeSlice 22 (.int .i64 8) (.int .i64 8)).run Try.prog W = .ok (.slice (some ⟨W.heap.size, 0, none⟩) 8 8) (W.alloc (.cells (madeCells #[Value.int .i64 0] 8) 3)) := fun W => run_make_row' (P := Try.prog) 22 3 (.int .i64 0) 8 Try.underlying22 Try.infoInt rfl .i64 .i64 8 (by omega) (by omega) W
  have HB0 := Kept.mk (show Below w.heap.size w (w.alloc (.cells (madeCells #[Value.int .i64 0] 8) 3)) from (Below.refl _ _).alloc (Nat.le_refl _) _)
  have HR0 := Kept.mk (World.rowIs_made w (.int .i64 0) 8 3)
  go_enter Try.func97, Try.ntmps97
  go_wp2
  clear hmk
  generalize w.alloc (.cells (madeCells #[Value.int .i64 0] 8) 3) = w0 at *
  go_loopw [8] (fun i wr => ∃ k : Nat, k ≤ 8 ∧ i = .int .i64 (k : Int) ∧ Kept (wr.rowIs w.heap.size 3 8 (fun j => if j < k then intC (f j) else intC 0)) ∧ Kept (Below w.heap.size w wr)) (fun i _ => 8 - (intOf i).toNat)
  case atStart => exact ⟨0, by omega, rfl, ⟨HR0.out.congr (fun i _ => by simp [intC])⟩, HB0⟩
  case round =>
    clear HR0 HB0
    obtain ⟨k, hk, rfl, HR, HB⟩ := hrel
    by_cases hlt : k < 8
    · have d1 : decide ((k : Int) < 8) = true := by simp; omega
      go_wp2_with fail
      rw [hent]
      simp only [Oper.upon]
      refine (HF.out k _ hlt HB.out).mono ?_
      rintro e w2 ⟨rfl, hb2⟩
      have HR2 := HR.out.of_block (hb2.block _ HR.out.lt)
      have hcell := HR2.cell hlt
      have hfz := HR2.frozen k
      have HR3 := Kept.mk (HR2.set k (.int .i64 (f k)))
      have HB3 := Kept.mk ((HB.out.trans (hb2.mono HB.out.size)).setCell (p := ⟨w.heap.size, k, none⟩) (Nat.le_refl _) (.int .i64 (f k)))
      clear HR2 hb2
      rewrite [if_neg (by omega)] at hcell
      unfold intC at hcell
      go_wp2
      go_roundw
      case rel =>
        refine ⟨k + 1, by omega, by go_num, ⟨HR3.out.congr (fun j hj => ?_)⟩, HB3⟩
        by_cases e : j = k
        · subst e; simp [intC]
        · rw [if_neg e]
          by_cases l : j < k
          · rw [if_pos l, if_pos (by omega)]
          · rw [if_neg l, if_neg (by omega)]
      case measure => simp [intOf]; omega
    · have d1 : decide ((k : Int) < 8) = false := by simp; omega
      obtain rfl : k = 8 := by omega
      have HO := Kept.mk (HR.out.congr (g := fun j => intC (f j)) (fun j hj => by rw [if_pos hj]))
      go_wp2
      go_ret
      exact ⟨rfl, HO.out, HB.out⟩
theorem cells_of_row {w : World} {g n : Nat} {f : Nat → Value} {t : TypeId} (h : w.rowIs g t n f) : isCells ((List.range n).map f) (.slice (some ⟨g, 0, none⟩) n n) w := by
  have e : ((List.range n).map f).length = n := by simp
  have := (show isCells ((List.range n).map f) (.slice (some ⟨g, 0, none⟩) ((List.range n).map f).length n) w from .inr (.inr ⟨g, 0, n, rfl, h.lt, fun j x hx => by
    have hj : j < n := by have := (List.getElem?_eq_some_iff.1 hx).1; simpa using this
    rw [Nat.zero_add, h.cell hj]
    simpa [hj] using hx⟩))
  rwa [e] at this
end Go.Proofs.Ytebjljiklacolaa
