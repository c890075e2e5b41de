/- Contracts of page.mark, page.Bad, page.Next. -/
import Derived.Test.YtipiioggdalkoaaGreatDoorPgRecs
namespace Go.Proofs.YtipiioggdalkoaaGreatDoor
open Go.RowKit Go.Shelf
set_option linter.unusedVariables false
set_option linter.unusedSimpArgs false
attribute [local go_sem] Oper.semAt_some

/-- A tally. -/
def Tally (W : World) (g : Nat) (c e : Nat) : Prop := W.heap[g]? = some (.cells #[.int .i64 (c : Int), .int .i64 (e : Int)] 52 (0, 0))
set_option maxHeartbeats 1000000 in
theorem add_tally (g c e i : Nat) (w : World) (h : Tally w g c e) (hc : c ≤ 1000000000) (hi : i ≤ 1000000000) :
    Calls Tryz.prog 40 #[.pointer (some ⟨g, 0, none⟩), .int .i64 (i : Int)] w fun x w' => (∃ v, x = .returned v) ∧ Tally w' g (c + 1) (i + 1) ∧ KeepsOthers w w' ∧ (∀ b, b ≠ g → w'.heap[b]? = w.heap[b]?) ∧ Below g w w' := by
  have hlt : g < w.heap.size := (Array.getElem?_eq_some_iff.1 h).1
  have c0 : w.cell? ⟨g, 0, none⟩ = some (.int .i64 (c : Int)) := by simp [World.cell?, show w.heap[g]? = _ from h]
  have f0 : w.frozen? ⟨g, 0, none⟩ = false := by simp [World.frozen?, show w.heap[g]? = _ from h]
  have HT := Lib.hid h
  have g1 := heap_setCell_same w g 0 _ _ (.int .i64 ((c : Int) + 1)) h
  have c1 : (w.setCell ⟨g, 0, none⟩ (.int .i64 ((c : Int) + 1))).cell? ⟨g, 1, none⟩ = some (.int .i64 (e : Int)) := by simp [World.cell?, g1]
  have f1 : (w.setCell ⟨g, 0, none⟩ (.int .i64 ((c : Int) + 1))).frozen? ⟨g, 1, none⟩ = false := by simp [World.frozen?, g1]
  have g2 := heap_setCell_same _ g 1 _ _ (.int .i64 ((i : Int) + 1)) g1
  have G2 := Lib.hid g2
  clear g1 g2 h
  go_enter Tryz.func40, Tryz.ntmps40
  go_wp2
  go_end0
  refine ⟨⟨_, rfl⟩, ?_, (KeepsOthers.setCell _ _ _).trans (KeepsOthers.setCell _ _ _), fun b hb => (Below.heap_setCell _ ⟨g, 1, none⟩ _ b hb).trans (Below.heap_setCell w ⟨g, 0, none⟩ _ b hb), ((Below.refl g w).setCell (p := ⟨g, 0, none⟩) (Nat.le_refl _) _).setCell (p := ⟨g, 1, none⟩) (Nat.le_refl _) _⟩
  exact G2.out
theorem ownFrom_block {β : Type} {B b : Nat} (hb : b < B) (X : β → Obj) : OwnFrom B (fun s W => W.heap[b]? = some (X s)) := fun s W W' row hs hg hr =>
  (hg.block b (Array.getElem?_eq_some_iff.1 hs).1 (fun e => by have := (hr b e.symm).1; omega)).trans hs

def tcnt (p : Nat → Bool) (pre : List Nat) : Nat := (pre.filter p).length
def tend (p : Nat → Bool) (pre : List Nat) : Nat := pre.foldl (fun a i => if p i = true then i + 1 else a) 0
theorem tcnt_le (p : Nat → Bool) (pre : List Nat) : tcnt p pre ≤ pre.length := List.length_filter_le _ _

set_option maxRecDepth 100000 in
set_option maxHeartbeats 2000000 in
theorem mark_any (s : List UInt8) (n : Int) (fs g : Nat) (P : List UInt8 → Bool) (w : World) (hs : s.length ≤ 1000000) (hz : szN n ≤ 2056 ∨ roomN s n = 0) (hg : Tally w g 0 0) (hen : Enters Tryz.prog fs)
    (hsuch : ∀ (t : List UInt8) (W : World), t.length ≤ 2056 → Calls Tryz.prog fs #[.string ⟨t.toArray⟩] W fun e W' => e = .returned (.bool (P t)) ∧ Below W.heap.size W W') :
    Calls Tryz.prog 37 #[.string ⟨s.toArray⟩, .int .i64 n, .func (.func fs) #[] #[], .func (.func 40) #[.pointer (some ⟨g, 0, none⟩)] #[]] w fun e W' => (∃ v, e = .returned v) ∧
      Tally W' g (tcnt (fun i => P (slotL s n i)) (List.range (roomN s n))) (tend (fun i => P (slotL s n i)) (List.range (roomN s n))) ∧ Below g w W' := by
  have hgs : g < w.heap.size := (Array.getElem?_eq_some_iff.1 hg).1
  have hea : Enters Tryz.prog 40 := enters_of Tryz.func40 (by kernel_rfl) rfl
  refine (callsIn_wide (n := 5)).1 ?_
  refine callsIn_of_wp_marks Tryz.func37 rfl trivial ?_ rfl
  simp only [Tryz.ntmps37, List.size_toArray, List.length_cons, List.length_nil, Nat.reduceAdd, Nat.reduceSub, Array.replicate_succ, Array.replicate_zero, List.push_toArray, List.append_toArray, List.nil_append, List.cons_append]
  gi_wp2_with (refine ⟨trivial, (places_in _ s n _).mono ?_⟩; rintro e w' ⟨rfl, rfl⟩)
  have b1 := Boxed.new w 40 (.func (.func fs) #[] #[])
  have b2 := Boxed.new (w.alloc (.cells #[.func (.func fs) #[] #[]] 40)) 54 (.func (.func 40) #[.pointer (some ⟨g, 0, none⟩)] #[])
  have b3 := Boxed.new ((w.alloc (.cells #[.func (.func fs) #[] #[]] 40)).alloc (.cells #[.func (.func 40) #[.pointer (some ⟨g, 0, none⟩)] #[]] 54)) 9 (.string ⟨s.toArray⟩)
  have b4 := Boxed.new (((w.alloc (.cells #[.func (.func fs) #[] #[]] 40)).alloc (.cells #[.func (.func 40) #[.pointer (some ⟨g, 0, none⟩)] #[]] 54)).alloc (.cells #[.string ⟨s.toArray⟩] 9)) 3 (.int .i64 n)
  have hB0 : Below w.heap.size w ((((w.alloc (.cells #[.func (.func fs) #[] #[]] 40)).alloc (.cells #[.func (.func 40) #[.pointer (some ⟨g, 0, none⟩)] #[]] 54)).alloc (.cells #[.string ⟨s.toArray⟩] 9)).alloc (.cells #[.int .i64 n] 3)) := ((((Below.refl _ w).alloc (Nat.le_refl _) _).alloc (by simp) _).alloc (by simp; omega) _).alloc (by simp; omega) _
  simp only [World.size_alloc] at b2 b3 b4 ⊢
  have hrl : roomN s n ≤ 1000000 := Nat.le_trans (roomN_len s n) hs
  have hg4 : Tally _ g 0 0 := (hB0.block g hgs).trans hg
  refine wpIn_rangeFunc_ownG rfl (by decide) (gf := 63) (lb := #[.pointer (some ⟨w.heap.size + 1 + 1, 0, none⟩), .pointer (some ⟨w.heap.size + 1 + 1 + 1, 0, none⟩)]) rfl trivial (enters_of Tryz.func63 (by kernel_rfl) rfl)
    (places_stops 4 (by omega) (w.heap.size + 1 + 1) (w.heap.size + 1 + 1 + 1) s n (by omega) _ (by simp) (b3.alloc _).cell (by simp) b4.cell) (box2_t _ _) (box2_put _ _ _ (by simp) (by simp)) (Below.refl _ _) (fun _ => rfl)
    (fun (pre : List (Fin (roomN s n))) W => W.heap[g]? = some (.cells #[.int .i64 (tcnt (fun i => P (slotL s n i)) (pre.map Fin.val) : Int), .int .i64 (tend (fun i => P (slotL s n i)) (pre.map Fin.val) : Int)] 52 (0, 0)) ∧ W.heap[w.heap.size]? = some (.cells #[.func (.func fs) #[] #[]] 40 (0, 0)) ∧ W.heap[w.heap.size + 1]? = some (.cells #[.func (.func 40) #[.pointer (some ⟨g, 0, none⟩)] #[]] 54 (0, 0)) ∧ Below g w W ∧ w.heap.size + 4 ≤ W.heap.size)
    (fun _ _ _ => False)
    (OwnFrom.and (ownFrom_block (by simp only [World.size_alloc]; omega) _) (OwnFrom.and (ownFrom_block (by simp only [World.size_alloc]; omega) _) (OwnFrom.and (ownFrom_block (by simp only [World.size_alloc]; omega) _) (OwnFrom.and (ownFrom_below (Nat.le_of_lt hgs) (by simp; omega)) (fun _ _ _ _ hs hg _ => Nat.le_trans hs hg.size)))))
    (fun _ _ _ _ _ hs _ _ => hs)
    ⟨hg4, ((b1.alloc _).alloc _).alloc _, (b2.alloc _).alloc _, hB0.mono (Nat.le_of_lt hgs), by simp⟩
    (fun x : Fin (roomN s n) => { tmps := #[.string ⟨s.toArray⟩, .int .i64 n, .func (.func fs) #[] #[], .func (.func 40) #[.pointer (some ⟨g, 0, none⟩)] #[], undef, undef, .pointer (some ⟨w.heap.size, 0, none⟩), .pointer (some ⟨w.heap.size + 1, 0, none⟩), .int .i64 (x.val : Int), .string ⟨(slotL s n x.val).toArray⟩, .string ⟨s.toArray⟩, .int .i64 n, .func (.func 63) #[] #[.pointer (some ⟨w.heap.size + 1 + 1, 0, none⟩), .pointer (some ⟨w.heap.size + 1 + 1 + 1, 0, none⟩)], .int .i64 (x.val : Int), .string ⟨(slotL s n x.val).toArray⟩, undef, undef, undef, undef, undef, undef], defers := [] }) ?assign ?body ?done ?stop
  case assign =>
    intro l x W K hK
    simp only [encPl]
    gi_wp2
    exact hK
  case body =>
    rintro l pre x W ⟨hT, h1, h2, hB, hW3⟩ hlt
    have hle : (slotL s n x.val).length ≤ 2056 := by
      rcases hz with h | h
      · exact Nat.le_trans (by simp only [slotL, List.length_take]; omega) h
      · omega
    have hpl := tcnt_le (fun i => P (slotL s n i)) (pre.map Fin.val)
    rw [List.length_map] at hpl
    have hxl : x.val ≤ 1000000 := by have := x.isLt; omega
    have HX := Lib.hid (show tcnt (fun i => P (slotL s n i)) ((pre ++ [x]).map Fin.val) = tcnt (fun i => P (slotL s n i)) (pre.map Fin.val) + (if P (slotL s n x.val) = true then 1 else 0) by simp [tcnt, List.filter_append, List.filter_cons]; split <;> simp)
    have HY := Lib.hid (show tend (fun i => P (slotL s n i)) ((pre ++ [x]).map Fin.val) = (if P (slotL s n x.val) = true then x.val + 1 else tend (fun i => P (slotL s n i)) (pre.map Fin.val)) by simp [tend])
    generalize slotL s n x.val = t at *
    generalize tcnt (fun i => P (slotL s n i)) (pre.map Fin.val) = c at *
    generalize tend (fun i => P (slotL s n i)) (pre.map Fin.val) = d at *
    generalize x.val = xv at *
    have c1 := Boxed.cell h1
    have hcf : ∀ (args : Array Value) (w : World), (callFunc fs args).run Tryz.prog w = .ok (.enter fs args) w := hen
    cases hP : P t with
    | false =>
      rw [hP] at HX HY
      have HP := Lib.hid hP
      clear hP
      gi_wp2_with (refine ⟨trivial, ((callsIn_wide.2 (hsuch t _ hle)).inRound l).mono ?_⟩; rintro e W2 ⟨rfl, hb2⟩; rw [HP.out])
      refine ⟨(keepsOthers_below hb2).from _, ⟨cell_of_block (hb2.block _ (by omega)), cell_of_block (hb2.block _ (by omega))⟩, ?_, (hb2.block _ (by omega)).trans h1, (hb2.block _ (by omega)).trans h2, hB.trans (hb2.mono (Nat.le_of_lt (by have := hB.size; omega))), Nat.le_trans hW3 hb2.size⟩
      rw [HX.out, HY.out]
      exact (hb2.block g (by omega)).trans hT
    | true =>
      rw [hP] at HX HY
      have HP := Lib.hid hP
      clear hP
      gi_wp2_with (first
        | (refine ⟨trivial, ((callsIn_wide.2 (hsuch t _ hle)).inRound l).mono ?_⟩; rintro e W2 ⟨rfl, hb2⟩; rw [HP.out]; have hT2 : Tally W2 g c d := (hb2.block g (by omega)).trans hT; have k2 := Boxed.cell (boxed_below h2 hb2))
        | (refine ⟨trivial, ((callsIn_wide.2 (add_tally g c d xv W2 hT2 (by omega) (by omega))).inRound l).mono ?_⟩; rintro e W3 ⟨⟨v9, rfl⟩, hT3, hk3, hbl3, hb3⟩))
      have hs3 := hk3.size
      refine ⟨((keepsOthers_below hb2).trans hk3).from _, ⟨cell_of_block ((hbl3 _ (by omega)).trans (hb2.block _ (by omega))), cell_of_block ((hbl3 _ (by omega)).trans (hb2.block _ (by omega)))⟩, ?_, ((hbl3 _ (by omega)).trans (hb2.block _ (by omega))).trans h1, ((hbl3 _ (by omega)).trans (hb2.block _ (by omega))).trans h2, (hB.trans (hb2.mono (Nat.le_of_lt (by have := hB.size; omega)))).trans hb3, Nat.le_trans hW3 (Nat.le_trans hb2.size hs3)⟩
      rw [HX.out, HY.out]
      exact hT3
  case done =>
    rintro D ys W hD hys ⟨hT, h1, h2, hB, hW3⟩ hK
    rw [hys] at hT
    gi_wp2
    refine ⟨by simp, .inl ⟨_, _, rfl, run_takeDeferred hK, ?_⟩⟩
    have hDg : D ≠ g := by simp at hD; omega
    exact ⟨_, results_none rfl _ _ _, ⟨_, rfl⟩, (World.putObj_heap_other hDg.symm).trans hT, hB.trans (belowK_b (w := w) (n₀ := g) (Nat.le_of_lt hgs) W D _ _ (by simp at hD; omega) hK rfl rfl)⟩
  case stop =>
    rintro D c pre W _ _ h _
    exact h.elim
end Go.Proofs.YtipiioggdalkoaaGreatDoor
