/- Contracts of slices.Equal at two types, of flash.Same, flash.Free. -/
import Derived.Test.YtipiioggdalkoaaGreatDoorFlApi
namespace Go.Proofs.YtipiioggdalkoaaGreatDoor
open Go.RowKit
set_option linter.unusedVariables false
set_option linter.unusedSimpArgs false

theorem below_drewN (w : World) (q : Nat) : Below w.heap.size w (w.drewN q) := ⟨rfl, rfl, rfl, Nat.le_refl _, fun _ _ => rfl⟩

set_option maxHeartbeats 400000 in
theorem unlike_s (n m : Nat) (a b : Option Addr) (c d : Nat) (w : World) (h : n ≠ m) (hn : n ≤ 1000000000) (hm : m ≤ 1000000000) :
    Calls Tryz.prog 51 #[.slice a n c, .slice b m d] w fun e w' => e = .returned (.bool false) ∧ Below w.heap.size w w' := by
  have h' : ((n : Int) != (m : Int)) = true := by simp [bne]; omega
  have h2 : ((n : Int) == (m : Int)) = false := by simp; omega
  go_enter Tryz.func51, Tryz.ntmps51
  go_wp2
  go_ret
  exact ⟨rfl, Below.refl _ _⟩

set_option maxHeartbeats 400000 in
theorem unlike_i (n m : Nat) (a b : Option Addr) (c d : Nat) (w : World) (h : n ≠ m) (hn : n ≤ 1000000000) (hm : m ≤ 1000000000) :
    Calls Tryz.prog 52 #[.slice a n c, .slice b m d] w fun e w' => e = .returned (.bool false) ∧ Below w.heap.size w w' := by
  have h' : ((n : Int) != (m : Int)) = true := by simp [bne]; omega
  have h2 : ((n : Int) == (m : Int)) = false := by simp; omega
  go_enter Tryz.func52, Tryz.ntmps52
  go_wp2
  go_ret
  exact ⟨rfl, Below.refl _ _⟩

theorem equal_s (l m : List (List UInt8)) (v u : Value) (w : World) (hv : isCells (l.map strC) v w) (hu : isCells (m.map strC) u w) (h1 : l.length ≤ 1000000000) (h2 : m.length ≤ 1000000000) :
    Calls Tryz.prog 51 #[v, u] w fun e w' => e = .returned (.bool (decide (l = m))) ∧ Below w.heap.size w w' := by
  by_cases hlen : l.length = m.length
  · by_cases h0 : l = []
    · subst h0
      obtain rfl : m = [] := List.eq_nil_of_length_eq_zero (by simpa using hlen.symm)
      obtain ⟨a, cap, rfl⟩ := hv.len
      obtain ⟨b, cap2, rfl⟩ := hu.len
      refine (Tryz.slices_Equal_string_empty a b cap 0 cap2 w (by omega)).mono ?_
      rintro e w' ⟨rfl, rfl⟩
      exact ⟨by simp, Below.refl _ _⟩
    · have hl0 : 0 < l.length := List.length_pos_iff.2 h0
      obtain ⟨b, off, cap, hv', hb, hc⟩ := hv.some_ (by simpa using hl0)
      obtain ⟨b2, off2, cap2, hu', hb2, hc2⟩ := hu.some_ (by rw [List.length_map]; omega)
      rw [List.length_map] at hv' hu'
      subst hv' hu'
      refine (Tryz.slices_Equal_string b off l.length cap b2 off2 m.length cap2 (l.map fun x => ⟨x.toArray⟩) (m.map fun x => ⟨x.toArray⟩) w (by simp) (by simp) (by omega) (by omega) (fun j hj => ?_) (fun j hj => ?_)).mono ?_
      · have hj' : j < l.length := by simpa using hj
        rw [hc j _ (get_map strC l j hj')]
        simp [strC, List.getD_eq_getElem?_getD, hj']
      · have hj' : j < m.length := by simpa using hj
        rw [hc2 j _ (get_map strC m j hj')]
        simp [strC, List.getD_eq_getElem?_getD, hj']
      · rintro e w' ⟨rfl, q, rfl⟩
        refine ⟨?_, below_drewN w q⟩
        rw [List.take_of_length_le (by simp), List.take_of_length_le (by simp)]
        congr 2
        rw [decide_eq_decide]
        constructor
        · intro h
          have := congrArg (List.map (fun (x : ByteArray) => x.data.toList)) h
          simpa [List.map_map, Function.comp_def] using this
        · rintro rfl; rfl
  · obtain ⟨a, cap, rfl⟩ := hv.len
    obtain ⟨b, cap2, rfl⟩ := hu.len
    rw [List.length_map, List.length_map]
    rw [show decide (l = m) = false by simp; rintro rfl; exact hlen rfl]
    exact unlike_s l.length m.length a b cap cap2 w hlen h1 h2
theorem equal_i (l m : List Int) (v u : Value) (w : World) (hv : isCells (l.map intC) v w) (hu : isCells (m.map intC) u w) (h1 : l.length ≤ 1000000000) (h2 : m.length ≤ 1000000000) :
    Calls Tryz.prog 52 #[v, u] w fun e w' => e = .returned (.bool (decide (l = m))) ∧ Below w.heap.size w w' := by
  by_cases hlen : l.length = m.length
  · by_cases h0 : l = []
    · subst h0
      obtain rfl : m = [] := List.eq_nil_of_length_eq_zero (by simpa using hlen.symm)
      obtain ⟨a, cap, rfl⟩ := hv.len
      obtain ⟨b, cap2, rfl⟩ := hu.len
      refine (Tryz.slices_Equal_int_empty a b cap 0 cap2 w (by omega)).mono ?_
      rintro e w' ⟨rfl, rfl⟩
      exact ⟨by simp, Below.refl _ _⟩
    · have hl0 : 0 < l.length := List.length_pos_iff.2 h0
      obtain ⟨b, off, cap, hv', hb, hc⟩ := hv.some_ (by simpa using hl0)
      obtain ⟨b2, off2, cap2, hu', hb2, hc2⟩ := hu.some_ (by rw [List.length_map]; omega)
      rw [List.length_map] at hv' hu'
      subst hv' hu'
      refine (Tryz.slices_Equal_int b off l.length cap b2 off2 m.length cap2 l m w (Nat.le_refl _) (Nat.le_refl _) (by omega) (by omega) (fun j hj => ?_) (fun j hj => ?_)).mono ?_
      · rw [hc j _ (get_map intC l j hj)]
        simp [intC, List.getD_eq_getElem?_getD, hj]
      · rw [hc2 j _ (get_map intC m j hj)]
        simp [intC, List.getD_eq_getElem?_getD, hj]
      · rintro e w' ⟨rfl, q, rfl⟩
        refine ⟨?_, below_drewN w q⟩
        rw [List.take_of_length_le (Nat.le_refl _), List.take_of_length_le (Nat.le_refl _)]
        congr 2
        by_cases h : l = m <;> simp [h]
  · obtain ⟨a, cap, rfl⟩ := hv.len
    obtain ⟨b, cap2, rfl⟩ := hu.len
    rw [List.length_map, List.length_map]
    rw [show decide (l = m) = false by simp; rintro rfl; exact hlen rfl]
    exact unlike_i l.length m.length a b cap cap2 w hlen h1 h2

def sameB (F G : Fl) : Bool := decide (F.pages = G.pages) && decide (F.wear = G.wear) && (F.fuse == G.fuse) && (F.torn == G.torn) && (F.dead == G.dead)
set_option maxRecDepth 20000 in
set_option maxHeartbeats 1000000 in
theorem same_any (F G : Fl) (v u : Value) (w : World) (hv : isFl F v w) (hu : isFl G u w) (h1 : F.pages.length ≤ 1000000) (h2 : F.wear.length ≤ 1000000) (h3 : G.pages.length ≤ 1000000) (h4 : G.wear.length ≤ 1000000) :
    Calls Tryz.prog 26 #[v, u] w fun e w' => e = .returned (.bool (sameB F G)) ∧ Below w.heap.size w w' := by
  obtain ⟨vp, vw, rfl, hp, hq⟩ := hv
  obtain ⟨up, uw, rfl, gp, gq⟩ := hu
  have hb0 : Below w.heap.size w ((w.alloc (.cells #[vp, vw, .int .i64 F.fuse, strC F.torn, .bool F.dead] 31)).alloc (.cells #[up, uw, .int .i64 G.fuse, strC G.torn, .bool G.dead] 31)) := ((Below.refl _ _).alloc (Nat.le_refl _) _).alloc (by simp) _
  have hbn := (Below.refl (w.alloc (.cells #[vp, vw, .int .i64 F.fuse, strC F.torn, .bool F.dead] 31)).heap.size (w.alloc (.cells #[vp, vw, .int .i64 F.fuse, strC F.torn, .bool F.dead] 31))).alloc (Nat.le_refl _) (.cells #[up, uw, .int .i64 G.fuse, strC G.torn, .bool G.dead] 31)
  have c1 := (cells5_new w 31 vp vw (.int .i64 F.fuse) (strC F.torn) (.bool F.dead)).keep hbn (by simp)
  have c2 := cells5_at (w.alloc (.cells #[vp, vw, .int .i64 F.fuse, strC F.torn, .bool F.dead] 31)) 31 up uw (.int .i64 G.fuse) (strC G.torn) (.bool G.dead) (w.heap.size + 1) (by simp)
  have HB0 := Kept.mk hb0
  have C1 := Kept.mk c1
  have C2 := Kept.mk c2
  have HP := Kept.mk hp
  have HQ := Kept.mk hq
  have GP := Kept.mk gp
  have GQ := Kept.mk gq
  have HS := Kept.mk (show sameB F G = (decide (F.pages = G.pages) && decide (F.wear = G.wear) && (F.fuse == G.fuse) && (F.torn == G.torn) && (F.dead == G.dead)) from rfl)
  clear hp hq gp gq c1 c2 hb0 hbn
  unfold strC
  go_enter Tryz.func26, Tryz.ntmps26
  go_wp2_with fail
  refine (equal_s F.pages G.pages _ _ _ (stable_cells _ _ _ _ HP.out HB0.out) (stable_cells _ _ _ _ GP.out HB0.out) (by omega) (by omega)).mono ?_
  rintro e w1 ⟨rfl, hb1⟩
  obtain ⟨_, k0, k1, k2, k3, k4⟩ := C1.out.keep hb1 (by simp <;> omega)
  obtain ⟨_, j0, j1, j2, j3, j4⟩ := C2.out.keep hb1 (by simp <;> omega)
  unfold strC at k3 j3
  have hB := Kept.mk (HB0.out.trans (hb1.mono HB0.out.size))
  have hs1 := hb1.size
  have HB1 := Kept.mk hb1
  clear hb1
  cases d1 : decide (F.pages = G.pages) with
  | false =>
    go_wp2
    go_ret
    exact ⟨by rw [HS.out, d1]; rfl, hB.out⟩
  | true =>
    go_wp2_with fail
    refine (equal_i F.wear G.wear _ _ _ (stable_cells _ _ _ _ HQ.out hB.out) (stable_cells _ _ _ _ GQ.out hB.out) (by omega) (by omega)).mono ?_
    rintro e w2 ⟨rfl, hb2⟩
    clear k0 k1 k2 k3 k4 j0 j1 j2 j3 j4
    obtain ⟨_, k0, k1, k2, k3, k4⟩ := (C1.out.keep HB1.out (by simp <;> omega)).keep hb2 (by simp at hs1 <;> omega)
    obtain ⟨_, j0, j1, j2, j3, j4⟩ := (C2.out.keep HB1.out (by simp <;> omega)).keep hb2 (by simp at hs1 <;> omega)
    unfold strC at k3 j3
    have hB2 := Kept.mk (hB.out.trans (hb2.mono hB.out.size))
    clear hb2
    cases d2 : decide (F.wear = G.wear) with
    | false =>
      go_wp2
      go_ret
      exact ⟨by rw [HS.out, d1, d2]; rfl, hB2.out⟩
    | true =>
      cases d3 : F.fuse == G.fuse with
      | false =>
        go_wp2
        go_ret
        exact ⟨by rw [HS.out, d1, d2, d3]; rfl, hB2.out⟩
      | true =>
        cases d4 : F.torn == G.torn with
        | false =>
          go_wp2
          go_ret
          exact ⟨by rw [HS.out, d1, d2, d3, d4]; rfl, hB2.out⟩
        | true =>
          go_wp2
          go_ret
          exact ⟨by rw [HS.out, d1, d2, d3, d4]; rfl, hB2.out⟩
end Go.Proofs.YtipiioggdalkoaaGreatDoor
