/- record.bytesOf and its closure: each byte of a text. -/
import Derived.Test.YtipiioggdalkoaaGreatDoorOctGet
namespace Go.Proofs.YtipiioggdalkoaaGreatDoor
open Go.RowKit Go.Shelf
set_option linter.unusedVariables false
attribute [local go_sem] Oper.semAt_some

def encOne (x : UInt8) : Array Value := #[.int .u8 (x.toNat : Int)]

set_option maxRecDepth 100000 in
set_option maxHeartbeats 1000000 in
theorem bytesOf1_in (F : Fence) (n : Nat) (hF : F.fn 79) (hro : F.round = none) (hn : 1 ≤ n) (l Bs : Nat) (s : ByteArray) (hs : s.size ≤ 1000000000) (J Jx : List UInt8 → World → Prop)
    (hY : ∀ pre x W, J pre W → pre.length < s.size → YieldAt F (n - 1) Tryz.prog l (encOne x) W fun e W' =>
      (e = .returned (.bool true) ∧ J (pre ++ [x]) W' ∧ BoxKept Bs W W') ∨ (e = .returned (.bool false) ∧ Jx (pre ++ [x]) W'))
    (W : World) (hBs : W.cell? ⟨Bs, 0, none⟩ = some (.string s)) (h0 : J [] W) :
    CallsIn F n Tryz.prog 79 #[.func (.yield l) #[] #[], .pointer (some ⟨Bs, 0, none⟩)] W fun e W' => (∃ v, e = .returned v) ∧
      ((∃ ys, ys = s.data.toList ∧ J ys W') ∨ (∃ pre, pre <+: s.data.toList ∧ Jx pre W')) := by
  refine callsIn_of_wp Tryz.func79 rfl hF ?_ hro
  simp only [Tryz.ntmps79, List.size_toArray, List.length_cons, List.length_nil, Nat.reduceAdd, Nat.reduceSub, Array.replicate_succ, Array.replicate_zero, List.push_toArray, List.append_toArray, List.nil_append, List.cons_append]
  gi_wp2
  gi_loopw [6] (fun i wr => ∃ k : Nat, k ≤ s.size ∧ i = .int .i64 k ∧ J (s.data.toList.take k) wr ∧ wr.cell? ⟨Bs, 0, none⟩ = some (.string s))
    (fun i _ => s.size - (intOf i).toNat)
  case atStart => exact ⟨0, Nat.zero_le _, rfl, h0, hBs⟩
  case round =>
    obtain ⟨k, hk, rfl, hJs, hcx⟩ := hrel
    by_cases hlt : k < s.size
    · obtain ⟨fn, tmps, assign, body, hy, hR⟩ := hY _ (s[k]'hlt) wr hJs (by rw [List.length_take]; simp; omega)
      simp only [encOne] at hy
      have hbt : (s[k]'hlt).toNat < 256 := UInt8.toNat_lt _
      have ht : s.data.toList.take k ++ [s[k]'hlt] = s.data.toList.take (k + 1) := by
        rw [List.take_succ_eq_append_getElem (by simpa using hlt)]; rfl
      rw [ht] at hR
      have HT := Lib.hid ht
      clear ht
      gi_wp2
      refine hR.mono ?_
      rintro e W3 (⟨rfl, hJ3, hk3⟩ | ⟨rfl, hJx3⟩)
      · have hc3 := hk3.trans hcx
        gi_wp2
        go_roundw
        case rel => exact ⟨k + 1, by omega, by go_num, hJ3, hc3⟩
        case measure => simp [intOf]; omega
      · gi_wp2
        refine bodyPost_ret (results_none rfl _ _ _) rfl ?_
        exact ⟨⟨_, rfl⟩, .inr ⟨_, List.take_prefix _ _, hJx3⟩⟩
    · obtain rfl : k = s.size := by omega
      gi_wp2
      go_end0
      refine ⟨⟨_, rfl⟩, .inl ⟨_, rfl, ?_⟩⟩
      rwa [List.take_of_length_le (by simp)] at hJs

set_option maxHeartbeats 1000000 in
theorem bytesOf_in (F : Fence) (n : Nat) (hF : F.fn 53) (hro : F.round = none) (s : ByteArray) (w : World) :
    CallsIn F n Tryz.prog 53 #[.string s] w fun e w' => e = .returned (.func (.func 79) #[] #[.pointer (some ⟨w.heap.size, 0, none⟩)]) ∧ w' = w.alloc (.cells #[.string s] 9) := by
  refine callsIn_of_wp Tryz.func53 rfl hF ?_ hro
  simp only [Tryz.ntmps53, List.size_toArray, List.length_cons, List.length_nil, Nat.reduceAdd, Nat.reduceSub, Array.replicate_succ, Array.replicate_zero, List.push_toArray, List.append_toArray, List.nil_append, List.cons_append]
  gi_wp2
  go_ret
  exact ⟨rfl, rfl⟩

theorem bytesOf_stops (F : Fence) (n : Nat) (hF : F.fn 79) (hro : F.round = none) (hn : 1 ≤ n) (Bs : Nat) (s : ByteArray) (hs : s.size ≤ 1000000000) (w : World) (hB : Bs < w.heap.size) (hBs : w.cell? ⟨Bs, 0, none⟩ = some (.string s)) :
    SeqStopsK F n Tryz.prog 79 #[.pointer (some ⟨Bs, 0, none⟩)] encOne (BoxKept Bs) (fun ys => ys = s.data.toList) (fun pre => pre <+: s.data.toList) s.size w := fun l J Jx W hW _ _ hY h0 =>
  bytesOf1_in F n hF hro hn l Bs s hs J Jx hY W ((hW.cell (p := ⟨Bs, 0, none⟩) hB).trans hBs) h0

def clearL (s : List UInt8) : Bool := s.all fun b => decide (b = 255)

set_option maxRecDepth 100000 in
set_option maxHeartbeats 1000000 in
theorem clear_in (F : Fence) (n : Nat) (hF0 : F.fn 28) (hF1 : F.fn 53) (hF2 : F.fn 79) (hro : F.round = none) (hn : 3 ≤ n) (s : ByteArray) (hs : s.size ≤ 1000000000) (w : World) :
    CallsIn F n Tryz.prog 28 #[.string s] w fun e W' => e = .returned (.bool (clearL s.data.toList)) ∧ Below w.heap.size w W' := by
  have hn1 : 1 ≤ n := by omega
  refine callsIn_of_wp_marks Tryz.func28 rfl hF0 ?_ hro
  simp only [Tryz.ntmps28, List.size_toArray, List.length_cons, List.length_nil, Nat.reduceAdd, Nat.reduceSub, Array.replicate_succ, Array.replicate_zero, List.push_toArray, List.append_toArray, List.nil_append, List.cons_append]
  gi_wp2_with (gi_at_call 53; refine (bytesOf_in F (n - 1) hF1 hro _ _).mono ?_; rintro e w' ⟨rfl, rfl⟩)
  have cn := newCell w (.bool false) 4
  have cb := newCell (w.alloc (.cells #[.bool false] 4)) (.string s) 9
  rw [World.size_alloc] at cb
  have hB0 : Below w.heap.size w ((w.alloc (.cells #[.bool false] 4)).alloc (.cells #[.string s] 9)) := ((Below.refl _ w).alloc (Nat.le_refl _) _).alloc (by simp) _
  refine wpIn_rangeFunc_ownF hro hn1 (gf := 79) (lb := #[.pointer (some ⟨w.heap.size + 1, 0, none⟩)]) rfl hF2 (enters_of Tryz.func79 (by kernel_rfl) rfl)
    (bytesOf_stops F (n - 1) hF2 hro (by omega) (w.heap.size + 1) s hs _ (by simp) cb.1) (boxKept_t _) (boxKept_put _ _ (by simp)) (Below.refl _ _) (fun _ => rfl)
    (fun pre W => ((∀ y ∈ pre, y = 255) ∧ W.cell? ⟨w.heap.size, 0, none⟩ = some (.bool false) ∧ W.frozen? ⟨w.heap.size, 0, none⟩ = false) ∧ Below w.heap.size w W)
    (fun c pre W => (c = .ret ∧ (∃ y ∈ pre, y ≠ 255) ∧ W.cell? ⟨w.heap.size, 0, none⟩ = some (.bool false)) ∧ Below w.heap.size w W)
    (OwnFrom.and (Own.from (fun s A B row hs hg hr => ⟨hs.1, cell_kept hs.2.1 hg hr, (frozen_kept hs.2.1 hg hr).trans hs.2.2⟩) _) (ownFrom_below (Nat.le_refl _) (by simp; omega)))
    (fun c => OwnFrom.and (Own.from (fun s A B row hs hg hr => ⟨hs.1, hs.2.1, cell_kept hs.2.2 hg hr⟩) _) (ownFrom_below (Nat.le_refl _) (by simp; omega)))
    ⟨⟨by simp, oldCell _ cn.1, oldFree _ cn.1 cn.2⟩, hB0⟩
    (fun x => { tmps := #[Value.string s, undef, Value.pointer (some { block := w.heap.size, off := 0 }), .int .u8 (x.toNat : Int), Value.string s,
          Value.func (Fn.func 79) #[] #[Value.pointer (some { block := w.heap.size + 1, off := 0 })], .int .u8 (x.toNat : Int), undef, undef], defers := [] }) ?assign ?body ?done ?stop
  case assign =>
    intro l x W K hK
    simp only [encOne]
    gi_wp2
    exact hK
  case body =>
    rintro l pre x W ⟨⟨hp, hcr, hfr⟩, hB⟩ _
    clear cn cb hB0
    have hx2 : x.toNat < 256 := x.toNat_lt
    by_cases hx : x = 255
    · have hd : ((x.toNat : Int) != 255) = false := by subst hx; rfl
      gi_wp2
      exact ⟨KeepsOthers.refl _, rfl, ⟨fun y hy => (List.mem_append.1 hy).elim (hp y) (fun e => by simp at e; rw [e]; exact hx), hcr, hfr⟩, hB⟩
    · have hne : x.toNat ≠ 255 := fun e => hx (UInt8.toNat_inj.1 e)
      have hd : ((x.toNat : Int) != 255) = true := by simp; omega
      gi_wp2
      exact ⟨KeepsOthers.setCell _ _ _, ⟨rfl, ⟨x, by simp, hx⟩, World.cell?_setCell_same' _ _ _ (by rw [hcr]; rfl)⟩, hB.setCell (p := ⟨w.heap.size, 0, none⟩) (Nat.le_refl _) _⟩
  case done =>
    rintro D ys W hD rfl ⟨⟨hne, hcr, hfr⟩, hB⟩ hK
    gi_wp2
    have hK' := (KeepsOthers.setCell W ⟨w.heap.size, 0, none⟩ (.bool true)).same D _ hK rfl
    refine ⟨by simp, .inl ⟨_, _, rfl, run_takeDeferred hK', ?_⟩⟩
    have hc5 := cell_kept (World.cell?_setCell_same' W ⟨w.heap.size, 0, none⟩ (.bool true) (by rw [hcr]; rfl)) (grownBy_putObj' _ D (.deferred none)) (fun r e => by cases e; exact ⟨_, hK', rfl⟩)
    have hcl : clearL s.data.toList = true := by unfold clearL; rw [List.all_eq_true]; intro b hb; simpa using hne b hb
    refine ⟨.bool true, ?_, by rw [hcl], (hB.setCell (p := ⟨w.heap.size, 0, none⟩) (Nat.le_refl _) _).trans (belowK_b (w := w) (Nat.le_refl _) _ D _ _ (by simp at hD; omega) hK' rfl rfl)⟩
    simp [results, Tryz.f28, go_sem, hc5]
  case stop =>
    rintro D c pre W hD hpre ⟨⟨rfl, ⟨y, hy, hyn⟩, hcr⟩, hB⟩ hK
    gi_wp2
    refine ⟨by simp, .inl ⟨_, _, rfl, run_takeDeferred hK, ?_⟩⟩
    have hc5 := cell_kept hcr (grownBy_putObj' _ D (.deferred none)) (fun r e => by cases e; exact ⟨_, hK, rfl⟩)
    have hcl : clearL s.data.toList = false := by
      cases h : clearL s.data.toList with
      | false => rfl
      | true =>
        unfold clearL at h
        rw [List.all_eq_true] at h
        have := h y (hpre.subset hy)
        simp at this
        exact absurd this hyn
    refine ⟨.bool false, ?_, by rw [hcl], hB.trans (belowK_b (w := w) (Nat.le_refl _) W D _ _ (by simp at hD; omega) hK rfl rfl)⟩
    simp [results, Tryz.f28, go_sem, hc5]
theorem clear_any (s : ByteArray) (w : World) (hs : s.size ≤ 1000000000) :
    Calls Tryz.prog 28 #[.string s] w fun e w' => e = .returned (.bool (clearL s.data.toList)) ∧ Below w.heap.size w w' :=
  callsIn_wide.1 (clear_in Fence.wide 3 trivial trivial trivial rfl (by omega) s hs w)
end Go.Proofs.YtipiioggdalkoaaGreatDoor
