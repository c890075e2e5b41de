/- page.places and its closure: each whole place, with its number. What is counted in it. -/
import Derived.Test.YtipiioggdalkoaaGreatDoorPgBase
import Derived.Test.YtipiioggdalkoaaGreatDoorRecIter
namespace Go.Proofs.YtipiioggdalkoaaGreatDoor
open Go.RowKit Go.Shelf
set_option linter.unusedVariables false
attribute [local go_sem] Oper.semAt_some

def encPl (s : List UInt8) (n : Int) (x : Nat) : Array Value := #[.int .i64 (x : Int), .string ⟨(slotL s n x).toArray⟩]
/-- Two boxes stay. -/
def Box2 (b c : Nat) (W W' : World) : Prop := W'.cell? ⟨b, 0, none⟩ = W.cell? ⟨b, 0, none⟩ ∧ W'.cell? ⟨c, 0, none⟩ = W.cell? ⟨c, 0, none⟩
theorem box2_t (b c : Nat) {A B C : World} (h : Box2 b c A B) (k : Box2 b c B C) : Box2 b c A C := ⟨k.1.trans h.1, k.2.trans h.2⟩
theorem box2_put (b c m : Nat) (hb : b < m) (hc : c < m) (W : World) (l : Nat) (o o' : Obj) (h : m ≤ l) (h1 : W.heap[l]? = some o) (h2 : o.isCells = false) (h3 : o.isWalk = false) : Box2 b c W (W.putObj l o') :=
  ⟨boxKept_put b m hb W l o o' h h1 h2 h3, boxKept_put c m hc W l o o' h h1 h2 h3⟩

set_option maxRecDepth 100000 in
set_option maxHeartbeats 1000000 in
theorem places1_in (m : Nat) (hm : 1 ≤ m) (l Bs Bn : Nat) (s : List UInt8) (n : Int) (hs : s.length ≤ 1000000000) (J Jx : List Nat → World → Prop)
    (hY : ∀ pre x W, J pre W → x < roomN s n → pre.length < roomN s n → YieldAt Fence.wide (m - 1) Tryz.prog l (encPl s n x) W fun e W' =>
      (e = .returned (.bool true) ∧ J (pre ++ [x]) W' ∧ Box2 Bs Bn W W') ∨ (e = .returned (.bool false) ∧ Jx (pre ++ [x]) W'))
    (W : World) (hBs : W.cell? ⟨Bs, 0, none⟩ = some (.string ⟨s.toArray⟩)) (hBn : W.cell? ⟨Bn, 0, none⟩ = some (.int .i64 n)) (h0 : J [] W) :
    CallsIn Fence.wide m Tryz.prog 63 #[.func (.yield l) #[] #[], .pointer (some ⟨Bs, 0, none⟩), .pointer (some ⟨Bn, 0, none⟩)] W fun e W' => (∃ v, e = .returned v) ∧
      ((∃ ys, ys = List.range (roomN s n) ∧ J ys W') ∨ (∃ pre, pre <+: List.range (roomN s n) ∧ Jx pre W')) := by
  refine callsIn_of_wp Tryz.func63 rfl trivial ?_ rfl
  simp only [Tryz.ntmps63, List.size_toArray, List.length_cons, List.length_nil, Nat.reduceAdd, Nat.reduceSub, Array.replicate_succ, Array.replicate_zero, List.push_toArray, List.append_toArray, List.nil_append, List.cons_append]
  gi_wp2_with (refine ⟨trivial, (callsIn_wide.2 (room_any s n _ hs)).mono ?_⟩; rintro e w' ⟨rfl, rfl⟩)
  have hr1 : roomN s n ≤ 1000000000 := Nat.le_trans (roomN_len s n) hs
  gi_loopw [8] (fun i wr => ∃ k : Nat, k ≤ roomN s n ∧ i = .int .i64 k ∧ J (List.range k) wr ∧ wr.cell? ⟨Bs, 0, none⟩ = some (.string ⟨s.toArray⟩) ∧ wr.cell? ⟨Bn, 0, none⟩ = some (.int .i64 n))
    (fun i _ => roomN s n - (intOf i).toNat)
  case atStart => exact ⟨0, Nat.zero_le _, rfl, h0, hBs, hBn⟩
  case round =>
    obtain ⟨k, hk, rfl, hJs, hcs, hcn⟩ := hrel
    by_cases hlt : k < roomN s n
    · have d1 : decide ((k : Int) < (roomN s n : Int)) = true := by simpa using hlt
      obtain ⟨fn, tmps, assign, body, hy, hR⟩ := hY _ k wr hJs hlt (by simpa using hlt)
      simp only [encPl] at hy
      rw [← List.range_succ] at hR
      gi_wp2_with (refine ⟨trivial, (callsIn_wide.2 (slot_yes s n k _ hs hlt)).mono ?_⟩; rintro e w' ⟨rfl, rfl⟩)
      refine hR.mono ?_
      rintro e W3 (⟨rfl, hJ3, hk3⟩ | ⟨rfl, hJx3⟩)
      · have hc3 := hk3.1.trans hcs
        have hc4 := hk3.2.trans hcn
        gi_wp2
        go_roundw
        case rel => exact ⟨k + 1, by omega, by go_num, hJ3, hc3, hc4⟩
        case measure => simp [intOf]; omega
      · gi_wp2
        refine bodyPost_ret (results_none rfl _ _ _) rfl ?_
        refine ⟨⟨_, rfl⟩, .inr ⟨_, ?_, hJx3⟩⟩
        exact ⟨(List.range (roomN s n)).drop (k + 1), by
          conv => rhs; rw [← List.take_append_drop (k + 1) (List.range (roomN s n))]
          rw [List.take_range, Nat.min_eq_left (by omega)]⟩
    · have d1 : decide ((k : Int) < (roomN s n : Int)) = false := by simp; omega
      obtain rfl : k = roomN s n := by omega
      gi_wp2
      go_end0
      exact ⟨⟨_, rfl⟩, .inl ⟨_, rfl, hJs⟩⟩

set_option maxHeartbeats 1000000 in
theorem places_in (m : Nat) (s : List UInt8) (n : Int) (w : World) :
    CallsIn Fence.wide m Tryz.prog 34 #[.string ⟨s.toArray⟩, .int .i64 n] w fun e w' => e = .returned (.func (.func 63) #[] #[.pointer (some ⟨w.heap.size, 0, none⟩), .pointer (some ⟨w.heap.size + 1, 0, none⟩)]) ∧ w' = (w.alloc (.cells #[.string ⟨s.toArray⟩] 9)).alloc (.cells #[.int .i64 n] 3) := by
  refine callsIn_of_wp Tryz.func34 rfl trivial ?_ rfl
  simp only [Tryz.ntmps34, List.size_toArray, List.length_cons, List.length_nil, Nat.reduceAdd, Nat.reduceSub, Array.replicate_succ, Array.replicate_zero, List.push_toArray, List.append_toArray, List.nil_append, List.cons_append]
  gi_wp2
  go_ret
  exact ⟨by simp, rfl⟩
theorem places_stops (m : Nat) (hm : 1 ≤ m) (Bs Bn : Nat) (s : List UInt8) (n : Int) (hs : s.length ≤ 1000000000) (w : World) (hB : Bs < w.heap.size) (hBs : w.cell? ⟨Bs, 0, none⟩ = some (.string ⟨s.toArray⟩)) (hB2 : Bn < w.heap.size) (hBn : w.cell? ⟨Bn, 0, none⟩ = some (.int .i64 n)) :
    SeqStopsK Fence.wide m Tryz.prog 63 #[.pointer (some ⟨Bs, 0, none⟩), .pointer (some ⟨Bn, 0, none⟩)] (fun x : Fin (roomN s n) => encPl s n x.val) (Box2 Bs Bn) (fun ys => ys.map Fin.val = List.range (roomN s n)) (fun _ => True) (roomN s n) w := fun l J Jx W hW _ _ hY h0 =>
  (places1_in m hm l Bs Bn s n hs (fun ns W => ∃ p : List (Fin (roomN s n)), p.map Fin.val = ns ∧ J p W) (fun ns W => ∃ p : List (Fin (roomN s n)), p.map Fin.val = ns ∧ Jx p W)
    (fun pre x W ⟨p, hp, hJ⟩ hx h2 => (hY p ⟨x, hx⟩ W hJ (by rw [← hp, List.length_map] at h2; exact h2)).mono fun e W' h => by
      rcases h with ⟨rfl, h, hk⟩ | ⟨rfl, h⟩
      · exact .inl ⟨rfl, ⟨_, by simp [hp], h⟩, hk⟩
      · exact .inr ⟨rfl, ⟨_, by simp [hp], h⟩⟩) W ((hW.cell (p := ⟨Bs, 0, none⟩) hB).trans hBs) ((hW.cell (p := ⟨Bn, 0, none⟩) hB2).trans hBn) ⟨[], rfl, h0⟩).mono fun e W' ⟨he, h⟩ => by
    refine ⟨he, ?_⟩
    rcases h with ⟨ys, rfl, p, hp, hJ⟩ | ⟨pre, _, p, hp, hJ⟩
    · exact .inl ⟨p, hp, hJ⟩
    · exact .inr ⟨p, trivial, hJ⟩
end Go.Proofs.YtipiioggdalkoaaGreatDoor
