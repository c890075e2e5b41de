/- Contracts of page.Bad, page.Next and what they ask of a place. -/
import Derived.Test.YtipiioggdalkoaaGreatDoorPgMark
namespace Go.Proofs.YtipiioggdalkoaaGreatDoor
open Go.RowKit Go.Shelf
set_option linter.unusedVariables false
set_option linter.unusedSimpArgs false

theorem clear_l (t : List UInt8) (w : World) (ht : t.length ≤ 1000000000) :
    Calls Tryz.prog 28 #[.string ⟨t.toArray⟩] w fun e w' => e = .returned (.bool (clearL t)) ∧ Below w.heap.size w w' := by
  have h := clear_any ⟨t.toArray⟩ w (by rw [size_mk]; exact ht)
  simpa using h
def isRec (t : List UInt8) : Bool := decide (readE t = 0)
theorem isRecord_any (t : List UInt8) (w : World) (ht : t.length ≤ 2056) :
    Calls Tryz.prog 39 #[.string ⟨t.toArray⟩] w fun e w' => e = .returned (.bool (isRec t)) ∧ Below w.heap.size w w' := by
  rcases readE_cases t with ⟨h0, _⟩ | ⟨h0, _⟩
  all_goals
    have HE := Lib.hid h0
    have HR := Lib.hid (show isRec t = decide (readE t = 0) from rfl)
    clear h0
    go_enter Tryz.func39, Tryz.ntmps39
    go_wp2_with fail
    ((with_reducible refine (read_any t _ ht).mono ?_); rintro e w1 ⟨rfl, hb⟩)
    rw [HE.out]
    have HB := Lib.hid hb
    clear hb
    go_wp2
    go_ret
    exact ⟨by rw [HR.out, HE.out]; rfl, HB.out⟩
def badP (t : List UInt8) : Bool := !clearL t && !isRec t
def nextP (t : List UInt8) : Bool := !clearL t
theorem next1_any (t : List UInt8) (w : World) (ht : t.length ≤ 2056) :
    Calls Tryz.prog 41 #[.string ⟨t.toArray⟩] w fun e w' => e = .returned (.bool (nextP t)) ∧ Below w.heap.size w w' := by
  have HR := Lib.hid (show nextP t = !clearL t from rfl)
  go_enter Tryz.func41, Tryz.ntmps41
  go_wp2_with fail
  ((with_reducible refine (clear_l t _ (by omega)).mono ?_); rintro e w1 ⟨rfl, hb⟩)
  have HB := Lib.hid hb
  clear hb
  go_wp2
  go_ret
  exact ⟨by rw [HR.out]; rfl, HB.out⟩
theorem bad1_any (t : List UInt8) (w : World) (ht : t.length ≤ 2056) :
    Calls Tryz.prog 38 #[.string ⟨t.toArray⟩] w fun e w' => e = .returned (.bool (badP t)) ∧ Below w.heap.size w w' := by
  have HR := Lib.hid (show badP t = (!clearL t && !isRec t) from rfl)
  cases hc : clearL t with
  | true =>
    have HC := Lib.hid hc
    clear hc
    go_enter Tryz.func38, Tryz.ntmps38
    go_wp2_with fail
    ((with_reducible refine (clear_l t _ (by omega)).mono ?_); rintro e w1 ⟨rfl, hb⟩)
    rw [HC.out]
    have HB := Lib.hid hb
    clear hb
    go_wp2
    go_ret
    exact ⟨by rw [HR.out, HC.out]; rfl, HB.out⟩
  | false =>
    have HC := Lib.hid hc
    clear hc
    go_enter Tryz.func38, Tryz.ntmps38
    go_wp2_with fail
    ((with_reducible refine (clear_l t _ (by omega)).mono ?_); rintro e w1 ⟨rfl, hb⟩)
    rw [HC.out]
    have HB := Lib.hid hb
    clear hb
    go_wp2_with fail
    ((with_reducible refine (isRecord_any t _ ht).mono ?_); rintro e w2 ⟨rfl, hb⟩)
    have HB2 := Lib.hid (HB.out.trans (hb.mono HB.out.size))
    clear hb
    go_wp2
    go_ret
    exact ⟨by rw [HR.out, HC.out]; rfl, HB2.out⟩
/-- How many places are neither records nor clear; one more than the last that is not clear. -/
def badN (s : List UInt8) (n : Int) : Nat := tcnt (fun i => badP (slotL s n i)) (List.range (roomN s n))
def nextN (s : List UInt8) (n : Int) : Nat := tend (fun i => nextP (slotL s n i)) (List.range (roomN s n))
theorem tally_new (w : World) : Tally (w.alloc (.cells #[.int .i64 0, .int .i64 0] 52)) w.heap.size 0 0 := by
  show (w.heap.push _)[w.heap.size]? = _
  simp
set_option maxHeartbeats 1000000 in
theorem bad_any (s : List UInt8) (n : Int) (w : World) (hs : s.length ≤ 1000000) (hz : szN n ≤ 2056 ∨ roomN s n = 0) :
    Calls Tryz.prog 19 #[.string ⟨s.toArray⟩, .int .i64 n] w fun e w' => e = .returned (.int .i64 (badN s n : Int)) ∧ Below w.heap.size w w' := by
  have hB0 : Below w.heap.size w (w.alloc (.cells #[.int .i64 0, .int .i64 0] 52)) := (Below.refl _ _).alloc (Nat.le_refl _) _
  have HB := Lib.hid hB0
  clear hB0
  go_enter Tryz.func19, Tryz.ntmps19
  go_wp2_with fail
  ((with_reducible refine (mark_any s n 38 w.heap.size badP _ hs hz (tally_new w) (enters_of Tryz.func38 (by kernel_rfl) rfl) (fun t W ht => bad1_any t W ht)).mono ?_); rintro e W1 ⟨⟨v9, rfl⟩, hT, hb⟩)
  have HB2 := Lib.hid (HB.out.trans hb)
  have k0 : W1.cell? ⟨w.heap.size, 0, none⟩ = some (.int .i64 (badN s n : Int)) := by
    have h : W1.heap[w.heap.size]? = _ := hT
    simp only [World.cell?, h]
    rfl
  clear hT hb
  go_wp2
  go_ret
  exact ⟨rfl, HB2.out⟩
set_option maxHeartbeats 1000000 in
theorem next_any (s : List UInt8) (n : Int) (w : World) (hs : s.length ≤ 1000000) (hz : szN n ≤ 2056 ∨ roomN s n = 0) :
    Calls Tryz.prog 20 #[.string ⟨s.toArray⟩, .int .i64 n] w fun e w' => e = .returned (.int .i64 (nextN s n : Int)) ∧ Below w.heap.size w w' := by
  have hB0 : Below w.heap.size w (w.alloc (.cells #[.int .i64 0, .int .i64 0] 52)) := (Below.refl _ _).alloc (Nat.le_refl _) _
  have HB := Lib.hid hB0
  clear hB0
  go_enter Tryz.func20, Tryz.ntmps20
  go_wp2_with fail
  ((with_reducible refine (mark_any s n 41 w.heap.size nextP _ hs hz (tally_new w) (enters_of Tryz.func41 (by kernel_rfl) rfl) (fun t W ht => next1_any t W ht)).mono ?_); rintro e W1 ⟨⟨v9, rfl⟩, hT, hb⟩)
  have HB2 := Lib.hid (HB.out.trans hb)
  have k0 : W1.cell? ⟨w.heap.size, 1, none⟩ = some (.int .i64 (nextN s n : Int)) := by
    have h : W1.heap[w.heap.size]? = _ := hT
    simp only [World.cell?, h]
    rfl
  clear hT hb
  go_wp2
  go_ret
  exact ⟨rfl, HB2.out⟩
end Go.Proofs.YtipiioggdalkoaaGreatDoor
