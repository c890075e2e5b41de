/- Joined texts: contracts of the program's functions, and the mathematics that they lean on. -/
import Derived.Test.YtkjghoomdefbbaaGreatDoorPartF
import Derived.Maps.AppendAt
import Derived.OwnWalk
import Derived.Laws.BytesArg
import Derived.Deep.Slices
import Derived.RegionTactic
section
namespace Go.Proofs.YtkjghoomdefbbaaGreatDoor
open Go.RowKit
set_option linter.unusedVariables false
set_option linter.unusedSimpArgs false

theorem eql_i4 {P : Program} (t e : TypeId) (x0 x1 x2 x3 y0 y1 y2 y3 : Int) (b : Bool) (hu : P.underlying t = some (.array 4 e)) (he : P.underlying e = some (.int .i64)) (hi : (P.info? e).map (·.size) = some 1)
    (hb : (x0 == y0 && x1 == y1 && x2 == y2 && x3 == y3) = b) (w : World) :
    (binOp .eql t (.agg #[.int .i64 x0, .int .i64 x1, .int .i64 x2, .int .i64 x3]) (.agg #[.int .i64 y0, .int .i64 y1, .int .i64 y2, .int .i64 y3])).run P w = .ok (.bool b) w := by
  obtain ⟨ie, hie, hz⟩ := Option.map_eq_some_iff.1 hi
  have hc : P.cellsOf e = 1 := by simp [Program.cellsOf, hie, hz]
  rw [run_eql_struct, show (10000 : Nat) = 9999 + 1 from rfl, run_equalIn_array w 9999 _ _ hu hie, hc]
  have hsz : ∀ w, (sizeOf e).run P w = .ok 1 w := fun w => by simp [sizeOf, typeInfo, hie, hz]
  rw [show List.range 4 = [0, 1, 2, 3] from rfl, ← hb]
  have hp : ∀ (xs : Array Value) (off : Nat) (v : Value) (w : World), xs[off]? = some v → (part e xs off).run P w = .ok v w := fun xs off v w hx => by simp [part, isAgg, run_underlying he, hx]
  have heq : ∀ (x y : Int) (w : World), (Op.equalIn 9999 e (.int .i64 x) (.int .i64 y)).run P w = .ok (x == y) w := fun x y w => run_equalIn_int w 9998 e .i64 .i64 x y he
  simp only [Op.eqItems, Sem.run_bind, Nat.zero_mul, Nat.mul_one]
  rw [hp _ 0 (.int .i64 x0) w rfl]
  simp only [Result.andThen_ok]
  rw [hp _ 0 (.int .i64 y0) w rfl]
  simp only [Result.andThen_ok]
  rw [heq x0 y0]
  cases h0 : x0 == y0 with
  | false => simp
  | true =>
    simp only [Result.andThen_ok, Bool.not_true, Bool.false_eq_true, if_false, Sem.run_pure, Sem.run_bind]
    rw [hp _ 1 (.int .i64 x1) w rfl]
    simp only [Result.andThen_ok]
    rw [hp _ 1 (.int .i64 y1) w rfl]
    simp only [Result.andThen_ok]
    rw [heq x1 y1]
    cases h1 : x1 == y1 with
    | false => simp
    | true =>
      simp only [Result.andThen_ok, Bool.not_true, Bool.false_eq_true, if_false, Sem.run_pure, Sem.run_bind]
      rw [hp _ 2 (.int .i64 x2) w rfl]
      simp only [Result.andThen_ok]
      rw [hp _ 2 (.int .i64 y2) w rfl]
      simp only [Result.andThen_ok]
      rw [heq x2 y2]
      cases h2 : x2 == y2 with
      | false => simp
      | true =>
        simp only [Result.andThen_ok, Bool.not_true, Bool.false_eq_true, if_false, Sem.run_pure, Sem.run_bind]
        rw [hp _ 3 (.int .i64 x3) w rfl]
        simp only [Result.andThen_ok]
        rw [hp _ 3 (.int .i64 y3) w rfl]
        simp only [Result.andThen_ok]
        rw [heq x3 y3]
        cases h3 : x3 == y3 with
        | false => simp
        | true => simp
theorem neq_i4 {P : Program} (t e : TypeId) (x0 x1 x2 x3 y0 y1 y2 y3 : Int) (b : Bool) (hu : P.underlying t = some (.array 4 e)) (he : P.underlying e = some (.int .i64)) (hi : (P.info? e).map (·.size) = some 1)
    (hb : (x0 == y0 && x1 == y1 && x2 == y2 && x3 == y3) = b) (w : World) :
    (binOp .neq t (.agg #[.int .i64 x0, .int .i64 x1, .int .i64 x2, .int .i64 x3]) (.agg #[.int .i64 y0, .int .i64 y1, .int .i64 y2, .int .i64 y3])).run P w = .ok (.bool (!b)) w := by
  obtain ⟨ie, hie, hz⟩ := Option.map_eq_some_iff.1 hi
  have hc : P.cellsOf e = 1 := by simp [Program.cellsOf, hie, hz]
  rw [run_neq_struct, show (10000 : Nat) = 9999 + 1 from rfl, run_equalIn_array w 9999 _ _ hu hie, hc]
  have hsz : ∀ w, (sizeOf e).run P w = .ok 1 w := fun w => by simp [sizeOf, typeInfo, hie, hz]
  rw [show List.range 4 = [0, 1, 2, 3] from rfl, ← hb]
  have hp : ∀ (xs : Array Value) (off : Nat) (v : Value) (w : World), xs[off]? = some v → (part e xs off).run P w = .ok v w := fun xs off v w hx => by simp [part, isAgg, run_underlying he, hx]
  have heq : ∀ (x y : Int) (w : World), (Op.equalIn 9999 e (.int .i64 x) (.int .i64 y)).run P w = .ok (x == y) w := fun x y w => run_equalIn_int w 9998 e .i64 .i64 x y he
  simp only [Op.eqItems, Sem.run_bind, Nat.zero_mul, Nat.mul_one]
  rw [hp _ 0 (.int .i64 x0) w rfl]
  simp only [Result.andThen_ok]
  rw [hp _ 0 (.int .i64 y0) w rfl]
  simp only [Result.andThen_ok]
  rw [heq x0 y0]
  cases h0 : x0 == y0 with
  | false => simp
  | true =>
    simp only [Result.andThen_ok, Bool.not_true, Bool.false_eq_true, if_false, Sem.run_pure, Sem.run_bind]
    rw [hp _ 1 (.int .i64 x1) w rfl]
    simp only [Result.andThen_ok]
    rw [hp _ 1 (.int .i64 y1) w rfl]
    simp only [Result.andThen_ok]
    rw [heq x1 y1]
    cases h1 : x1 == y1 with
    | false => simp
    | true =>
      simp only [Result.andThen_ok, Bool.not_true, Bool.false_eq_true, if_false, Sem.run_pure, Sem.run_bind]
      rw [hp _ 2 (.int .i64 x2) w rfl]
      simp only [Result.andThen_ok]
      rw [hp _ 2 (.int .i64 y2) w rfl]
      simp only [Result.andThen_ok]
      rw [heq x2 y2]
      cases h2 : x2 == y2 with
      | false => simp
      | true =>
        simp only [Result.andThen_ok, Bool.not_true, Bool.false_eq_true, if_false, Sem.run_pure, Sem.run_bind]
        rw [hp _ 3 (.int .i64 x3) w rfl]
        simp only [Result.andThen_ok]
        rw [hp _ 3 (.int .i64 y3) w rfl]
        simp only [Result.andThen_ok]
        rw [heq x3 y3]
        cases h3 : x3 == y3 with
        | false => simp
        | true => simp

attribute [local irreducible] setN
def d1 (x y : Int) (p : Nat) : Nat := if x = y then 0 else p
/-- The mask behind k rounds. -/
def dmk (a b c d e f g h : Int) : Nat → Nat
  | 0 => 0
  | 1 => d1 a e 1
  | 2 => d1 a e 1 + d1 b f 2
  | 3 => d1 a e 1 + d1 b f 2 + d1 c g 4
  | _ => d1 a e 1 + d1 b f 2 + d1 c g 4 + d1 d h 8
theorem d1_le (x y : Int) (p : Nat) : d1 x y p ≤ p := by unfold d1; split <;> omega
theorem dmk_lt (a b c d e f g h : Int) (k : Nat) (hk : k < 4) : dmk a b c d e f g h k < 2 ^ k := by
  have h0 := d1_le a e 1
  have h1 := d1_le b f 2
  have h2 := d1_le c g 4
  have h4 : k = 0 ∨ k = 1 ∨ k = 2 ∨ k = 3 := by omega
  rcases h4 with rfl | rfl | rfl | rfl <;> simp only [dmk] <;> omega
theorem or_bit (m k : Nat) (hk : k < 4) (hm : m < 2 ^ k) : bits .or .i64 (m : Int) ((2 ^ k : Nat) : Int) = ((m + 2 ^ k : Nat) : Int) := by
  have h4 : k = 0 ∨ k = 1 ∨ k = 2 ∨ k = 3 := by omega
  rcases h4 with rfl | rfl | rfl | rfl
  · obtain rfl : m = 0 := by omega
    rfl
  · have : m = 0 ∨ m = 1 := by omega
    rcases this with rfl | rfl <;> rfl
  · have : m = 0 ∨ m = 1 ∨ m = 2 ∨ m = 3 := by omega
    rcases this with rfl | rfl | rfl | rfl <;> rfl
  · have : m = 0 ∨ m = 1 ∨ m = 2 ∨ m = 3 ∨ m = 4 ∨ m = 5 ∨ m = 6 ∨ m = 7 := by omega
    rcases this with rfl | rfl | rfl | rfl | rfl | rfl | rfl | rfl <;> rfl
set_option maxRecDepth 100000 in
set_option maxHeartbeats 4000000 in
theorem differ_any (a b c d e f g h : Int) (w : World) : Calls Tryz.prog 19 #[.agg #[.int .i64 a, .int .i64 b, .int .i64 c, .int .i64 d], .agg #[.int .i64 e, .int .i64 f, .int .i64 g, .int .i64 h]] w fun E w' => E = .returned (.int .i64 (dmk a b c d e f g h 4 : Int)) ∧ Below w.heap.size w w' := by
  have C := Lib.hid (show Below w.heap.size w ((w.alloc (.cells #[.int .i64 a, .int .i64 b, .int .i64 c, .int .i64 d] 26)).alloc (.cells #[.int .i64 e, .int .i64 f, .int .i64 g, .int .i64 h] 26)) from ((Below.refl _ w).alloc (Nat.le_refl _) _).alloc (by simp) _)
  have BA := Lib.hid ((Blk.new w 26 [.int .i64 a, .int .i64 b, .int .i64 c, .int .i64 d] w.heap.size rfl).alloc (.cells #[.int .i64 e, .int .i64 f, .int .i64 g, .int .i64 h] 26))
  have BB := Lib.hid (Blk.new (w.alloc (.cells #[.int .i64 a, .int .i64 b, .int .i64 c, .int .i64 d] 26)) 26 [.int .i64 e, .int .i64 f, .int .i64 g, .int .i64 h] (w.heap.size + 1) (by simp))
  go_enter Tryz.func19, Tryz.ntmps19
  go_wp2
  generalize ((w.alloc (.cells #[.int .i64 a, .int .i64 b, .int .i64 c, .int .i64 d] 26)).alloc (.cells #[.int .i64 e, .int .i64 f, .int .i64 g, .int .i64 h] 26)) = W0 at *
  go_loopw [5, 8] (fun s i wr => ∃ k : Nat, k ≤ 4 ∧ i = .int .i64 (k : Int) ∧ s = .int .i64 (dmk a b c d e f g h k : Int) ∧ Hid (Blk wr w.heap.size [.int .i64 a, .int .i64 b, .int .i64 c, .int .i64 d]) ∧ Hid (Blk wr (w.heap.size + 1) [.int .i64 e, .int .i64 f, .int .i64 g, .int .i64 h]) ∧ Hid (Below w.heap.size w wr)) (fun _ i _ => 4 - (intOf i).toNat)
  case atStart => exact ⟨0, by omega, rfl, rfl, BA, BB, C⟩
  case round =>
    clear C BA BB
    obtain ⟨k, hk, rfl, rfl, BA, BB, C⟩ := hrel
    by_cases hlt : k < 4
    · have h4 : k = 0 ∨ k = 1 ∨ k = 2 ∨ k = 3 := by omega
      rcases h4 with rfl | rfl | rfl | rfl
      · skip
        have hm : dmk a b c d e f g h 0 < 2 ^ 0 := dmk_lt a b c d e f g h 0 (by decide)
        have HM := Lib.hid (show dmk a b c d e f g h 1 = dmk a b c d e f g h 0 + d1 a e 1 from (Nat.zero_add _).symm)
        generalize dmk a b c d e f g h 0 = m at *
        have K2 := Lib.hid (Blk.new wr 26 [.int .i64 a, .int .i64 b, .int .i64 c, .int .i64 d] wr.heap.size rfl)
        have hsz := C.out.size
        have hbw : Below wr.heap.size wr (wr.alloc (.cells #[.int .i64 a, .int .i64 b, .int .i64 c, .int .i64 d] 26)) := (Below.refl _ _).alloc (Nat.le_refl _) _
        have BA1 := Lib.hid (BA.out.keep hbw)
        have BB1 := Lib.hid (BB.out.keep hbw)
        have la := BA.out.lt
        have lb := BB.out.lt
        have hb3 : Below wr.heap.size wr (wr.alloc (.cells #[.int .i64 e, .int .i64 b, .int .i64 c, .int .i64 d] 26)) := (Below.refl _ _).alloc (Nat.le_refl _) _
        have K3 := Lib.hid (Blk.new wr 26 [.int .i64 e, .int .i64 b, .int .i64 c, .int .i64 d] wr.heap.size rfl)
        have A3 := Lib.hid (BA.out.keep hb3)
        have B3 := Lib.hid (BB.out.keep hb3)
        have C3 := Lib.hid (C.out.trans (hb3.mono hsz))
        have ka0 := BA.out.cells.2 0 _ rfl
        have ka1 := BA.out.cells.2 1 _ rfl
        have ka2 := BA.out.cells.2 2 _ rfl
        have ka3 := BA.out.cells.2 3 _ rfl
        have kb := BB1.out.cells.2 0 _ rfl
        have kf := K2.out.free 0
        have kx := K2.out.cells.2 0 _ rfl
        have r0 := K3.out.cells.2 0 _ rfl
        have r1 := K3.out.cells.2 1 _ rfl
        have r2 := K3.out.cells.2 2 _ rfl
        have r3 := K3.out.cells.2 3 _ rfl
        have s0 := A3.out.cells.2 0 _ rfl
        have s1 := A3.out.cells.2 1 _ rfl
        have s2 := A3.out.cells.2 2 _ rfl
        have s3 := A3.out.cells.2 3 _ rfl
        clear hbw hb3 la lb hsz
        by_cases hk : a = e
        · have HK := Lib.hid hk
          clear hk
          have hne : ∀ W, (binOp .neq 26 (.agg #[.int .i64 e, .int .i64 b, .int .i64 c, .int .i64 d]) (.agg #[.int .i64 a, .int .i64 b, .int .i64 c, .int .i64 d])).run Tryz.prog W = .ok (.bool false) W := fun W => neq_i4 26 3 e b c d a b c d true Tryz.underlying26 Tryz.underlying3 (by kernel_rfl) (by have h2 := HK.out; simp [h2]) W
          go_wp2
          go_roundw
          case rel => exact ⟨1, by omega, rfl, by rw [HM.out]; unfold d1; rw [if_pos HK.out] <;> rfl, A3, B3, C3⟩
          case measure => simp [intOf]
        · have HK := Lib.hid hk
          clear hk
          have hne : ∀ W, (binOp .neq 26 (.agg #[.int .i64 e, .int .i64 b, .int .i64 c, .int .i64 d]) (.agg #[.int .i64 a, .int .i64 b, .int .i64 c, .int .i64 d])).run Tryz.prog W = .ok (.bool true) W := fun W => neq_i4 26 3 e b c d a b c d false Tryz.underlying26 Tryz.underlying3 (by kernel_rfl) (by have h2 : ¬ e = a := fun h => HK.out h.symm; simp [h2]) W
          have hor : bits .or .i64 (m : Int) 1 = ((m + 1 : Nat) : Int) := or_bit m 0 (by decide) hm
          go_wp2_with fail
          generalize (wr.alloc (.cells #[.int .i64 e, .int .i64 b, .int .i64 c, .int .i64 d] 26)) = W3 at *
          refine (show Calls Tryz.prog 41 #[.int .i64 0] _ (fun e w' => e = .returned (.int .i64 1) ∧ Below _ _ w') from bit_any 0 W3 (by decide)).mono ?_
          rintro e' w' ⟨rfl, hb⟩
          have A4 := Lib.hid (A3.out.keep hb)
          have B4 := Lib.hid (B3.out.keep hb)
          have C4 := Lib.hid (C3.out.trans (hb.mono C3.out.size))
          clear hb
          go_wp2
          go_roundw
          case rel => exact ⟨1, by omega, rfl, by rw [HM.out]; unfold d1; rw [if_neg HK.out] <;> rfl, A4, B4, C4⟩
          case measure => simp [intOf]
      · skip
        have hm : dmk a b c d e f g h 1 < 2 ^ 1 := dmk_lt a b c d e f g h 1 (by decide)
        have HM := Lib.hid (show dmk a b c d e f g h 2 = dmk a b c d e f g h 1 + d1 b f 2 from rfl)
        generalize dmk a b c d e f g h 1 = m at *
        have K2 := Lib.hid (Blk.new wr 26 [.int .i64 a, .int .i64 b, .int .i64 c, .int .i64 d] wr.heap.size rfl)
        have hsz := C.out.size
        have hbw : Below wr.heap.size wr (wr.alloc (.cells #[.int .i64 a, .int .i64 b, .int .i64 c, .int .i64 d] 26)) := (Below.refl _ _).alloc (Nat.le_refl _) _
        have BA1 := Lib.hid (BA.out.keep hbw)
        have BB1 := Lib.hid (BB.out.keep hbw)
        have la := BA.out.lt
        have lb := BB.out.lt
        have hb3 : Below wr.heap.size wr (wr.alloc (.cells #[.int .i64 a, .int .i64 f, .int .i64 c, .int .i64 d] 26)) := (Below.refl _ _).alloc (Nat.le_refl _) _
        have K3 := Lib.hid (Blk.new wr 26 [.int .i64 a, .int .i64 f, .int .i64 c, .int .i64 d] wr.heap.size rfl)
        have A3 := Lib.hid (BA.out.keep hb3)
        have B3 := Lib.hid (BB.out.keep hb3)
        have C3 := Lib.hid (C.out.trans (hb3.mono hsz))
        have ka0 := BA.out.cells.2 0 _ rfl
        have ka1 := BA.out.cells.2 1 _ rfl
        have ka2 := BA.out.cells.2 2 _ rfl
        have ka3 := BA.out.cells.2 3 _ rfl
        have kb := BB1.out.cells.2 1 _ rfl
        have kf := K2.out.free 1
        have kx := K2.out.cells.2 1 _ rfl
        have r0 := K3.out.cells.2 0 _ rfl
        have r1 := K3.out.cells.2 1 _ rfl
        have r2 := K3.out.cells.2 2 _ rfl
        have r3 := K3.out.cells.2 3 _ rfl
        have s0 := A3.out.cells.2 0 _ rfl
        have s1 := A3.out.cells.2 1 _ rfl
        have s2 := A3.out.cells.2 2 _ rfl
        have s3 := A3.out.cells.2 3 _ rfl
        clear hbw hb3 la lb hsz
        by_cases hk : b = f
        · have HK := Lib.hid hk
          clear hk
          have hne : ∀ W, (binOp .neq 26 (.agg #[.int .i64 a, .int .i64 f, .int .i64 c, .int .i64 d]) (.agg #[.int .i64 a, .int .i64 b, .int .i64 c, .int .i64 d])).run Tryz.prog W = .ok (.bool false) W := fun W => neq_i4 26 3 a f c d a b c d true Tryz.underlying26 Tryz.underlying3 (by kernel_rfl) (by have h2 := HK.out; simp [h2]) W
          go_wp2
          go_roundw
          case rel => exact ⟨2, by omega, rfl, by rw [HM.out]; unfold d1; rw [if_pos HK.out] <;> rfl, A3, B3, C3⟩
          case measure => simp [intOf]
        · have HK := Lib.hid hk
          clear hk
          have hne : ∀ W, (binOp .neq 26 (.agg #[.int .i64 a, .int .i64 f, .int .i64 c, .int .i64 d]) (.agg #[.int .i64 a, .int .i64 b, .int .i64 c, .int .i64 d])).run Tryz.prog W = .ok (.bool true) W := fun W => neq_i4 26 3 a f c d a b c d false Tryz.underlying26 Tryz.underlying3 (by kernel_rfl) (by have h2 : ¬ f = b := fun h => HK.out h.symm; simp [h2]) W
          have hor : bits .or .i64 (m : Int) 2 = ((m + 2 : Nat) : Int) := or_bit m 1 (by decide) hm
          go_wp2_with fail
          generalize (wr.alloc (.cells #[.int .i64 a, .int .i64 f, .int .i64 c, .int .i64 d] 26)) = W3 at *
          refine (show Calls Tryz.prog 41 #[.int .i64 1] _ (fun e w' => e = .returned (.int .i64 2) ∧ Below _ _ w') from bit_any 1 W3 (by decide)).mono ?_
          rintro e' w' ⟨rfl, hb⟩
          have A4 := Lib.hid (A3.out.keep hb)
          have B4 := Lib.hid (B3.out.keep hb)
          have C4 := Lib.hid (C3.out.trans (hb.mono C3.out.size))
          clear hb
          go_wp2
          go_roundw
          case rel => exact ⟨2, by omega, rfl, by rw [HM.out]; unfold d1; rw [if_neg HK.out] <;> rfl, A4, B4, C4⟩
          case measure => simp [intOf]
      · skip
        have hm : dmk a b c d e f g h 2 < 2 ^ 2 := dmk_lt a b c d e f g h 2 (by decide)
        have HM := Lib.hid (show dmk a b c d e f g h 3 = dmk a b c d e f g h 2 + d1 c g 4 from rfl)
        generalize dmk a b c d e f g h 2 = m at *
        have K2 := Lib.hid (Blk.new wr 26 [.int .i64 a, .int .i64 b, .int .i64 c, .int .i64 d] wr.heap.size rfl)
        have hsz := C.out.size
        have hbw : Below wr.heap.size wr (wr.alloc (.cells #[.int .i64 a, .int .i64 b, .int .i64 c, .int .i64 d] 26)) := (Below.refl _ _).alloc (Nat.le_refl _) _
        have BA1 := Lib.hid (BA.out.keep hbw)
        have BB1 := Lib.hid (BB.out.keep hbw)
        have la := BA.out.lt
        have lb := BB.out.lt
        have hb3 : Below wr.heap.size wr (wr.alloc (.cells #[.int .i64 a, .int .i64 b, .int .i64 g, .int .i64 d] 26)) := (Below.refl _ _).alloc (Nat.le_refl _) _
        have K3 := Lib.hid (Blk.new wr 26 [.int .i64 a, .int .i64 b, .int .i64 g, .int .i64 d] wr.heap.size rfl)
        have A3 := Lib.hid (BA.out.keep hb3)
        have B3 := Lib.hid (BB.out.keep hb3)
        have C3 := Lib.hid (C.out.trans (hb3.mono hsz))
        have ka0 := BA.out.cells.2 0 _ rfl
        have ka1 := BA.out.cells.2 1 _ rfl
        have ka2 := BA.out.cells.2 2 _ rfl
        have ka3 := BA.out.cells.2 3 _ rfl
        have kb := BB1.out.cells.2 2 _ rfl
        have kf := K2.out.free 2
        have kx := K2.out.cells.2 2 _ rfl
        have r0 := K3.out.cells.2 0 _ rfl
        have r1 := K3.out.cells.2 1 _ rfl
        have r2 := K3.out.cells.2 2 _ rfl
        have r3 := K3.out.cells.2 3 _ rfl
        have s0 := A3.out.cells.2 0 _ rfl
        have s1 := A3.out.cells.2 1 _ rfl
        have s2 := A3.out.cells.2 2 _ rfl
        have s3 := A3.out.cells.2 3 _ rfl
        clear hbw hb3 la lb hsz
        by_cases hk : c = g
        · have HK := Lib.hid hk
          clear hk
          have hne : ∀ W, (binOp .neq 26 (.agg #[.int .i64 a, .int .i64 b, .int .i64 g, .int .i64 d]) (.agg #[.int .i64 a, .int .i64 b, .int .i64 c, .int .i64 d])).run Tryz.prog W = .ok (.bool false) W := fun W => neq_i4 26 3 a b g d a b c d true Tryz.underlying26 Tryz.underlying3 (by kernel_rfl) (by have h2 := HK.out; simp [h2]) W
          go_wp2
          go_roundw
          case rel => exact ⟨3, by omega, rfl, by rw [HM.out]; unfold d1; rw [if_pos HK.out] <;> rfl, A3, B3, C3⟩
          case measure => simp [intOf]
        · have HK := Lib.hid hk
          clear hk
          have hne : ∀ W, (binOp .neq 26 (.agg #[.int .i64 a, .int .i64 b, .int .i64 g, .int .i64 d]) (.agg #[.int .i64 a, .int .i64 b, .int .i64 c, .int .i64 d])).run Tryz.prog W = .ok (.bool true) W := fun W => neq_i4 26 3 a b g d a b c d false Tryz.underlying26 Tryz.underlying3 (by kernel_rfl) (by have h2 : ¬ g = c := fun h => HK.out h.symm; simp [h2]) W
          have hor : bits .or .i64 (m : Int) 4 = ((m + 4 : Nat) : Int) := or_bit m 2 (by decide) hm
          go_wp2_with fail
          generalize (wr.alloc (.cells #[.int .i64 a, .int .i64 b, .int .i64 g, .int .i64 d] 26)) = W3 at *
          refine (show Calls Tryz.prog 41 #[.int .i64 2] _ (fun e w' => e = .returned (.int .i64 4) ∧ Below _ _ w') from bit_any 2 W3 (by decide)).mono ?_
          rintro e' w' ⟨rfl, hb⟩
          have A4 := Lib.hid (A3.out.keep hb)
          have B4 := Lib.hid (B3.out.keep hb)
          have C4 := Lib.hid (C3.out.trans (hb.mono C3.out.size))
          clear hb
          go_wp2
          go_roundw
          case rel => exact ⟨3, by omega, rfl, by rw [HM.out]; unfold d1; rw [if_neg HK.out] <;> rfl, A4, B4, C4⟩
          case measure => simp [intOf]
      · skip
        have hm : dmk a b c d e f g h 3 < 2 ^ 3 := dmk_lt a b c d e f g h 3 (by decide)
        have HM := Lib.hid (show dmk a b c d e f g h 4 = dmk a b c d e f g h 3 + d1 d h 8 from rfl)
        generalize dmk a b c d e f g h 3 = m at *
        have K2 := Lib.hid (Blk.new wr 26 [.int .i64 a, .int .i64 b, .int .i64 c, .int .i64 d] wr.heap.size rfl)
        have hsz := C.out.size
        have hbw : Below wr.heap.size wr (wr.alloc (.cells #[.int .i64 a, .int .i64 b, .int .i64 c, .int .i64 d] 26)) := (Below.refl _ _).alloc (Nat.le_refl _) _
        have BA1 := Lib.hid (BA.out.keep hbw)
        have BB1 := Lib.hid (BB.out.keep hbw)
        have la := BA.out.lt
        have lb := BB.out.lt
        have hb3 : Below wr.heap.size wr (wr.alloc (.cells #[.int .i64 a, .int .i64 b, .int .i64 c, .int .i64 h] 26)) := (Below.refl _ _).alloc (Nat.le_refl _) _
        have K3 := Lib.hid (Blk.new wr 26 [.int .i64 a, .int .i64 b, .int .i64 c, .int .i64 h] wr.heap.size rfl)
        have A3 := Lib.hid (BA.out.keep hb3)
        have B3 := Lib.hid (BB.out.keep hb3)
        have C3 := Lib.hid (C.out.trans (hb3.mono hsz))
        have ka0 := BA.out.cells.2 0 _ rfl
        have ka1 := BA.out.cells.2 1 _ rfl
        have ka2 := BA.out.cells.2 2 _ rfl
        have ka3 := BA.out.cells.2 3 _ rfl
        have kb := BB1.out.cells.2 3 _ rfl
        have kf := K2.out.free 3
        have kx := K2.out.cells.2 3 _ rfl
        have r0 := K3.out.cells.2 0 _ rfl
        have r1 := K3.out.cells.2 1 _ rfl
        have r2 := K3.out.cells.2 2 _ rfl
        have r3 := K3.out.cells.2 3 _ rfl
        have s0 := A3.out.cells.2 0 _ rfl
        have s1 := A3.out.cells.2 1 _ rfl
        have s2 := A3.out.cells.2 2 _ rfl
        have s3 := A3.out.cells.2 3 _ rfl
        clear hbw hb3 la lb hsz
        by_cases hk : d = h
        · have HK := Lib.hid hk
          clear hk
          have hne : ∀ W, (binOp .neq 26 (.agg #[.int .i64 a, .int .i64 b, .int .i64 c, .int .i64 h]) (.agg #[.int .i64 a, .int .i64 b, .int .i64 c, .int .i64 d])).run Tryz.prog W = .ok (.bool false) W := fun W => neq_i4 26 3 a b c h a b c d true Tryz.underlying26 Tryz.underlying3 (by kernel_rfl) (by have h2 := HK.out; simp [h2]) W
          go_wp2
          go_roundw
          case rel => exact ⟨4, by omega, rfl, by rw [HM.out]; unfold d1; rw [if_pos HK.out] <;> rfl, A3, B3, C3⟩
          case measure => simp [intOf]
        · have HK := Lib.hid hk
          clear hk
          have hne : ∀ W, (binOp .neq 26 (.agg #[.int .i64 a, .int .i64 b, .int .i64 c, .int .i64 h]) (.agg #[.int .i64 a, .int .i64 b, .int .i64 c, .int .i64 d])).run Tryz.prog W = .ok (.bool true) W := fun W => neq_i4 26 3 a b c h a b c d false Tryz.underlying26 Tryz.underlying3 (by kernel_rfl) (by have h2 : ¬ h = d := fun h => HK.out h.symm; simp [h2]) W
          have hor : bits .or .i64 (m : Int) 8 = ((m + 8 : Nat) : Int) := or_bit m 3 (by decide) hm
          go_wp2_with fail
          generalize (wr.alloc (.cells #[.int .i64 a, .int .i64 b, .int .i64 c, .int .i64 h] 26)) = W3 at *
          refine (show Calls Tryz.prog 41 #[.int .i64 3] _ (fun e w' => e = .returned (.int .i64 8) ∧ Below _ _ w') from bit_any 3 W3 (by decide)).mono ?_
          rintro e' w' ⟨rfl, hb⟩
          have A4 := Lib.hid (A3.out.keep hb)
          have B4 := Lib.hid (B3.out.keep hb)
          have C4 := Lib.hid (C3.out.trans (hb.mono C3.out.size))
          clear hb
          go_wp2
          go_roundw
          case rel => exact ⟨4, by omega, rfl, by rw [HM.out]; unfold d1; rw [if_neg HK.out] <;> rfl, A4, B4, C4⟩
          case measure => simp [intOf]
    · have hk4 : k = 4 := by omega
      subst hk4
      go_wp2
      go_ret
      exact ⟨rfl, C.out⟩
end Go.Proofs.YtkjghoomdefbbaaGreatDoor
end
section
namespace Go.Proofs.YtkjghoomdefbbaaGreatDoor
open Go.RowKit
set_option linter.unusedVariables false
set_option linter.unusedSimpArgs false
attribute [local irreducible] setN

def eK : En := ⟨[107], ⟨3, 0, 0, false, [], [], [], 1⟩⟩
theorem fit_eK : FitE eK := ⟨by decide, ⟨by decide, by decide, by decide⟩⟩
def aZ2 : Ar := ⟨2, [], []⟩
def aK1 : Ar := ⟨2, [eK], [0]⟩
theorem fit_aZ2 : FitA aZ2 := ⟨by decide, by decide, fun e he => by simp [aZ2] at he⟩
theorem fit_aK1 : FitA aK1 := ⟨by decide, by decide, fun e he => by
  simp only [aK1, List.mem_cons, List.not_mem_nil, or_false] at he
  subst he; exact fit_eK⟩
theorem w_dnew (w : World) : Calls Tryz.prog 33 #[.int .i64 2] w fun e w' => ∃ v', e = .returned (.tuple #[v', .int .i64 0]) ∧ isAr aZ2 v' w' ∧ Below w.heap.size w w' := anew_any 2 w
theorem w_djoin (v u : Value) (w : World) (hv : isAr aZ2 v w) (hu : isEn eK u w) : Calls Tryz.prog 29 #[v, u] w fun e w' => ∃ v', e = .returned (.tuple #[v', .bool true, .int .i64 0]) ∧ isAr aK1 v' w' ∧ Below w.heap.size w w' := by
  have h := ajoin_any aZ2 eK v u w hv hu fit_aZ2 fit_eK
  rwa [show joinAF aZ2 eK = aK1 by kernel_rfl, show joinAB aZ2 eK = true by kernel_rfl, show joinAE aZ2 eK = 0 by kernel_rfl] at h
theorem w_dput (u : Value) (w : World) (hu : isEn eK u w) : Calls Tryz.prog 31 #[u] w fun e w' => e = .returned (.tuple #[txt (putEn eK), .int .i64 0]) ∧ Below w.heap.size w w' := by
  have h := eput_any eK u w hu fit_eK
  rwa [show putF eK = putEn eK by kernel_rfl, show chkE eK = 0 by kernel_rfl] at h
theorem w_bucket (w : World) : Calls Tryz.prog 17 #[.int .i64 3, .string ⟨#[107]⟩] w fun e w' => e = .returned (.int .i64 0) ∧ Below w.heap.size w w' := by
  have h := bucket_any 3 [107] w (by decide)
  rwa [show bucketN 3 [107] = 0 by kernel_rfl] at h
theorem w_sumsA (v : Value) (w : World) (hv : isAr aZ2 v w) : Calls Tryz.prog 18 #[v] w fun e w' => e = .returned (.agg #[.int .i64 0, .int .i64 0, .int .i64 0, .int .i64 0]) ∧ Below w.heap.size w w' := by
  have h := sums_any aZ2 v w hv fit_aZ2
  rwa [show sumsV aZ2 = .agg #[.int .i64 0, .int .i64 0, .int .i64 0, .int .i64 0] by kernel_rfl] at h
theorem w_sumsK (v : Value) (w : World) (hv : isAr aK1 v w) : Calls Tryz.prog 18 #[v] w fun e w' => e = .returned (.agg #[.int .i64 3264677171, .int .i64 0, .int .i64 0, .int .i64 0]) ∧ Below w.heap.size w w' := by
  have h := sums_any aK1 v w hv fit_aK1
  rwa [show sumsV aK1 = .agg #[.int .i64 3264677171, .int .i64 0, .int .i64 0, .int .i64 0] by kernel_rfl] at h
theorem w_differ (w : World) : Calls Tryz.prog 19 #[.agg #[.int .i64 3264677171, .int .i64 0, .int .i64 0, .int .i64 0], .agg #[.int .i64 0, .int .i64 0, .int .i64 0, .int .i64 0]] w fun e w' => e = .returned (.int .i64 1) ∧ Below w.heap.size w w' := by
  have h := differ_any 3264677171 0 0 0 0 0 0 0 w
  rwa [show dmk 3264677171 0 0 0 0 0 0 0 4 = 1 by kernel_rfl] at h
theorem w_crc (w : World) : Calls Tryz.prog 32 #[txt (putEn eK)] w fun e w' => e = .returned (.int .i64 3264677171) ∧ Below w.heap.size w w' := by
  have h := sum_any (putEn eK) w (by rw [length_putEn (by decide)]; decide)
  refine h.mono ?_
  rintro e w' ⟨rfl, rfl⟩
  exact ⟨by rw [show crcN (putEn eK) = 3264677171 by kernel_rfl]; rfl, Below.refl _ _⟩
theorem w_in (mask most : Int) (n : Nat) (v : Value) (w : World) (hv : isAr aK1 v w) (hn : (inA aK1 mask most).length = n) : Calls Tryz.prog 15 #[v, .int .i64 mask, .int .i64 most] w fun e w' => ∃ a c, e = .returned (.slice a n c) ∧ Below w.heap.size w w' := by
  refine (in_any aK1 mask most v w hv fit_aK1).mono ?_
  rintro e w' ⟨v', rfl, hv', hb⟩
  obtain ⟨a, c, e⟩ := hv'.len
  exact ⟨a, c, by rw [e, hn], hb⟩
def t16 : List UInt8 := putQ [1, 2, 3, 4]
theorem t16_len : t16.length = 16 := by kernel_rfl
theorem w_put4 (w : World) : Calls Tryz.prog 20 #[.agg #[.int .i64 1, .int .i64 2, .int .i64 3, .int .i64 4]] w fun e w' => e = .returned (.tuple #[txt t16, .int .i64 0]) ∧ Below w.heap.size w w' := by
  have h := dgput_any 1 2 3 4 w (by decide)
  rwa [show putQE [1, 2, 3, 4] = 0 by kernel_rfl] at h
theorem w_put4n (w : World) : Calls Tryz.prog 20 #[.agg #[.int .i64 (-1), .int .i64 0, .int .i64 0, .int .i64 0]] w fun e w' => e = .returned (.tuple #[.string ⟨#[]⟩, .int .i64 1]) ∧ Below w.heap.size w w' := by
  have h := dgput_any (-1) 0 0 0 w (by decide)
  rwa [show putQE [-1, 0, 0, 0] = 1 by kernel_rfl, show putQ [-1, 0, 0, 0] = [] by kernel_rfl] at h
theorem w_get4 (w : World) : Calls Tryz.prog 22 #[txt t16] w fun e w' => e = .returned (.tuple #[.agg #[.int .i64 1, .int .i64 2, .int .i64 3, .int .i64 4], .int .i64 0]) ∧ Below w.heap.size w w' := by
  have h := dgget_yes t16 w t16_len
  rwa [show ((sums4 t16).map (fun x => Value.int .i64 x)).toArray = #[.int .i64 1, .int .i64 2, .int .i64 3, .int .i64 4] by kernel_rfl] at h
theorem w_get0 (w : World) : Calls Tryz.prog 22 #[.string ⟨#[]⟩] w fun e w' => e = .returned (.tuple #[.agg #[.int .i64 0, .int .i64 0, .int .i64 0, .int .i64 0], .int .i64 2]) ∧ Below w.heap.size w w' := dgget_no [] w (by decide) (by decide)
theorem w_litK (W : World) : Kept (Below W.heap.size W (W.alloc (.cells #[.string ⟨#[107]⟩, .int .i64 3, .int .i64 0, .int .i64 0, .bool false, .string ⟨#[]⟩, .slice none 0 0, .slice none 0 0, .int .u64 1] 48))) ∧ Kept (VarN (W.alloc (.cells #[.string ⟨#[107]⟩, .int .i64 3, .int .i64 0, .int .i64 0, .bool false, .string ⟨#[]⟩, .slice none 0 0, .slice none 0 0, .int .u64 1] 48)) W.heap.size eK) ∧ Kept (isEn eK (.agg #[.string ⟨#[107]⟩, .int .i64 3, .int .i64 0, .int .i64 0, .bool false, .string ⟨#[]⟩, .slice none 0 0, .slice none 0 0, .int .u64 1]) (W.alloc (.cells #[.string ⟨#[107]⟩, .int .i64 3, .int .i64 0, .int .i64 0, .bool false, .string ⟨#[]⟩, .slice none 0 0, .slice none 0 0, .int .u64 1] 48))) := by
  obtain ⟨h1, h2⟩ := ebox W eK (.slice none 0 0) (.slice none 0 0) (.inl ⟨rfl, rfl⟩) (.inl ⟨rfl, rfl⟩) W.heap.size rfl
  exact ⟨h1, h2, ⟨⟨_, _, rfl, .inl ⟨rfl, rfl⟩, .inl ⟨rfl, rfl⟩⟩⟩⟩
theorem snew (w : World) (a b c d : Int) (n : Nat) (hn : n = w.heap.size) : Kept (CellsN (w.alloc (.cells #[.int .i64 0, .int .i64 0, .int .i64 0, .int .i64 0] 26)) n [.int .i64 0, .int .i64 0, .int .i64 0, .int .i64 0]) ∧ Kept (Free5 (w.alloc (.cells #[.int .i64 0, .int .i64 0, .int .i64 0, .int .i64 0] 26)) n) ∧
    Kept (Below w.heap.size w (setN (w.alloc (.cells #[.int .i64 0, .int .i64 0, .int .i64 0, .int .i64 0] 26)) n 0 [.int .i64 a, .int .i64 b, .int .i64 c, .int .i64 d])) ∧ Kept (Blk (setN (w.alloc (.cells #[.int .i64 0, .int .i64 0, .int .i64 0, .int .i64 0] 26)) n 0 [.int .i64 a, .int .i64 b, .int .i64 c, .int .i64 d]) n [.int .i64 a, .int .i64 b, .int .i64 c, .int .i64 d]) ∧ Kept (Ones [.int .i64 a, .int .i64 b, .int .i64 c, .int .i64 d]) := by
  have hB := Blk.new w 26 [.int .i64 0, .int .i64 0, .int .i64 0, .int .i64 0] n hn
  exact ⟨⟨hB.cells⟩, ⟨hB.free⟩, ⟨below_setN (by omega) _ 0 _ (lit_below w _)⟩, ⟨hB.all_ rfl⟩, ⟨⟨rfl, rfl, rfl, rfl, trivial⟩⟩⟩
noncomputable def wk9Ops : Array Oper := regionOf Tryz.f9 9
set_option maxRecDepth 100000 in
set_option maxHeartbeats 2000000 in
theorem wk9_region (Q : Exit → Act → World → Prop) (a0 : Act) (w0 : World) (hsz : a0.tmps.size = 141) (g h : Nat) (vs vi : Value) (e10 : a0.tmps.getD 10 undef = .pointer (some ⟨g, 0, none⟩)) (e1 : a0.tmps.getD 1 undef = .pointer (some ⟨h, 0, none⟩)) (HG : CellsN w0 g [.int .i64 3264677171, .int .i64 0, .int .i64 0, .int .i64 0]) (HH : CellsN w0 h [.int .i64 aZ2.cap, vs, vi]) (hA : isAr aZ2 (.agg #[.int .i64 aZ2.cap, vs, vi]) w0)
    (hQ : ∀ (g : Nat → Value) (w : World), g 11 = .int .i64 1 → Below w0.heap.size w0 w → Q .normal { tmps := [47, 48, 49, 50, 11].foldl (fun t s => t.setIfInBounds s (g s)) a0.tmps, defers := a0.defers } w) :
    (Code.region 9 wk9Ops true).wp Tryz.prog Q a0 w0 := by
  refine wp_region_flow mixed (by rw [hsz]; kernel_rfl) ?_
  rw [show wk9Ops.size = 5 by kernel_rfl]
  refine ⟨isVal (.agg #[.int .i64 3264677171, .int .i64 0, .int .i64 0, .int .i64 0]), step_loadN 26 (.tmp 10) (g) [.int .i64 3264677171, .int .i64 0, .int .i64 0, .int .i64 0] (by kernel_rfl) (wanted_none (by kernel_rfl)) (knows_old 10 (.pointer (some ⟨g, 0, none⟩)) (by kernel_rfl) e10) size_a4 agg_a4 (HG), ?_⟩
  refine ⟨isVal (.agg #[.int .i64 aZ2.cap, vs, vi]), step_loadN 25 (.tmp 1) (h) [.int .i64 aZ2.cap, vs, vi] (by kernel_rfl) (wanted_none (by kernel_rfl)) (knows_old 1 (.pointer (some ⟨h, 0, none⟩)) (by kernel_rfl) e1) size_ar agg_ar (HH), ?_⟩
  refine ⟨isVal (.agg #[.int .i64 0, .int .i64 0, .int .i64 0, .int .i64 0]), step_call 18 #[.tmp 48] #[25] #[.agg #[.int .i64 aZ2.cap, vs, vi]] (by kernel_rfl) (wanted_none (by kernel_rfl)) (stable_val _) (args1 (.tmp 48) (.agg #[.int .i64 aZ2.cap, vs, vi]) (knows_new (V := isVal (.agg #[.int .i64 aZ2.cap, vs, vi])) 48 1 (by kernel_rfl) (by kernel_rfl) (by kernel_rfl))) (enters_of Tryz.func18 (by kernel_rfl) rfl) (by intro w' hb; exact (w_sumsA _ w' (stable_ar _ _ _ _ hA hb)).mono (by rintro e w2 ⟨rfl, hb2⟩; exact ⟨_, rfl, rfl, hb2⟩)), ?_⟩
  refine ⟨isVal (.int .i64 1), step_call 19 #[.tmp 47, .tmp 49] #[26, 26] #[.agg #[.int .i64 3264677171, .int .i64 0, .int .i64 0, .int .i64 0], .agg #[.int .i64 0, .int .i64 0, .int .i64 0, .int .i64 0]] (by kernel_rfl) (wanted_none (by kernel_rfl)) (stable_val _) (args2 (.tmp 47) (.tmp 49) (.agg #[.int .i64 3264677171, .int .i64 0, .int .i64 0, .int .i64 0]) (.agg #[.int .i64 0, .int .i64 0, .int .i64 0, .int .i64 0]) (knows_new (V := isVal (.agg #[.int .i64 3264677171, .int .i64 0, .int .i64 0, .int .i64 0])) 47 0 (by kernel_rfl) (by kernel_rfl) (by kernel_rfl)) (knows_new (V := isVal (.agg #[.int .i64 0, .int .i64 0, .int .i64 0, .int .i64 0])) 49 2 (by kernel_rfl) (by kernel_rfl) (by kernel_rfl))) (enters_of Tryz.func19 (by kernel_rfl) rfl) (by intro w' hb; exact (w_differ w').mono (by rintro e w2 ⟨rfl, hb2⟩; exact ⟨_, rfl, rfl, hb2⟩)), ?_⟩
  refine ⟨isVal (.int .i64 1), step_assign (.tmp 50) (by kernel_rfl) (wanted_none (by kernel_rfl)) (stable_val _) (knows_new (V := isVal (.int .i64 1)) 50 3 (by kernel_rfl) (by kernel_rfl) (by kernel_rfl)), ?_⟩
  intro a w hkp hb hd
  rw [kept_of hkp [some 47, some 48, some 49, some 50, some 11] [47, 48, 49, 50, 11] (by kernel_rfl) (by decide)]
  have d11 := fdone_of (hd 4 (by rw [show wk9Ops.size = 5 by kernel_rfl]; decide)) (t := 11) (V := isVal (.int .i64 1)) (by kernel_rfl) (by kernel_rfl)
  exact hQ (fun s => a.tmps.getD s undef) w d11 hb
end Go.Proofs.YtkjghoomdefbbaaGreatDoor
end
section
namespace Go.Proofs.YtkjghoomdefbbaaGreatDoor
open Go.RowKit
set_option linter.unusedVariables false
set_option linter.unusedSimpArgs false
attribute [local irreducible] setN eK aZ2 aK1 t16 putEn

theorem eql_t {P : Program} {t : TypeId} {k : IntKind} (x y : Int) (h : x = y) (w : World) : (binOp .eql t (.int k x) (.int k y)).run P w = .ok (.bool true) w := by simp [go_sem, h]
theorem sub_v {P : Program} {t : TypeId} (x y z : Int) (h : x - y = z) (h0 : -4611686018427387904 ≤ z) (h1 : z ≤ 4611686018427387904) (w : World) : (binOp .sub t (.int .i64 x) (.int .i64 y)).run P w = .ok (.int .i64 z) w := by
  subst h
  simp [go_sem]
  rw [IntKind.wrap_i64]
  omega
theorem agg_in (w : World) : (isAgg 3).run Tryz.prog w = .ok false w := by simp [isAgg, run_underlying Tryz.underlying3]
def isLen (n : Nat) : VP := fun v _ => ∃ a c, v = .slice a n c
theorem stable_len (n : Nat) : Stable (isLen n) := fun _ _ _ h _ => h
theorem built_n : Tryz.prog.built 26 [] = some #[.int .i64 0, .int .i64 0, .int .i64 0, .int .i64 0] := by kernel_rfl
theorem built_1 : Tryz.prog.built 26 [(0, .int .i64 1), (1, .int .i64 2), (2, .int .i64 3), (3, .int .i64 4)] = some #[.int .i64 1, .int .i64 2, .int .i64 3, .int .i64 4] := by kernel_rfl
section
variable {P : Program} {ops : Array Oper} {base : World} {a0 : Act} {Q : Exit → Act → World → Prop} {kn : Nat → VP} {i : Nat} {V : VP}
theorem step_lenP (t : TypeId) (x : Operand) (n : Nat) {e : TypeId} (hop : (ops[i]?).map (·.op) = some (.call { callee := .builtin .len, args := #[x], argTypes := #[t] })) (hw : Wanted ops a0 kn i) (hx : Knows ops a0 kn i x (isLen n))
    (hu : P.underlying t = some (.slice e)) : FStep P ops base a0 Q kn i (isVal (.int .i64 (n : Int))) :=
  step_pure (.int .i64 (n : Int)) hop hw fun o a w ho hk hd => by
    obtain ⟨b, c, e1⟩ := hx a w hk hd
    unfold execOp
    rw [ho]
    simp only [resolve, Sem.run_bind, Sem.run_pure, Result.andThen_ok, invoke, builtin, List.map_toArray, List.map_cons, List.map_nil, e1]
    simp [Builtin.len_, run_underlying hu]
    try rfl
theorem step_at0 (t e : TypeId) (x y : Operand) (n g : Nat) (hop : (ops[i]?).map (·.op) = some (.indexAddr t x y)) (hw : Wanted ops a0 kn i) (hx : Knows ops a0 kn i x (isVal (.pointer (some ⟨g, 0, none⟩)))) (hy : Knows ops a0 kn i y (isVal (.int .i64 0)))
    (ht : P.underlying t = some (.array n e)) (hs : P.cellsOf e = 1) (hi : (P.info? e).map (·.size) = some 1) (hk : 0 < n) : FStep P ops base a0 Q kn i (isVal (.pointer (some ⟨g, 0, none⟩))) :=
  step_pure _ hop hw fun o a w ho hk' hd => by
    have e1 : a.eval x = .pointer (some ⟨g, 0, none⟩) := hx a w hk' hd
    have e2 : a.eval y = .int .i64 0 := hy a w hk' hd
    unfold execOp
    rw [ho]
    simp only [e1, e2, Sem.run_bind]
    obtain ⟨ie, hie, hz⟩ := Option.map_eq_some_iff.1 hi
    have hsz : (sizeOf e).run P w = .ok 1 w := by simp [sizeOf, typeInfo, hie, hz]
    simp [Instr.indexAt, run_underlying ht, Instr.sureAddr, asIntOf, hsz, hk, Addr.add]
end
noncomputable def wk14Ops : Array Oper := regionOf Tryz.f9 14
set_option maxRecDepth 100000 in
set_option maxHeartbeats 2000000 in
theorem wk14_region (Q : Exit → Act → World → Prop) (a0 : Act) (w0 : World) (hsz : a0.tmps.size = 141) (g h b l : Nat) (vs vi us ui : Value) (e10 : a0.tmps.getD 10 undef = .pointer (some ⟨g, 0, none⟩)) (e1 : a0.tmps.getD 1 undef = .pointer (some ⟨h, 0, none⟩)) (e4 : a0.tmps.getD 4 undef = .pointer (some ⟨b, 0, none⟩)) (e14 : a0.tmps.getD 14 undef = .pointer (some ⟨l, 0, none⟩)) (e6 : a0.tmps.getD 6 undef = .int .i64 0) (e9 : a0.tmps.getD 9 undef = .int .i64 0) (e7 : a0.tmps.getD 7 undef = .string ⟨(putEn eK).toArray⟩) (e11 : a0.tmps.getD 11 undef = .int .i64 1) (e12 : a0.tmps.getD 12 undef = .string ⟨t16.toArray⟩) (e13 : a0.tmps.getD 13 undef = .int .i64 0) (e15 : a0.tmps.getD 15 undef = .int .i64 0) (e17 : a0.tmps.getD 17 undef = .int .i64 1) (e19 : a0.tmps.getD 19 undef = .int .i64 2) (HG : CellsN w0 g [.int .i64 3264677171, .int .i64 0, .int .i64 0, .int .i64 0]) (HH : CellsN w0 h [.int .i64 aZ2.cap, vs, vi]) (HK : CellsN w0 b [.int .i64 aK1.cap, us, ui]) (HL : CellsN w0 l [.int .i64 1, .int .i64 2, .int .i64 3, .int .i64 4]) (hA : isAr aZ2 (.agg #[.int .i64 aZ2.cap, vs, vi]) w0) (hK : isAr aK1 (.agg #[.int .i64 aK1.cap, us, ui]) w0)
    (hQ : ∀ (g : Nat → Value) (w : World), g 0 = .bool true → Below w0.heap.size w0 w → Q .normal { tmps := [70, 71, 72, 73, 74, 75, 76, 77, 78, 79, 80, 81, 82, 83, 84, 85, 86, 87, 88, 89, 90, 91, 92, 93, 94, 95, 96, 97, 98, 99, 100, 101, 102, 103, 104, 105, 106, 107, 108, 109, 110, 111, 112, 113, 114, 115, 116, 117, 118, 119, 120, 121, 122, 123, 124, 125, 126, 127, 128, 129, 130, 131, 132, 133, 134, 135, 136, 137, 138, 139, 140, 0].foldl (fun t s => t.setIfInBounds s (g s)) a0.tmps, defers := a0.defers } w) :
    (Code.region 14 wk14Ops true).wp Tryz.prog Q a0 w0 := by
  refine wp_region_flow mixed (by rw [hsz]; kernel_rfl) ?_
  rw [show wk14Ops.size = 72 by kernel_rfl]
  refine ⟨isVal (.int .i64 0), step_move (.tmp 6) (by kernel_rfl) (wanted_none (by kernel_rfl)) (stable_val _) (knows_old 6 (.int .i64 0) (by kernel_rfl) e6), ?_⟩
  refine ⟨isVal (.bool true), step_bin .eql 35 35 (.tmp 70) (.const (.int .i64 0)) (.int .i64 0) (.int .i64 0) (.bool true) (by kernel_rfl) (wanted_none (by kernel_rfl)) (knows_new (V := isVal (.int .i64 0)) 70 0 (by kernel_rfl) (by kernel_rfl) (by kernel_rfl)) (knows_const _) (fun _ => rfl) (eql_t _ _ (by (have h16 := t16_len; omega))), ?_⟩
  refine ⟨isVal (.bool true), step_move (.tmp 71) (by kernel_rfl) (wanted_none (by kernel_rfl)) (stable_val _) (knows_new (V := isVal (.bool true)) 71 1 (by kernel_rfl) (by kernel_rfl) (by kernel_rfl)), ?_⟩
  refine ⟨isVal (.agg #[.int .i64 aZ2.cap, vs, vi]), step_loadN 25 (.tmp 1) (h) [.int .i64 aZ2.cap, vs, vi] (by kernel_rfl) (wanted_some 2 72 true (by kernel_rfl) (by kernel_rfl) (by kernel_rfl) (by kernel_rfl)) (knows_old 1 (.pointer (some ⟨h, 0, none⟩)) (by kernel_rfl) e1) size_ar agg_ar (HH), ?_⟩
  refine ⟨isVal (.agg #[.int .i64 0, .int .i64 0, .int .i64 0, .int .i64 0]), step_call 18 #[.tmp 73] #[25] #[.agg #[.int .i64 aZ2.cap, vs, vi]] (by kernel_rfl) (wanted_some 2 72 true (by kernel_rfl) (by kernel_rfl) (by kernel_rfl) (by kernel_rfl)) (stable_val _) (args1 (.tmp 73) (.agg #[.int .i64 aZ2.cap, vs, vi]) (knows_new (V := isVal (.agg #[.int .i64 aZ2.cap, vs, vi])) 73 3 (by kernel_rfl) (by kernel_rfl) (by kernel_rfl))) (enters_of Tryz.func18 (by kernel_rfl) rfl) (by intro w' hb; exact (w_sumsA _ w' (stable_ar _ _ _ _ hA hb)).mono (by rintro e w2 ⟨rfl, hb2⟩; exact ⟨_, rfl, rfl, hb2⟩)), ?_⟩
  refine ⟨isVal (.agg #[.int .i64 0, .int .i64 0, .int .i64 0, .int .i64 0]), step_buildP 26 #[] (by kernel_rfl) (wanted_some 2 72 true (by kernel_rfl) (by kernel_rfl) (by kernel_rfl) (by kernel_rfl)) (stable_val _) (by
    intro a w hk hd
    exact ⟨_, by simpa [] using (built_n), rfl⟩), ?_⟩
  refine ⟨isVal (.bool true), step_bin .eql 26 26 (.tmp 74) (.tmp 75) (.agg #[.int .i64 0, .int .i64 0, .int .i64 0, .int .i64 0]) (.agg #[.int .i64 0, .int .i64 0, .int .i64 0, .int .i64 0]) (.bool true) (by kernel_rfl) (wanted_some 2 72 true (by kernel_rfl) (by kernel_rfl) (by kernel_rfl) (by kernel_rfl)) (knows_new (V := isVal (.agg #[.int .i64 0, .int .i64 0, .int .i64 0, .int .i64 0])) 74 4 (by kernel_rfl) (by kernel_rfl) (by kernel_rfl)) (knows_new (V := isVal (.agg #[.int .i64 0, .int .i64 0, .int .i64 0, .int .i64 0])) 75 5 (by kernel_rfl) (by kernel_rfl) (by kernel_rfl)) (fun _ => rfl) (fun W => eql_i4 26 3 0 0 0 0 0 0 0 0 true Tryz.underlying26 Tryz.underlying3 (by kernel_rfl) (by simp) W), ?_⟩
  refine ⟨isVal (.bool true), step_pick (.tmp 72) (.tmp 76) (.const (.bool false)) true (by kernel_rfl) (wanted_none (by kernel_rfl)) (stable_val _) (knows_new (V := isVal (.bool true)) 72 2 (by kernel_rfl) (by kernel_rfl) (by kernel_rfl)) (knows_new (V := isVal (.bool true)) 76 6 (by kernel_rfl) (by kernel_rfl) (by kernel_rfl)), ?_⟩
  refine ⟨isVal (.bool true), step_move (.tmp 77) (by kernel_rfl) (wanted_none (by kernel_rfl)) (stable_val _) (knows_new (V := isVal (.bool true)) 77 7 (by kernel_rfl) (by kernel_rfl) (by kernel_rfl)), ?_⟩
  refine ⟨isVal (.int .i64 0), step_move (.tmp 9) (by kernel_rfl) (wanted_some 8 78 true (by kernel_rfl) (by kernel_rfl) (by kernel_rfl) (by kernel_rfl)) (stable_val _) (knows_old 9 (.int .i64 0) (by kernel_rfl) e9), ?_⟩
  refine ⟨isVal (.pointer (some ⟨g, 0, none⟩)), step_at0 26 3 (.tmp 10) (.tmp 79) 4 g (by kernel_rfl) (wanted_some 8 78 true (by kernel_rfl) (by kernel_rfl) (by kernel_rfl) (by kernel_rfl)) (knows_old 10 (.pointer (some ⟨g, 0, none⟩)) (by kernel_rfl) e10) (knows_new (V := isVal (.int .i64 0)) 79 9 (by kernel_rfl) (by kernel_rfl) (by kernel_rfl)) Tryz.underlying26 (by kernel_rfl) (by kernel_rfl) (by omega), ?_⟩
  refine ⟨isVal (.int .i64 3264677171), step_read 3 (.tmp 80) ⟨g, 0, none⟩ (.int .i64 3264677171) (by kernel_rfl) (wanted_some 8 78 true (by kernel_rfl) (by kernel_rfl) (by kernel_rfl) (by kernel_rfl)) (knows_new (V := isVal (.pointer (some ⟨g, 0, none⟩))) 80 10 (by kernel_rfl) (by kernel_rfl) (by kernel_rfl)) ((HG).2 0 _ rfl) (HG).1 (agg_in), ?_⟩
  refine ⟨isVal (.string ⟨(putEn eK).toArray⟩), step_move (.tmp 7) (by kernel_rfl) (wanted_some 8 78 true (by kernel_rfl) (by kernel_rfl) (by kernel_rfl) (by kernel_rfl)) (stable_val _) (knows_old 7 (.string ⟨(putEn eK).toArray⟩) (by kernel_rfl) e7), ?_⟩
  refine ⟨isVal (.int .i64 3264677171), step_call 32 #[.tmp 82] #[9] #[.string ⟨(putEn eK).toArray⟩] (by kernel_rfl) (wanted_some 8 78 true (by kernel_rfl) (by kernel_rfl) (by kernel_rfl) (by kernel_rfl)) (stable_val _) (args1 (.tmp 82) (.string ⟨(putEn eK).toArray⟩) (knows_new (V := isVal (.string ⟨(putEn eK).toArray⟩)) 82 12 (by kernel_rfl) (by kernel_rfl) (by kernel_rfl))) (enters_of Tryz.func32 (by kernel_rfl) rfl) (by intro w' hb; exact (w_crc w').mono (by rintro e w2 ⟨rfl, hb2⟩; exact ⟨_, rfl, rfl, hb2⟩)), ?_⟩
  refine ⟨isVal (.bool true), step_bin .eql 3 3 (.tmp 81) (.tmp 83) (.int .i64 3264677171) (.int .i64 3264677171) (.bool true) (by kernel_rfl) (wanted_some 8 78 true (by kernel_rfl) (by kernel_rfl) (by kernel_rfl) (by kernel_rfl)) (knows_new (V := isVal (.int .i64 3264677171)) 81 11 (by kernel_rfl) (by kernel_rfl) (by kernel_rfl)) (knows_new (V := isVal (.int .i64 3264677171)) 83 13 (by kernel_rfl) (by kernel_rfl) (by kernel_rfl)) (fun _ => rfl) (eql_t _ _ (by (have h16 := t16_len; omega))), ?_⟩
  refine ⟨isVal (.bool true), step_pick (.tmp 78) (.tmp 84) (.const (.bool false)) true (by kernel_rfl) (wanted_none (by kernel_rfl)) (stable_val _) (knows_new (V := isVal (.bool true)) 78 8 (by kernel_rfl) (by kernel_rfl) (by kernel_rfl)) (knows_new (V := isVal (.bool true)) 84 14 (by kernel_rfl) (by kernel_rfl) (by kernel_rfl)), ?_⟩
  refine ⟨isVal (.bool true), step_move (.tmp 85) (by kernel_rfl) (wanted_none (by kernel_rfl)) (stable_val _) (knows_new (V := isVal (.bool true)) 85 15 (by kernel_rfl) (by kernel_rfl) (by kernel_rfl)), ?_⟩
  refine ⟨isVal (.int .i64 1), step_move (.tmp 11) (by kernel_rfl) (wanted_some 16 86 true (by kernel_rfl) (by kernel_rfl) (by kernel_rfl) (by kernel_rfl)) (stable_val _) (knows_old 11 (.int .i64 1) (by kernel_rfl) e11), ?_⟩
  refine ⟨isVal (.int .i64 0), step_move (.tmp 9) (by kernel_rfl) (wanted_some 16 86 true (by kernel_rfl) (by kernel_rfl) (by kernel_rfl) (by kernel_rfl)) (stable_val _) (knows_old 9 (.int .i64 0) (by kernel_rfl) e9), ?_⟩
  refine ⟨isVal (.int .u64 0), step_conv 3 55 (.tmp 88) (.int .i64 0) (.int .u64 0) (by kernel_rfl) (wanted_some 16 86 true (by kernel_rfl) (by kernel_rfl) (by kernel_rfl) (by kernel_rfl)) (knows_new (V := isVal (.int .i64 0)) 88 18 (by kernel_rfl) (by kernel_rfl) (by kernel_rfl)) (fun W => by kernel_rfl), ?_⟩
  refine ⟨isVal (.int .i64 1), step_bin .shl 3 55 (.const (.int .i64 1)) (.tmp 89) (.int .i64 1) (.int .u64 0) (.int .i64 1) (by kernel_rfl) (wanted_some 16 86 true (by kernel_rfl) (by kernel_rfl) (by kernel_rfl) (by kernel_rfl)) (knows_const _) (knows_new (V := isVal (.int .u64 0)) 89 19 (by kernel_rfl) (by kernel_rfl) (by kernel_rfl)) (fun _ => rfl) (fun W => by kernel_rfl), ?_⟩
  refine ⟨isVal (.bool true), step_bin .eql 3 3 (.tmp 87) (.tmp 90) (.int .i64 1) (.int .i64 1) (.bool true) (by kernel_rfl) (wanted_some 16 86 true (by kernel_rfl) (by kernel_rfl) (by kernel_rfl) (by kernel_rfl)) (knows_new (V := isVal (.int .i64 1)) 87 17 (by kernel_rfl) (by kernel_rfl) (by kernel_rfl)) (knows_new (V := isVal (.int .i64 1)) 90 20 (by kernel_rfl) (by kernel_rfl) (by kernel_rfl)) (fun _ => rfl) (eql_t _ _ (by (have h16 := t16_len; omega))), ?_⟩
  refine ⟨isVal (.bool true), step_pick (.tmp 86) (.tmp 91) (.const (.bool false)) true (by kernel_rfl) (wanted_none (by kernel_rfl)) (stable_val _) (knows_new (V := isVal (.bool true)) 86 16 (by kernel_rfl) (by kernel_rfl) (by kernel_rfl)) (knows_new (V := isVal (.bool true)) 91 21 (by kernel_rfl) (by kernel_rfl) (by kernel_rfl)), ?_⟩
  refine ⟨isVal (.bool true), step_move (.tmp 92) (by kernel_rfl) (wanted_none (by kernel_rfl)) (stable_val _) (knows_new (V := isVal (.bool true)) 92 22 (by kernel_rfl) (by kernel_rfl) (by kernel_rfl)), ?_⟩
  refine ⟨isVal (.agg #[.int .i64 aK1.cap, us, ui]), step_loadN 25 (.tmp 4) (b) [.int .i64 aK1.cap, us, ui] (by kernel_rfl) (wanted_some 23 93 true (by kernel_rfl) (by kernel_rfl) (by kernel_rfl) (by kernel_rfl)) (knows_old 4 (.pointer (some ⟨b, 0, none⟩)) (by kernel_rfl) e4) size_ar agg_ar (HK), ?_⟩
  refine ⟨isVal (.int .i64 1), step_move (.tmp 11) (by kernel_rfl) (wanted_some 23 93 true (by kernel_rfl) (by kernel_rfl) (by kernel_rfl) (by kernel_rfl)) (stable_val _) (knows_old 11 (.int .i64 1) (by kernel_rfl) e11), ?_⟩
  refine ⟨(isLen 1), step_call 15 #[.tmp 94, .tmp 95, .const (.int .i64 5)] #[25, 3, 3] #[.agg #[.int .i64 aK1.cap, us, ui], .int .i64 1, .int .i64 5] (by kernel_rfl) (wanted_some 23 93 true (by kernel_rfl) (by kernel_rfl) (by kernel_rfl) (by kernel_rfl)) (stable_len 1) (args3 (.tmp 94) (.tmp 95) (.const (.int .i64 5)) (.agg #[.int .i64 aK1.cap, us, ui]) (.int .i64 1) (.int .i64 5) (knows_new (V := isVal (.agg #[.int .i64 aK1.cap, us, ui])) 94 24 (by kernel_rfl) (by kernel_rfl) (by kernel_rfl)) (knows_new (V := isVal (.int .i64 1)) 95 25 (by kernel_rfl) (by kernel_rfl) (by kernel_rfl)) (knows_const _)) (enters_of Tryz.func15 (by kernel_rfl) rfl) (by intro w' hb; exact (w_in 1 5 1 _ w' (stable_ar _ _ _ _ hK hb) (by kernel_rfl)).mono (by rintro e w2 ⟨a, c, rfl, hb2⟩; exact ⟨_, rfl, ⟨a, c, rfl⟩, hb2⟩)), ?_⟩
  refine ⟨isVal (.int .i64 1), step_lenP 22 (.tmp 96) 1 (by kernel_rfl) (wanted_some 23 93 true (by kernel_rfl) (by kernel_rfl) (by kernel_rfl) (by kernel_rfl)) (knows_new (V := (isLen 1)) 96 26 (by kernel_rfl) (by kernel_rfl) (by kernel_rfl)) Tryz.underlying22, ?_⟩
  refine ⟨isVal (.bool true), step_bin .eql 3 3 (.tmp 97) (.const (.int .i64 1)) (.int .i64 1) (.int .i64 1) (.bool true) (by kernel_rfl) (wanted_some 23 93 true (by kernel_rfl) (by kernel_rfl) (by kernel_rfl) (by kernel_rfl)) (knows_new (V := isVal (.int .i64 1)) 97 27 (by kernel_rfl) (by kernel_rfl) (by kernel_rfl)) (knows_const _) (fun _ => rfl) (eql_t _ _ (by (have h16 := t16_len; omega))), ?_⟩
  refine ⟨isVal (.bool true), step_pick (.tmp 93) (.tmp 98) (.const (.bool false)) true (by kernel_rfl) (wanted_none (by kernel_rfl)) (stable_val _) (knows_new (V := isVal (.bool true)) 93 23 (by kernel_rfl) (by kernel_rfl) (by kernel_rfl)) (knows_new (V := isVal (.bool true)) 98 28 (by kernel_rfl) (by kernel_rfl) (by kernel_rfl)), ?_⟩
  refine ⟨isVal (.bool true), step_move (.tmp 99) (by kernel_rfl) (wanted_none (by kernel_rfl)) (stable_val _) (knows_new (V := isVal (.bool true)) 99 29 (by kernel_rfl) (by kernel_rfl) (by kernel_rfl)), ?_⟩
  refine ⟨isVal (.agg #[.int .i64 aK1.cap, us, ui]), step_loadN 25 (.tmp 4) (b) [.int .i64 aK1.cap, us, ui] (by kernel_rfl) (wanted_some 30 100 true (by kernel_rfl) (by kernel_rfl) (by kernel_rfl) (by kernel_rfl)) (knows_old 4 (.pointer (some ⟨b, 0, none⟩)) (by kernel_rfl) e4) size_ar agg_ar (HK), ?_⟩
  refine ⟨isVal (.int .i64 1), step_move (.tmp 11) (by kernel_rfl) (wanted_some 30 100 true (by kernel_rfl) (by kernel_rfl) (by kernel_rfl) (by kernel_rfl)) (stable_val _) (knows_old 11 (.int .i64 1) (by kernel_rfl) e11), ?_⟩
  refine ⟨isVal (.int .i64 14), step_bin .sub 3 3 (.const (.int .i64 15)) (.tmp 102) (.int .i64 15) (.int .i64 1) (.int .i64 14) (by kernel_rfl) (wanted_some 30 100 true (by kernel_rfl) (by kernel_rfl) (by kernel_rfl) (by kernel_rfl)) (knows_const _) (knows_new (V := isVal (.int .i64 1)) 102 32 (by kernel_rfl) (by kernel_rfl) (by kernel_rfl)) (fun _ => rfl) (sub_v 15 1 14 (by (have h16 := t16_len; omega)) (by (have h16 := t16_len; omega)) (by (have h16 := t16_len; omega))), ?_⟩
  refine ⟨(isLen 0), step_call 15 #[.tmp 101, .tmp 103, .const (.int .i64 5)] #[25, 3, 3] #[.agg #[.int .i64 aK1.cap, us, ui], .int .i64 14, .int .i64 5] (by kernel_rfl) (wanted_some 30 100 true (by kernel_rfl) (by kernel_rfl) (by kernel_rfl) (by kernel_rfl)) (stable_len 0) (args3 (.tmp 101) (.tmp 103) (.const (.int .i64 5)) (.agg #[.int .i64 aK1.cap, us, ui]) (.int .i64 14) (.int .i64 5) (knows_new (V := isVal (.agg #[.int .i64 aK1.cap, us, ui])) 101 31 (by kernel_rfl) (by kernel_rfl) (by kernel_rfl)) (knows_new (V := isVal (.int .i64 14)) 103 33 (by kernel_rfl) (by kernel_rfl) (by kernel_rfl)) (knows_const _)) (enters_of Tryz.func15 (by kernel_rfl) rfl) (by intro w' hb; exact (w_in 14 5 0 _ w' (stable_ar _ _ _ _ hK hb) (by kernel_rfl)).mono (by rintro e w2 ⟨a, c, rfl, hb2⟩; exact ⟨_, rfl, ⟨a, c, rfl⟩, hb2⟩)), ?_⟩
  refine ⟨isVal (.int .i64 0), step_lenP 22 (.tmp 104) 0 (by kernel_rfl) (wanted_some 30 100 true (by kernel_rfl) (by kernel_rfl) (by kernel_rfl) (by kernel_rfl)) (knows_new (V := (isLen 0)) 104 34 (by kernel_rfl) (by kernel_rfl) (by kernel_rfl)) Tryz.underlying22, ?_⟩
  refine ⟨isVal (.bool true), step_bin .eql 3 3 (.tmp 105) (.const (.int .i64 0)) (.int .i64 0) (.int .i64 0) (.bool true) (by kernel_rfl) (wanted_some 30 100 true (by kernel_rfl) (by kernel_rfl) (by kernel_rfl) (by kernel_rfl)) (knows_new (V := isVal (.int .i64 0)) 105 35 (by kernel_rfl) (by kernel_rfl) (by kernel_rfl)) (knows_const _) (fun _ => rfl) (eql_t _ _ (by (have h16 := t16_len; omega))), ?_⟩
  refine ⟨isVal (.bool true), step_pick (.tmp 100) (.tmp 106) (.const (.bool false)) true (by kernel_rfl) (wanted_none (by kernel_rfl)) (stable_val _) (knows_new (V := isVal (.bool true)) 100 30 (by kernel_rfl) (by kernel_rfl) (by kernel_rfl)) (knows_new (V := isVal (.bool true)) 106 36 (by kernel_rfl) (by kernel_rfl) (by kernel_rfl)), ?_⟩
  refine ⟨isVal (.bool true), step_move (.tmp 107) (by kernel_rfl) (wanted_none (by kernel_rfl)) (stable_val _) (knows_new (V := isVal (.bool true)) 107 37 (by kernel_rfl) (by kernel_rfl) (by kernel_rfl)), ?_⟩
  refine ⟨isVal (.agg #[.int .i64 aK1.cap, us, ui]), step_loadN 25 (.tmp 4) (b) [.int .i64 aK1.cap, us, ui] (by kernel_rfl) (wanted_some 38 108 true (by kernel_rfl) (by kernel_rfl) (by kernel_rfl) (by kernel_rfl)) (knows_old 4 (.pointer (some ⟨b, 0, none⟩)) (by kernel_rfl) e4) size_ar agg_ar (HK), ?_⟩
  refine ⟨isVal (.int .i64 1), step_move (.tmp 11) (by kernel_rfl) (wanted_some 38 108 true (by kernel_rfl) (by kernel_rfl) (by kernel_rfl) (by kernel_rfl)) (stable_val _) (knows_old 11 (.int .i64 1) (by kernel_rfl) e11), ?_⟩
  refine ⟨(isLen 0), step_call 15 #[.tmp 109, .tmp 110, .const (.int .i64 0)] #[25, 3, 3] #[.agg #[.int .i64 aK1.cap, us, ui], .int .i64 1, .int .i64 0] (by kernel_rfl) (wanted_some 38 108 true (by kernel_rfl) (by kernel_rfl) (by kernel_rfl) (by kernel_rfl)) (stable_len 0) (args3 (.tmp 109) (.tmp 110) (.const (.int .i64 0)) (.agg #[.int .i64 aK1.cap, us, ui]) (.int .i64 1) (.int .i64 0) (knows_new (V := isVal (.agg #[.int .i64 aK1.cap, us, ui])) 109 39 (by kernel_rfl) (by kernel_rfl) (by kernel_rfl)) (knows_new (V := isVal (.int .i64 1)) 110 40 (by kernel_rfl) (by kernel_rfl) (by kernel_rfl)) (knows_const _)) (enters_of Tryz.func15 (by kernel_rfl) rfl) (by intro w' hb; exact (w_in 1 0 0 _ w' (stable_ar _ _ _ _ hK hb) (by kernel_rfl)).mono (by rintro e w2 ⟨a, c, rfl, hb2⟩; exact ⟨_, rfl, ⟨a, c, rfl⟩, hb2⟩)), ?_⟩
  refine ⟨isVal (.int .i64 0), step_lenP 22 (.tmp 111) 0 (by kernel_rfl) (wanted_some 38 108 true (by kernel_rfl) (by kernel_rfl) (by kernel_rfl) (by kernel_rfl)) (knows_new (V := (isLen 0)) 111 41 (by kernel_rfl) (by kernel_rfl) (by kernel_rfl)) Tryz.underlying22, ?_⟩
  refine ⟨isVal (.bool true), step_bin .eql 3 3 (.tmp 112) (.const (.int .i64 0)) (.int .i64 0) (.int .i64 0) (.bool true) (by kernel_rfl) (wanted_some 38 108 true (by kernel_rfl) (by kernel_rfl) (by kernel_rfl) (by kernel_rfl)) (knows_new (V := isVal (.int .i64 0)) 112 42 (by kernel_rfl) (by kernel_rfl) (by kernel_rfl)) (knows_const _) (fun _ => rfl) (eql_t _ _ (by (have h16 := t16_len; omega))), ?_⟩
  refine ⟨isVal (.bool true), step_pick (.tmp 108) (.tmp 113) (.const (.bool false)) true (by kernel_rfl) (wanted_none (by kernel_rfl)) (stable_val _) (knows_new (V := isVal (.bool true)) 108 38 (by kernel_rfl) (by kernel_rfl) (by kernel_rfl)) (knows_new (V := isVal (.bool true)) 113 43 (by kernel_rfl) (by kernel_rfl) (by kernel_rfl)), ?_⟩
  refine ⟨isVal (.bool true), step_move (.tmp 114) (by kernel_rfl) (wanted_none (by kernel_rfl)) (stable_val _) (knows_new (V := isVal (.bool true)) 114 44 (by kernel_rfl) (by kernel_rfl) (by kernel_rfl)), ?_⟩
  refine ⟨isVal (.string ⟨t16.toArray⟩), step_move (.tmp 12) (by kernel_rfl) (wanted_some 45 115 true (by kernel_rfl) (by kernel_rfl) (by kernel_rfl) (by kernel_rfl)) (stable_val _) (knows_old 12 (.string ⟨t16.toArray⟩) (by kernel_rfl) e12), ?_⟩
  refine ⟨isVal (.int .i64 (t16.length : Int)), step_len 9 (.tmp 116) (.string ⟨t16.toArray⟩) (.int .i64 (t16.length : Int)) (by kernel_rfl) (wanted_some 45 115 true (by kernel_rfl) (by kernel_rfl) (by kernel_rfl) (by kernel_rfl)) (knows_new (V := isVal (.string ⟨t16.toArray⟩)) 116 46 (by kernel_rfl) (by kernel_rfl) (by kernel_rfl)) (len_str t16), ?_⟩
  refine ⟨isVal (.bool true), step_bin .eql 3 3 (.tmp 117) (.const (.int .i64 16)) (.int .i64 (t16.length : Int)) (.int .i64 16) (.bool true) (by kernel_rfl) (wanted_some 45 115 true (by kernel_rfl) (by kernel_rfl) (by kernel_rfl) (by kernel_rfl)) (knows_new (V := isVal (.int .i64 (t16.length : Int))) 117 47 (by kernel_rfl) (by kernel_rfl) (by kernel_rfl)) (knows_const _) (fun _ => rfl) (eql_t _ _ (by (have h16 := t16_len; omega))), ?_⟩
  refine ⟨isVal (.bool true), step_pick (.tmp 115) (.tmp 118) (.const (.bool false)) true (by kernel_rfl) (wanted_none (by kernel_rfl)) (stable_val _) (knows_new (V := isVal (.bool true)) 115 45 (by kernel_rfl) (by kernel_rfl) (by kernel_rfl)) (knows_new (V := isVal (.bool true)) 118 48 (by kernel_rfl) (by kernel_rfl) (by kernel_rfl)), ?_⟩
  refine ⟨isVal (.bool true), step_move (.tmp 119) (by kernel_rfl) (wanted_none (by kernel_rfl)) (stable_val _) (knows_new (V := isVal (.bool true)) 119 49 (by kernel_rfl) (by kernel_rfl) (by kernel_rfl)), ?_⟩
  refine ⟨isVal (.int .i64 0), step_move (.tmp 13) (by kernel_rfl) (wanted_some 50 120 true (by kernel_rfl) (by kernel_rfl) (by kernel_rfl) (by kernel_rfl)) (stable_val _) (knows_old 13 (.int .i64 0) (by kernel_rfl) e13), ?_⟩
  refine ⟨isVal (.bool true), step_bin .eql 35 35 (.tmp 121) (.const (.int .i64 0)) (.int .i64 0) (.int .i64 0) (.bool true) (by kernel_rfl) (wanted_some 50 120 true (by kernel_rfl) (by kernel_rfl) (by kernel_rfl) (by kernel_rfl)) (knows_new (V := isVal (.int .i64 0)) 121 51 (by kernel_rfl) (by kernel_rfl) (by kernel_rfl)) (knows_const _) (fun _ => rfl) (eql_t _ _ (by (have h16 := t16_len; omega))), ?_⟩
  refine ⟨isVal (.bool true), step_pick (.tmp 120) (.tmp 122) (.const (.bool false)) true (by kernel_rfl) (wanted_none (by kernel_rfl)) (stable_val _) (knows_new (V := isVal (.bool true)) 120 50 (by kernel_rfl) (by kernel_rfl) (by kernel_rfl)) (knows_new (V := isVal (.bool true)) 122 52 (by kernel_rfl) (by kernel_rfl) (by kernel_rfl)), ?_⟩
  refine ⟨isVal (.bool true), step_move (.tmp 123) (by kernel_rfl) (wanted_none (by kernel_rfl)) (stable_val _) (knows_new (V := isVal (.bool true)) 123 53 (by kernel_rfl) (by kernel_rfl) (by kernel_rfl)), ?_⟩
  refine ⟨isVal (.agg #[.int .i64 1, .int .i64 2, .int .i64 3, .int .i64 4]), step_loadN 26 (.tmp 14) (l) [.int .i64 1, .int .i64 2, .int .i64 3, .int .i64 4] (by kernel_rfl) (wanted_some 54 124 true (by kernel_rfl) (by kernel_rfl) (by kernel_rfl) (by kernel_rfl)) (knows_old 14 (.pointer (some ⟨l, 0, none⟩)) (by kernel_rfl) e14) size_a4 agg_a4 (HL), ?_⟩
  refine ⟨isVal (.agg #[.int .i64 1, .int .i64 2, .int .i64 3, .int .i64 4]), step_buildP 26 #[(0, .const (.int .i64 1)), (1, .const (.int .i64 2)), (2, .const (.int .i64 3)), (3, .const (.int .i64 4))] (by kernel_rfl) (wanted_some 54 124 true (by kernel_rfl) (by kernel_rfl) (by kernel_rfl) (by kernel_rfl)) (stable_val _) (by
    intro a w hk hd
    have e0 : a.eval (.const (.int .i64 1)) = (.int .i64 1) := (knows_const _) a w hk hd
    have e1 : a.eval (.const (.int .i64 2)) = (.int .i64 2) := (knows_const _) a w hk hd
    have e2 : a.eval (.const (.int .i64 3)) = (.int .i64 3) := (knows_const _) a w hk hd
    have e3 : a.eval (.const (.int .i64 4)) = (.int .i64 4) := (knows_const _) a w hk hd
    exact ⟨_, by simpa [e0, e1, e2, e3] using (built_1), rfl⟩), ?_⟩
  refine ⟨isVal (.bool true), step_bin .eql 26 26 (.tmp 125) (.tmp 126) (.agg #[.int .i64 1, .int .i64 2, .int .i64 3, .int .i64 4]) (.agg #[.int .i64 1, .int .i64 2, .int .i64 3, .int .i64 4]) (.bool true) (by kernel_rfl) (wanted_some 54 124 true (by kernel_rfl) (by kernel_rfl) (by kernel_rfl) (by kernel_rfl)) (knows_new (V := isVal (.agg #[.int .i64 1, .int .i64 2, .int .i64 3, .int .i64 4])) 125 55 (by kernel_rfl) (by kernel_rfl) (by kernel_rfl)) (knows_new (V := isVal (.agg #[.int .i64 1, .int .i64 2, .int .i64 3, .int .i64 4])) 126 56 (by kernel_rfl) (by kernel_rfl) (by kernel_rfl)) (fun _ => rfl) (fun W => eql_i4 26 3 1 2 3 4 1 2 3 4 true Tryz.underlying26 Tryz.underlying3 (by kernel_rfl) (by simp) W), ?_⟩
  refine ⟨isVal (.bool true), step_pick (.tmp 124) (.tmp 127) (.const (.bool false)) true (by kernel_rfl) (wanted_none (by kernel_rfl)) (stable_val _) (knows_new (V := isVal (.bool true)) 124 54 (by kernel_rfl) (by kernel_rfl) (by kernel_rfl)) (knows_new (V := isVal (.bool true)) 127 57 (by kernel_rfl) (by kernel_rfl) (by kernel_rfl)), ?_⟩
  refine ⟨isVal (.bool true), step_move (.tmp 128) (by kernel_rfl) (wanted_none (by kernel_rfl)) (stable_val _) (knows_new (V := isVal (.bool true)) 128 58 (by kernel_rfl) (by kernel_rfl) (by kernel_rfl)), ?_⟩
  refine ⟨isVal (.int .i64 0), step_move (.tmp 15) (by kernel_rfl) (wanted_some 59 129 true (by kernel_rfl) (by kernel_rfl) (by kernel_rfl) (by kernel_rfl)) (stable_val _) (knows_old 15 (.int .i64 0) (by kernel_rfl) e15), ?_⟩
  refine ⟨isVal (.bool true), step_bin .eql 35 35 (.tmp 130) (.const (.int .i64 0)) (.int .i64 0) (.int .i64 0) (.bool true) (by kernel_rfl) (wanted_some 59 129 true (by kernel_rfl) (by kernel_rfl) (by kernel_rfl) (by kernel_rfl)) (knows_new (V := isVal (.int .i64 0)) 130 60 (by kernel_rfl) (by kernel_rfl) (by kernel_rfl)) (knows_const _) (fun _ => rfl) (eql_t _ _ (by (have h16 := t16_len; omega))), ?_⟩
  refine ⟨isVal (.bool true), step_pick (.tmp 129) (.tmp 131) (.const (.bool false)) true (by kernel_rfl) (wanted_none (by kernel_rfl)) (stable_val _) (knows_new (V := isVal (.bool true)) 129 59 (by kernel_rfl) (by kernel_rfl) (by kernel_rfl)) (knows_new (V := isVal (.bool true)) 131 61 (by kernel_rfl) (by kernel_rfl) (by kernel_rfl)), ?_⟩
  refine ⟨isVal (.bool true), step_move (.tmp 132) (by kernel_rfl) (wanted_none (by kernel_rfl)) (stable_val _) (knows_new (V := isVal (.bool true)) 132 62 (by kernel_rfl) (by kernel_rfl) (by kernel_rfl)), ?_⟩
  refine ⟨isVal (.int .i64 1), step_move (.tmp 17) (by kernel_rfl) (wanted_some 63 133 true (by kernel_rfl) (by kernel_rfl) (by kernel_rfl) (by kernel_rfl)) (stable_val _) (knows_old 17 (.int .i64 1) (by kernel_rfl) e17), ?_⟩
  refine ⟨isVal (.bool true), step_bin .eql 35 35 (.tmp 134) (.const (.int .i64 1)) (.int .i64 1) (.int .i64 1) (.bool true) (by kernel_rfl) (wanted_some 63 133 true (by kernel_rfl) (by kernel_rfl) (by kernel_rfl) (by kernel_rfl)) (knows_new (V := isVal (.int .i64 1)) 134 64 (by kernel_rfl) (by kernel_rfl) (by kernel_rfl)) (knows_const _) (fun _ => rfl) (eql_t _ _ (by (have h16 := t16_len; omega))), ?_⟩
  refine ⟨isVal (.bool true), step_pick (.tmp 133) (.tmp 135) (.const (.bool false)) true (by kernel_rfl) (wanted_none (by kernel_rfl)) (stable_val _) (knows_new (V := isVal (.bool true)) 133 63 (by kernel_rfl) (by kernel_rfl) (by kernel_rfl)) (knows_new (V := isVal (.bool true)) 135 65 (by kernel_rfl) (by kernel_rfl) (by kernel_rfl)), ?_⟩
  refine ⟨isVal (.bool true), step_move (.tmp 136) (by kernel_rfl) (wanted_none (by kernel_rfl)) (stable_val _) (knows_new (V := isVal (.bool true)) 136 66 (by kernel_rfl) (by kernel_rfl) (by kernel_rfl)), ?_⟩
  refine ⟨isVal (.int .i64 2), step_move (.tmp 19) (by kernel_rfl) (wanted_some 67 137 true (by kernel_rfl) (by kernel_rfl) (by kernel_rfl) (by kernel_rfl)) (stable_val _) (knows_old 19 (.int .i64 2) (by kernel_rfl) e19), ?_⟩
  refine ⟨isVal (.bool true), step_bin .eql 35 35 (.tmp 138) (.const (.int .i64 2)) (.int .i64 2) (.int .i64 2) (.bool true) (by kernel_rfl) (wanted_some 67 137 true (by kernel_rfl) (by kernel_rfl) (by kernel_rfl) (by kernel_rfl)) (knows_new (V := isVal (.int .i64 2)) 138 68 (by kernel_rfl) (by kernel_rfl) (by kernel_rfl)) (knows_const _) (fun _ => rfl) (eql_t _ _ (by (have h16 := t16_len; omega))), ?_⟩
  refine ⟨isVal (.bool true), step_pick (.tmp 137) (.tmp 139) (.const (.bool false)) true (by kernel_rfl) (wanted_none (by kernel_rfl)) (stable_val _) (knows_new (V := isVal (.bool true)) 137 67 (by kernel_rfl) (by kernel_rfl) (by kernel_rfl)) (knows_new (V := isVal (.bool true)) 139 69 (by kernel_rfl) (by kernel_rfl) (by kernel_rfl)), ?_⟩
  refine ⟨isVal (.bool true), step_assign (.tmp 140) (by kernel_rfl) (wanted_none (by kernel_rfl)) (stable_val _) (knows_new (V := isVal (.bool true)) 140 70 (by kernel_rfl) (by kernel_rfl) (by kernel_rfl)), ?_⟩
  intro a w hkp hb hd
  rw [kept_of hkp [some 70, some 71, some 72, some 73, some 74, some 75, some 76, some 77, some 78, some 79, some 80, some 81, some 82, some 83, some 84, some 85, some 86, some 87, some 88, some 89, some 90, some 91, some 92, some 93, some 94, some 95, some 96, some 97, some 98, some 99, some 100, some 101, some 102, some 103, some 104, some 105, some 106, some 107, some 108, some 109, some 110, some 111, some 112, some 113, some 114, some 115, some 116, some 117, some 118, some 119, some 120, some 121, some 122, some 123, some 124, some 125, some 126, some 127, some 128, some 129, some 130, some 131, some 132, some 133, some 134, some 135, some 136, some 137, some 138, some 139, some 140, some 0] [70, 71, 72, 73, 74, 75, 76, 77, 78, 79, 80, 81, 82, 83, 84, 85, 86, 87, 88, 89, 90, 91, 92, 93, 94, 95, 96, 97, 98, 99, 100, 101, 102, 103, 104, 105, 106, 107, 108, 109, 110, 111, 112, 113, 114, 115, 116, 117, 118, 119, 120, 121, 122, 123, 124, 125, 126, 127, 128, 129, 130, 131, 132, 133, 134, 135, 136, 137, 138, 139, 140, 0] (by kernel_rfl) (by decide)]
  have d0 := fdone_of (hd 71 (by rw [show wk14Ops.size = 72 by kernel_rfl]; decide)) (t := 0) (V := isVal (.bool true)) (by kernel_rfl) (by kernel_rfl)
  exact hQ (fun s => a.tmps.getD s undef) w d0 hb
set_option maxRecDepth 100000 in
set_option maxHeartbeats 4000000 in
theorem dgworks_any (w : World) : Calls Tryz.prog 9 #[] w fun e w' => e = .returned (.bool true) ∧ Below w.heap.size w w' := by
  have hB := Kept.mk (Below.refl w.heap.size w)
  have he0 : ∀ W, (binOp .eql 26 (.agg #[.int .i64 0, .int .i64 0, .int .i64 0, .int .i64 0]) (.agg #[.int .i64 0, .int .i64 0, .int .i64 0, .int .i64 0])).run Tryz.prog W = .ok (.bool true) W := fun W => eql_i4 26 3 0 0 0 0 0 0 0 0 true Tryz.underlying26 Tryz.underlying3 (by kernel_rfl) (by simp) W
  have he1 : ∀ W, (binOp .eql 26 (.agg #[.int .i64 1, .int .i64 2, .int .i64 3, .int .i64 4]) (.agg #[.int .i64 1, .int .i64 2, .int .i64 3, .int .i64 4])).run Tryz.prog W = .ok (.bool true) W := fun W => eql_i4 26 3 1 2 3 4 1 2 3 4 true Tryz.underlying26 Tryz.underlying3 (by kernel_rfl) (by simp) W
  go_enter Tryz.func9, Tryz.ntmps9
  go_wp2_with fail
  ((with_reducible refine (w_dnew _).mono ?_); rintro e U ⟨v', rfl, ⟨p', m', rfl, hp', hm'⟩, hb1⟩)
  obtain ⟨K1, K2, K3, K4, K5⟩ := anew U aZ2 p' m' hp' hm' U.heap.size rfl
  clear hp' hm'
  replace hB := Kept.mk (hB.out.trans ((hb1).mono hB.out.size))
  clear hb1
  go_wp2_with (have hz0 := K1; refine wpList_storeN 25 rfl (.tmp 1) (.tmp 22) rfl U.heap.size [.int .i64 aZ2.cap, p', m'] size_ar rfl rfl K1.out rfl K2.out K5.out ?_; replace hB := Kept.mk (hB.out.trans ((K3.out).mono hB.out.size)); have Va := Kept.mk K4.out; clear hz0 K1 K2 K3 K4 K5; generalize setN (U.alloc (.cells #[.int .i64 0, .slice none 0 0, .slice none 0 0] 25)) U.heap.size 0 [.int .i64 aZ2.cap, p', m'] = W1 at *; generalize U.heap.size = ga at *; obtain ⟨qa, ra, xa, sa, ia, ka0, ka1, ka2⟩ := Va.out.open_; have Xa := Kept.mk xa; have Sa := Kept.mk sa; have Ia := Kept.mk ia; clear xa sa ia; obtain ⟨hBx, Vx, Xx2⟩ := w_litK W1; have kw0 := (hBx.out.cell (p := ⟨ga, 0, none⟩) Va.out.lt).trans ka0; have kw1 := (hBx.out.cell (p := ⟨ga, 1, none⟩) Va.out.lt).trans ka1; have kw2 := (hBx.out.cell (p := ⟨ga, 2, none⟩) Va.out.lt).trans ka2)
  have Xa2 := Kept.mk (stable_ar _ _ _ _ Xa.out hBx.out)
  replace hB := Kept.mk (hB.out.trans (hBx.out.mono hB.out.size))
  replace Va := Kept.mk (Va.out.keep hBx.out)
  clear hBx kw0 kw1 kw2
  clear Xa Sa Ia ka0 ka1 ka2
  generalize W1.heap.size = gx at *
  generalize (W1.alloc (.cells #[.string ⟨#[107]⟩, .int .i64 3, .int .i64 0, .int .i64 0, .bool false, .string ⟨#[]⟩, .slice none 0 0, .slice none 0 0, .int .u64 1] 48)) = W2 at *
  ((with_reducible refine (w_djoin _ _ _ Xa2.out Xx2.out).mono ?_); rintro e U ⟨v', rfl, ⟨p', m', rfl, hp', hm'⟩, hb1⟩)
  obtain ⟨K1, K2, K3, K4, K5⟩ := anew U aK1 p' m' hp' hm' U.heap.size rfl
  clear hp' hm'
  replace hB := Kept.mk (hB.out.trans ((hb1).mono hB.out.size))
  replace Va := Kept.mk (Va.out.keep (hb1))
  replace Vx := Kept.mk (Vx.out.keep (hb1))
  clear hb1
  go_wp2_with (have hz0 := K1; refine wpList_storeN 25 rfl (.tmp 4) (.tmp 30) rfl U.heap.size [.int .i64 aK1.cap, p', m'] size_ar rfl rfl K1.out rfl K2.out K5.out ?_; replace hB := Kept.mk (hB.out.trans ((K3.out).mono hB.out.size)); replace Va := Kept.mk (Va.out.keep (K3.out)); replace Vx := Kept.mk (Vx.out.keep (K3.out)); have Vb := Kept.mk K4.out; clear hz0 K1 K2 K3 K4 K5; generalize setN (U.alloc (.cells #[.int .i64 0, .slice none 0 0, .slice none 0 0] 25)) U.heap.size 0 [.int .i64 aK1.cap, p', m'] = W3 at *; generalize U.heap.size = gb at *; obtain ⟨qx, rx, xx, yx, kx0, kx1, kx2, kx3, kx4, kx5, kx6, kx7, kx8⟩ := Vx.out.open_; have Xx := Kept.mk xx; have Yx := Kept.mk yx; clear xx yx)
  ((with_reducible refine (w_dput _ _ Xx.out).mono ?_); rintro e W4 ⟨rfl, hb1⟩)
  clear Xx Yx kx0 kx1 kx2 kx3 kx4 kx5 kx6 kx7 kx8
  replace hB := Kept.mk (hB.out.trans ((hb1).mono hB.out.size))
  replace Va := Kept.mk (Va.out.keep (hb1))
  replace Vx := Kept.mk (Vx.out.keep (hb1))
  replace Vb := Kept.mk (Vb.out.keep (hb1))
  clear hb1
  go_wp2_with fail
  ((with_reducible refine (w_bucket _).mono ?_); rintro e W5 ⟨rfl, hb1⟩)
  replace hB := Kept.mk (hB.out.trans ((hb1).mono hB.out.size))
  replace Va := Kept.mk (Va.out.keep (hb1))
  replace Vx := Kept.mk (Vx.out.keep (hb1))
  replace Vb := Kept.mk (Vb.out.keep (hb1))
  clear hb1
  obtain ⟨qb, rb, xb, sb, ib, kb0, kb1, kb2⟩ := Vb.out.open_
  have Xb := Kept.mk xb
  have Sb := Kept.mk sb
  have Ib := Kept.mk ib
  clear xb sb ib
  go_wp2_with fail
  ((with_reducible refine (w_sumsK _ _ Xb.out).mono ?_); rintro e U ⟨rfl, hb1⟩)
  obtain ⟨K1, K2, K3, K4, K5⟩ := snew U (3264677171) (0) (0) (0) U.heap.size rfl
  clear Xb Sb Ib kb0 kb1 kb2
  replace hB := Kept.mk (hB.out.trans ((hb1).mono hB.out.size))
  replace Va := Kept.mk (Va.out.keep (hb1))
  replace Vx := Kept.mk (Vx.out.keep (hb1))
  replace Vb := Kept.mk (Vb.out.keep (hb1))
  clear hb1
  go_wp2_with (have hz0 := K1; refine wpList_storeN 26 rfl (.tmp 10) (.tmp 46) rfl U.heap.size [.int .i64 3264677171, .int .i64 0, .int .i64 0, .int .i64 0] size_a4 rfl rfl K1.out rfl K2.out K5.out ?_; replace hB := Kept.mk (hB.out.trans ((K3.out).mono hB.out.size)); replace Va := Kept.mk (Va.out.keep (K3.out)); replace Vx := Kept.mk (Vx.out.keep (K3.out)); replace Vb := Kept.mk (Vb.out.keep (K3.out)); have Vs := Kept.mk K4.out; clear hz0 K1 K2 K3 K4 K5; generalize setN (U.alloc (.cells #[.int .i64 0, .int .i64 0, .int .i64 0, .int .i64 0] 26)) U.heap.size 0 [.int .i64 3264677171, .int .i64 0, .int .i64 0, .int .i64 0] = W6 at *; generalize U.heap.size = gs at *; obtain ⟨qa, ra, xa, sa, ia, ka0, ka1, ka2⟩ := Va.out.open_; have Xa := Kept.mk xa; have Sa := Kept.mk sa; have Ia := Kept.mk ia; clear xa sa ia)
  refine wk9_region _ _ _ rfl gs ga _ _ rfl rfl Vs.out.cells ?HH Xa.out ?_
  case HH => exact ⟨Va.out.lt, fun j x hx => by match j, hx with | 0, h => exact ka0 ▸ h | 1, h => exact ka1 ▸ h | 2, h => exact ka2 ▸ h | n + 3, h => simp at h⟩
  intro f9 W9 d11 hb1
  simp only [List.foldl_cons, List.foldl_nil, d11]
  generalize f9 47 = y47
  generalize f9 48 = y48
  generalize f9 49 = y49
  generalize f9 50 = y50
  clear d11
  try simp only [List.setIfInBounds_toArray, List.set_cons_succ, List.set_cons_zero]
  clear Xa Sa Ia ka0 ka1 ka2
  replace hB := Kept.mk (hB.out.trans ((hb1).mono hB.out.size))
  replace Va := Kept.mk (Va.out.keep (hb1))
  replace Vx := Kept.mk (Vx.out.keep (hb1))
  replace Vb := Kept.mk (Vb.out.keep (hb1))
  replace Vs := Kept.mk (Vs.out.keep (hb1))
  clear hb1
  go_wp2_with fail
  ((with_reducible refine (w_put4 _).mono ?_); rintro e W8 ⟨rfl, hb1⟩)
  replace hB := Kept.mk (hB.out.trans ((hb1).mono hB.out.size))
  replace Va := Kept.mk (Va.out.keep (hb1))
  replace Vx := Kept.mk (Vx.out.keep (hb1))
  replace Vb := Kept.mk (Vb.out.keep (hb1))
  replace Vs := Kept.mk (Vs.out.keep (hb1))
  clear hb1
  go_wp2_with fail
  ((with_reducible refine (w_get4 _).mono ?_); rintro e U ⟨rfl, hb1⟩)
  obtain ⟨K1, K2, K3, K4, K5⟩ := snew U (1) (2) (3) (4) U.heap.size rfl
  replace hB := Kept.mk (hB.out.trans ((hb1).mono hB.out.size))
  replace Va := Kept.mk (Va.out.keep (hb1))
  replace Vx := Kept.mk (Vx.out.keep (hb1))
  replace Vb := Kept.mk (Vb.out.keep (hb1))
  replace Vs := Kept.mk (Vs.out.keep (hb1))
  clear hb1
  go_wp2_with (have hz0 := K1; refine wpList_storeN 26 rfl (.tmp 14) (.tmp 59) rfl U.heap.size [.int .i64 1, .int .i64 2, .int .i64 3, .int .i64 4] size_a4 rfl rfl K1.out rfl K2.out K5.out ?_; replace hB := Kept.mk (hB.out.trans ((K3.out).mono hB.out.size)); replace Va := Kept.mk (Va.out.keep (K3.out)); replace Vx := Kept.mk (Vx.out.keep (K3.out)); replace Vb := Kept.mk (Vb.out.keep (K3.out)); replace Vs := Kept.mk (Vs.out.keep (K3.out)); have Vl := Kept.mk K4.out; clear hz0 K1 K2 K3 K4 K5; generalize setN (U.alloc (.cells #[.int .i64 0, .int .i64 0, .int .i64 0, .int .i64 0] 26)) U.heap.size 0 [.int .i64 1, .int .i64 2, .int .i64 3, .int .i64 4] = W9 at *; generalize U.heap.size = gl at *)
  ((with_reducible refine (w_put4n _).mono ?_); rintro e W10 ⟨rfl, hb1⟩)
  replace hB := Kept.mk (hB.out.trans ((hb1).mono hB.out.size))
  replace Va := Kept.mk (Va.out.keep (hb1))
  replace Vx := Kept.mk (Vx.out.keep (hb1))
  replace Vb := Kept.mk (Vb.out.keep (hb1))
  replace Vs := Kept.mk (Vs.out.keep (hb1))
  replace Vl := Kept.mk (Vl.out.keep (hb1))
  clear hb1
  go_wp2_with fail
  ((with_reducible refine (w_get0 _).mono ?_); rintro e U ⟨rfl, hb1⟩)
  obtain ⟨K1, K2, K3, K4, K5⟩ := snew U (0) (0) (0) (0) U.heap.size rfl
  replace hB := Kept.mk (hB.out.trans ((hb1).mono hB.out.size))
  replace Va := Kept.mk (Va.out.keep (hb1))
  replace Vx := Kept.mk (Vx.out.keep (hb1))
  replace Vb := Kept.mk (Vb.out.keep (hb1))
  replace Vs := Kept.mk (Vs.out.keep (hb1))
  replace Vl := Kept.mk (Vl.out.keep (hb1))
  clear hb1
  go_wp2_with (have hz0 := K1; refine wpList_storeN 26 rfl (.tmp 18) (.tmp 68) rfl U.heap.size [.int .i64 0, .int .i64 0, .int .i64 0, .int .i64 0] size_a4 rfl rfl K1.out rfl K2.out K5.out ?_; replace hB := Kept.mk (hB.out.trans ((K3.out).mono hB.out.size)); replace Va := Kept.mk (Va.out.keep (K3.out)); replace Vx := Kept.mk (Vx.out.keep (K3.out)); replace Vb := Kept.mk (Vb.out.keep (K3.out)); replace Vs := Kept.mk (Vs.out.keep (K3.out)); replace Vl := Kept.mk (Vl.out.keep (K3.out)); have Vz := Kept.mk K4.out; clear hz0 K1 K2 K3 K4 K5; generalize setN (U.alloc (.cells #[.int .i64 0, .int .i64 0, .int .i64 0, .int .i64 0] 26)) U.heap.size 0 [.int .i64 0, .int .i64 0, .int .i64 0, .int .i64 0] = W11 at *; generalize U.heap.size = gz at *; obtain ⟨qa, ra, xa, sa, ia, ka0, ka1, ka2⟩ := Va.out.open_; have Xa := Kept.mk xa; have Sa := Kept.mk sa; have Ia := Kept.mk ia; clear xa sa ia)
  obtain ⟨qb, rb, xb, sb, ib, kb0, kb1, kb2⟩ := Vb.out.open_
  have Xb := Kept.mk xb
  have Sb := Kept.mk sb
  have Ib := Kept.mk ib
  clear xb sb ib
  refine wk14_region _ _ _ rfl gs ga gb gl _ _ _ _ rfl rfl rfl rfl rfl rfl rfl rfl rfl rfl rfl rfl rfl Vs.out.cells ?HH ?HB Vl.out.cells Xa.out Xb.out ?_
  case HH => exact ⟨Va.out.lt, fun j x hx => by match j, hx with | 0, h => exact ka0 ▸ h | 1, h => exact ka1 ▸ h | 2, h => exact ka2 ▸ h | n + 3, h => simp at h⟩
  case HB => exact ⟨Vb.out.lt, fun j x hx => by match j, hx with | 0, h => exact kb0 ▸ h | 1, h => exact kb1 ▸ h | 2, h => exact kb2 ▸ h | n + 3, h => simp at h⟩
  intro f9 W9 d0 hb1
  simp only [List.foldl_cons, List.foldl_nil, d0]
  generalize f9 70 = y70
  generalize f9 71 = y71
  generalize f9 72 = y72
  generalize f9 73 = y73
  generalize f9 74 = y74
  generalize f9 75 = y75
  generalize f9 76 = y76
  generalize f9 77 = y77
  generalize f9 78 = y78
  generalize f9 79 = y79
  generalize f9 80 = y80
  generalize f9 81 = y81
  generalize f9 82 = y82
  generalize f9 83 = y83
  generalize f9 84 = y84
  generalize f9 85 = y85
  generalize f9 86 = y86
  generalize f9 87 = y87
  generalize f9 88 = y88
  generalize f9 89 = y89
  generalize f9 90 = y90
  generalize f9 91 = y91
  generalize f9 92 = y92
  generalize f9 93 = y93
  generalize f9 94 = y94
  generalize f9 95 = y95
  generalize f9 96 = y96
  generalize f9 97 = y97
  generalize f9 98 = y98
  generalize f9 99 = y99
  generalize f9 100 = y100
  generalize f9 101 = y101
  generalize f9 102 = y102
  generalize f9 103 = y103
  generalize f9 104 = y104
  generalize f9 105 = y105
  generalize f9 106 = y106
  generalize f9 107 = y107
  generalize f9 108 = y108
  generalize f9 109 = y109
  generalize f9 110 = y110
  generalize f9 111 = y111
  generalize f9 112 = y112
  generalize f9 113 = y113
  generalize f9 114 = y114
  generalize f9 115 = y115
  generalize f9 116 = y116
  generalize f9 117 = y117
  generalize f9 118 = y118
  generalize f9 119 = y119
  generalize f9 120 = y120
  generalize f9 121 = y121
  generalize f9 122 = y122
  generalize f9 123 = y123
  generalize f9 124 = y124
  generalize f9 125 = y125
  generalize f9 126 = y126
  generalize f9 127 = y127
  generalize f9 128 = y128
  generalize f9 129 = y129
  generalize f9 130 = y130
  generalize f9 131 = y131
  generalize f9 132 = y132
  generalize f9 133 = y133
  generalize f9 134 = y134
  generalize f9 135 = y135
  generalize f9 136 = y136
  generalize f9 137 = y137
  generalize f9 138 = y138
  generalize f9 139 = y139
  generalize f9 140 = y140
  clear d0
  try simp only [List.setIfInBounds_toArray, List.set_cons_succ, List.set_cons_zero]
  clear Xa Sa Ia ka0 ka1 ka2 Xb Sb Ib kb0 kb1 kb2
  replace hB := Kept.mk (hB.out.trans (hb1.mono hB.out.size))
  clear hb1
  go_wp2
  go_ret
  exact ⟨rfl, hB.out⟩
end Go.Proofs.YtkjghoomdefbbaaGreatDoor
end
section
namespace Go.Proofs.YtkjghoomdefbbaaGreatDoor
set_option linter.unusedVariables false

theorem pairL_pad : ∀ (a b : List UInt8), pairL (· ^^^ ·) a b = pairL (· ^^^ ·) a (b ++ List.replicate (a.length - b.length) 0)
  | [], _ => by simp [pairL]
  | x :: a, [] => by
    have : ∀ l : List UInt8, pairL (· ^^^ ·) l (List.replicate l.length 0) = l := by
      intro l
      induction l with
      | nil => rfl
      | cons y l ih => simp [pairL, List.replicate_succ]; exact ih
    rw [List.nil_append, List.length_nil, Nat.sub_zero, this]; rfl
  | x :: a, y :: b => by
    rw [List.cons_append, pairL, pairL, List.length_cons, List.length_cons, Nat.add_sub_add_right, ← pairL_pad a b]
/-- What is turned in four bytes that stand next to each other comes to nothing where nothing is turned alone. -/
theorem turned (n : Nat) (t q : List UInt8) (k : Nat) (hq : q.length = 4) (hk : k + 4 ≤ t.length) (hn : n < 4294967296) :
    (onL n (pairL (· ^^^ ·) t (List.replicate k 0 ++ q)) = onL n t) ↔ getN q = 0 := by
  rw [pairL_pad]
  have hlen : t.length = (List.replicate k 0 ++ q ++ List.replicate (t.length - (List.replicate k (0 : UInt8) ++ q).length) 0).length := by
    simp [hq]; omega
  have h := onL_xor t _ n 0 hlen
  rw [Nat.xor_zero] at h
  rw [h]
  generalize t.length - (List.replicate k (0 : UInt8) ++ q).length = r
  rw [onL_append, onL_append, onL_zeros k, stps_zero, onL_getN q, onL_zeros r, hq, Nat.zero_xor, ← stps_add]
  have hg : getN q < 4294967296 := by have := getN_lt q; rw [hq] at this; exact this
  have ht := onL_lt t hn
  constructor
  · intro e
    have e2 := congrArg (onL n t ^^^ ·) e
    simp only [← Nat.xor_assoc, Nat.xor_self, Nat.zero_xor] at e2
    exact stps_nil _ hg e2
  · intro e
    rw [e, stps_zero, Nat.xor_zero]
end Go.Proofs.YtkjghoomdefbbaaGreatDoor
end
section
namespace Go.Proofs.YtkjghoomdefbbaaGreatDoor
open Go.RowKit
set_option linter.unusedVariables false

def encB (l : List UInt8) : List Value := l.map fun b => .int .u8 (b.toNat : Int)
/-- The slice v holds just the bytes l, in a block of the call's own. -/
def OwnB (w : World) (base : Nat) (e : TypeId) (v : Value) (l : List UInt8) : Prop := w.ownsRow base e 1 v l.length (encB l)

theorem OwnB.nil (w : World) (base : Nat) (e : TypeId) : OwnB w base e (.slice none 0 0) [] := World.ownsRow_nil _ _ _ _
theorem OwnB.back {P : Program} {w : World} {base : Nat} {e : TypeId} {v : Value} {l : List UInt8} (h : OwnB w base e v l) (src dst : TypeId)
    (hs : P.underlying src = some (.slice e)) (he : P.underlying e = some (.int .u8)) (hd : P.underlying dst = some .string) :
    (convert src dst v).run P w = .ok (.string ⟨l.toArray⟩) w := by
  obtain ⟨h1, ⟨rfl, h0⟩ | ⟨g, cap, cur, rfl, _, hh, _, _, hcs, ht⟩⟩ := h
  · have : l = [] := List.eq_nil_of_length_eq_zero h0
    subst this
    exact run_convert_bytes_nil (w := w) src e hs he 0 0 dst hd
  · refine run_convert_bytes_back w src dst e ⟨g, 0, none⟩ cap l hs he hd (fun j hj => ?_)
    have hc : w.cell? ⟨g, j, none⟩ = cur[j]? := cell_of_row w g j cur e (0, 0) hh
    have hj2 : cur.toList[j]? = some (.int .u8 (l[j].toNat : Int)) := by
      have := congrArg (fun x => x[j]?) ht
      simp only [Nat.mul_one] at this
      rw [List.getElem?_take_of_lt hj] at this
      rw [this]
      simp [encB, hj]
    have e1 : (⟨g, 0, none⟩ : Addr).add j = ⟨g, j, none⟩ := by
      by_cases e0 : j = 0
      · subst e0; simp [Addr.add]
      · simp [Addr.add, e0]
    rw [e1, hc, ← Array.getElem?_toList, hj2]
end Go.Proofs.YtkjghoomdefbbaaGreatDoor
end
section
namespace Go.Proofs.YtkjghoomdefbbaaGreatDoor
open Go.RowKit
set_option linter.unusedVariables false

/-- What is left of a number, byte by byte. -/
def leftN (m k : Nat) : Nat := m / 256 ^ k
end Go.Proofs.YtkjghoomdefbbaaGreatDoor
end
section
namespace Go.Proofs.YtkjghoomdefbbaaGreatDoor
open Go.RowKit
set_option linter.unusedVariables false

end Go.Proofs.YtkjghoomdefbbaaGreatDoor
end
section
namespace Go.Proofs.YtkjghoomdefbbaaGreatDoor
open Go.RowKit
set_option linter.unusedVariables false
set_option linter.unusedSimpArgs false

end Go.Proofs.YtkjghoomdefbbaaGreatDoor
end
section
namespace Go.Proofs.YtkjghoomdefbbaaGreatDoor
open Go.RowKit
set_option linter.unusedVariables false
set_option linter.unusedSimpArgs false

def OutI (N : Nat) (v : Value) (xs : List Int) (w : World) : Prop := w.ownsRow N 3 1 v xs.length (xs.map intC)
theorem OutI.keep {N : Nat} {v : Value} {xs : List Int} {w w' : World} (h : OutI N v xs w) (hb : Below w.heap.size w w') : OutI N v xs w' := own_grow h hb
theorem OutI.low {N N' : Nat} {v : Value} {xs : List Int} {w : World} (h : OutI N v xs w) (hN : N' ≤ N) : OutI N' v xs w := own_low h hN
theorem OutI.cells {N : Nat} {v : Value} {xs : List Int} {w : World} (h : OutI N v xs w) : isCells (xs.map intC) v w := by
  refine isOwn.cells (B := N) (e := 3) ?_
  unfold isOwn
  rw [List.length_map]
  exact h
theorem OutI.len {N : Nat} {v : Value} {xs : List Int} {w : World} (h : OutI N v xs w) : ∃ a c, v = .slice a xs.length c := by
  obtain ⟨_, ⟨rfl, h0⟩ | ⟨g, cap, cur, rfl, _⟩⟩ := h
  · exact ⟨_, _, by rw [h0]⟩
  · exact ⟨_, _, rfl⟩
def SrcI (u : Value) (ys : List Int) (w : World) : Prop := (u = .slice none 0 0 ∧ ys = []) ∨ ∃ (a : Addr) (c : Nat), u = .slice (some a) ys.length c ∧ ∀ (j : Nat) (x : Int), ys[j]? = some x → w.cell? (a.add j) = some (intC x)
section
variable {ops : Array Oper} {rest : List Oper} {o : Oper} {a : Act} {w : World} {Q : Exit → Act → World → Prop}
end
theorem SrcI.keep {u : Value} {ys : List Int} {w w' : World} (h : SrcI u ys w) (hb : Below w.heap.size w w') : SrcI u ys w' := by
  rcases h with h | ⟨a, c, e, hc⟩
  · exact .inl h
  · exact .inr ⟨a, c, e, fun j x hx => (hb.cell (World.block_lt_of_cell? w _ (hc j x hx))).trans (hc j x hx)⟩
end Go.Proofs.YtkjghoomdefbbaaGreatDoor
end
section
namespace Go.Proofs.YtkjghoomdefbbaaGreatDoor
open Go.RowKit
set_option linter.unusedVariables false
set_option linter.unusedSimpArgs false
attribute [local irreducible] setN

noncomputable def rix1Ops : Array Oper := regionOf Tryz.f64 6
noncomputable def rix2Ops : Array Oper := regionOf Tryz.f64 6
noncomputable def rsl1Ops : Array Oper := regionOf Tryz.f62 9
end Go.Proofs.YtkjghoomdefbbaaGreatDoor
end
section
namespace Go.Proofs.YtkjghoomdefbbaaGreatDoor
open Go.RowKit
set_option linter.unusedVariables false
set_option linter.unusedSimpArgs false
attribute [local irreducible] setN

def IdxPost (l : List En) (w : World) (e : Ending) (w' : World) : Prop := ∃ v', e = .returned v' ∧ OutI w.heap.size v' (idxM l) w' ∧ Below w.heap.size w w'
end Go.Proofs.YtkjghoomdefbbaaGreatDoor
end
section
namespace Go.Proofs.YtkjghoomdefbbaaGreatDoor
open Go.RowKit
set_option linter.unusedVariables false
set_option linter.unusedSimpArgs false
attribute [local irreducible] setN

end Go.Proofs.YtkjghoomdefbbaaGreatDoor
end
section
namespace Go.Proofs.YtkjghoomdefbbaaGreatDoor
open Go.RowKit
set_option linter.unusedVariables false
set_option linter.unusedSimpArgs false
attribute [local irreducible] setN

def eX : En := ⟨[98], ⟨3, 0, 0, false, [], [], [], 1⟩⟩
def eY : En := ⟨[97], ⟨3, 0, 0, false, [], [], [], 2⟩⟩
def eZ : En := ⟨[98], ⟨3, 0, 0, false, [], [], [], 3⟩⟩
def eW : En := ⟨[99], ⟨3, 0, 0, false, [], [], [], 1⟩⟩
def aA : Ar := ⟨2, [], []⟩
def aB : Ar := ⟨2, [eX], [0]⟩
def aC : Ar := ⟨2, [eX, eY], [1, 0]⟩
def aD : Ar := ⟨2, [eZ, eY], [1, 0]⟩
end Go.Proofs.YtkjghoomdefbbaaGreatDoor
end
section
namespace Go.Proofs.YtkjghoomdefbbaaGreatDoor
open Go.RowKit
set_option linter.unusedVariables false
set_option linter.unusedSimpArgs false
attribute [local irreducible] setN eX eY eZ eW zeroE aA aB aC aD

end Go.Proofs.YtkjghoomdefbbaaGreatDoor
end
section
namespace Go.Proofs.YtkjghoomdefbbaaGreatDoor
open Go.RowKit Go.ChangeShapes Go.WideShapes
set_option linter.unusedVariables false
set_option linter.unusedSimpArgs false

structure CameE (E : En) : Prop where
  key : E.key.length ≤ maxLen
  val : CameV E.val
set_option maxRecDepth 100000 in
set_option maxHeartbeats 1000000 in
theorem open_en {W : World} {H : Type} {enc : TypeId × Value → H} {base b0 : Nat} {spare : Nat → Bool} {held : Bool} {v : Value} {d : DataW H} {p : List MemPlace} (hv : Value.okWide Tryz.prog W .any b0 48 v)
    (h : DataW.Trod enc Tryz.prog W base spare held 48 v d p) : ∃ E : En, isEn E v W ∧ CameE E := by
  obtain ⟨⟨l⟩, rfl, hsz⟩ := okWide_struct Tryz.underlying48 hv
  have hl : l.length = 9 := hsz.trans (by kernel_rfl)
  match l, hl with
  | [v8, v0, v1, v2, v3, v4, v5, v6, v7], _ =>
    obtain ⟨fuel0, hf0⟩ := h
    obtain ⟨xs0, n0, _, hxe0, _, hxl0, hg0⟩ := DataW.trod_struct Tryz.underlying48 hf0
    obtain ⟨z0, ez0⟩ : ∃ y, xs0[0]? = some y := ⟨_, List.getElem?_eq_getElem (by rw [hxl0]; decide)⟩
    obtain ⟨z1, ez1⟩ : ∃ y, xs0[1]? = some y := ⟨_, List.getElem?_eq_getElem (by rw [hxl0]; decide)⟩
    have g8 := hg0 0 _ rfl
    have hf := hg0 1 _ rfl
    have c2 : Tryz.prog.cellsOf 23 = 1 := by kernel_rfl
    have c3 : Tryz.prog.cellsOf 3 = 1 := by kernel_rfl
    have c4 : Tryz.prog.cellsOf 9 = 1 := by kernel_rfl
    have c5 : Tryz.prog.cellsOf 4 = 1 := by kernel_rfl
    have c6 : Tryz.prog.cellsOf 44 = 1 := by kernel_rfl
    have c7 : Tryz.prog.cellsOf 46 = 8 := by kernel_rfl
    have g8a : DataW.trod enc Tryz.prog W base spare held n0 9 (List.take (Tryz.prog.cellsOf 9) [v8, v0, v1, v2, v3, v4, v5, v6, v7]) = xs0[0]? := g8
    have hfa : DataW.trod enc Tryz.prog W base spare held n0 46 (List.take (Tryz.prog.cellsOf 46) [v0, v1, v2, v3, v4, v5, v6, v7]) = xs0[1]? := hf
    rw [ez0, c4] at g8a
    rw [ez1, c7] at hfa
    replace g8 : DataW.trod enc Tryz.prog W base spare held n0 9 [v8] = some z0 := g8a
    replace hf : DataW.trod enc Tryz.prog W base spare held n0 46 [v0, v1, v2, v3, v4, v5, v6, v7] = some z1 := hfa
    obtain ⟨key, h8, _, w8⟩ := DataW.trod_string Tryz.underlying9 g8
    obtain ⟨xs, n, _, hxe, _, hxl, hg⟩ := DataW.trod_struct Tryz.underlying46 hf
    have at_ : ∀ i, i < 8 → ∃ y, xs[i]? = some y := fun i hi => ⟨_, List.getElem?_eq_getElem (by rw [hxl]; exact hi)⟩
    obtain ⟨y0, e0⟩ := at_ 0 (by decide)
    obtain ⟨y1, e1⟩ := at_ 1 (by decide)
    obtain ⟨y2, e2⟩ := at_ 2 (by decide)
    obtain ⟨y3, e3⟩ := at_ 3 (by decide)
    obtain ⟨y4, e4⟩ := at_ 4 (by decide)
    obtain ⟨y5, e5⟩ := at_ 5 (by decide)
    obtain ⟨y6, e6⟩ := at_ 6 (by decide)
    obtain ⟨y7, e7⟩ := at_ 7 (by decide)
    have g0 := hg 0 _ rfl
    have g1 := hg 1 _ rfl
    have g2 := hg 2 _ rfl
    have g3 := hg 3 _ rfl
    have g4 := hg 4 _ rfl
    have g5 := hg 5 _ rfl
    have g6 := hg 6 _ rfl
    have g7 := hg 7 _ rfl
    have q0 : DataW.trod enc Tryz.prog W base spare held n 3 (List.take (Tryz.prog.cellsOf 3) [v0, v1, v2, v3, v4, v5, v6, v7]) = xs[0]? := g0
    rw [e0, c3] at q0
    replace g0 : DataW.trod enc Tryz.prog W base spare held n 3 [v0] = some y0 := q0
    have q1 : DataW.trod enc Tryz.prog W base spare held n 3 (List.take (Tryz.prog.cellsOf 3) [v1, v2, v3, v4, v5, v6, v7]) = xs[1]? := g1
    rw [e1, c3] at q1
    replace g1 : DataW.trod enc Tryz.prog W base spare held n 3 [v1] = some y1 := q1
    have q2 : DataW.trod enc Tryz.prog W base spare held n 3 (List.take (Tryz.prog.cellsOf 3) [v2, v3, v4, v5, v6, v7]) = xs[2]? := g2
    rw [e2, c3] at q2
    replace g2 : DataW.trod enc Tryz.prog W base spare held n 3 [v2] = some y2 := q2
    have q3 : DataW.trod enc Tryz.prog W base spare held n 4 (List.take (Tryz.prog.cellsOf 4) [v3, v4, v5, v6, v7]) = xs[3]? := g3
    rw [e3, c5] at q3
    replace g3 : DataW.trod enc Tryz.prog W base spare held n 4 [v3] = some y3 := q3
    have q4 : DataW.trod enc Tryz.prog W base spare held n 9 (List.take (Tryz.prog.cellsOf 9) [v4, v5, v6, v7]) = xs[4]? := g4
    rw [e4, c4] at q4
    replace g4 : DataW.trod enc Tryz.prog W base spare held n 9 [v4] = some y4 := q4
    have q5 : DataW.trod enc Tryz.prog W base spare held n 23 (List.take (Tryz.prog.cellsOf 23) [v5, v6, v7]) = xs[5]? := g5
    rw [e5, c2] at q5
    replace g5 : DataW.trod enc Tryz.prog W base spare held n 23 [v5] = some y5 := q5
    have q6 : DataW.trod enc Tryz.prog W base spare held n 23 (List.take (Tryz.prog.cellsOf 23) [v6, v7]) = xs[6]? := g6
    rw [e6, c2] at q6
    replace g6 : DataW.trod enc Tryz.prog W base spare held n 23 [v6] = some y6 := q6
    have q7 : DataW.trod enc Tryz.prog W base spare held n 44 (List.take (Tryz.prog.cellsOf 44) [v7]) = xs[7]? := g7
    rw [e7, c6] at q7
    replace g7 : DataW.trod enc Tryz.prog W base spare held n 44 [v7] = some y7 := q7
    obtain ⟨kind, h0, _, w0⟩ := DataW.trod_int Tryz.underlying3 g0
    obtain ⟨time, h1, _, w1⟩ := DataW.trod_int Tryz.underlying3 g1
    obtain ⟨node, h2, _, w2⟩ := DataW.trod_int Tryz.underlying3 g2
    obtain ⟨dead, h3, _⟩ := DataW.trod_bool Tryz.underlying4 g3
    obtain ⟨text, h4, _, w4⟩ := DataW.trod_string Tryz.underlying9 g4
    obtain ⟨plus, hp, hpn, hpw⟩ := open_row g5
    obtain ⟨minus, hm, hmn, hmw⟩ := open_row g6
    obtain ⟨flags, h7, _, w7⟩ := DataW.trod_int Tryz.underlying44 g7
    injection h8 with h8 _
    injection h0 with h0 _
    injection h1 with h1 _
    injection h2 with h2 _
    injection h3 with h3 _
    injection h4 with h4 _
    injection h7 with h7 _
    subst h0 h1 h2 h3 h4 h7 h8
    have b7 := wf_u64 w7
    have f7 : ((UInt64.ofNat flags.toNat).toNat : Int) = flags := by
      rw [UInt64.toNat_ofNat_of_lt' (by show flags.toNat < 18446744073709551616; omega)]
      omega
    refine ⟨⟨key.data.toList, ⟨kind, time, node, dead, text.data.toList, plus, minus, UInt64.ofNat flags.toNat⟩⟩, ⟨v5, v6, ?_, hp, hm⟩, ⟨by simpa using w8, ⟨w0, w1, w2, by simpa using w4, hpw, hmw, hpn, hmn⟩⟩⟩
    show Value.agg #[.string key, .int .i64 kind, .int .i64 time, .int .i64 node, .bool dead, .string text, v5, v6, .int .u64 flags] = .agg #[.string ⟨key.data.toList.toArray⟩, .int .i64 kind, .int .i64 time, .int .i64 node, .bool dead, .string ⟨text.data.toList.toArray⟩, v5, v6, .int .u64 ((UInt64.ofNat flags.toNat).toNat : Int)]
    rw [f7, ← str_eta, ← str_eta]
/-- Few. -/
def fewE (E : En) : Bool := fewV E.val && decide ((E.key.length : Int) ≤ 100)
theorem fewE_fit {E : En} (h : fewE E = true) : FitE E := by
  unfold fewE at h
  rw [Bool.and_eq_true, decide_eq_true_eq] at h
  exact ⟨by omega, few_fit h.1⟩
set_option maxRecDepth 100000 in
set_option maxHeartbeats 2000000 in
theorem efew_any (E : En) (v : Value) (w : World) (hv : isEn E v w) (hk : E.key.length ≤ maxLen) : Calls Tryz.prog 28 #[v] w fun e w' => e = .returned (.bool (fewE E)) ∧ Below w.heap.size w w' := by
  have hs : (⟨E.key.toArray⟩ : ByteArray).size = E.key.length := by simp [ByteArray.size]
  have HF := Kept.mk (show fewE E = (fewV E.val && decide ((E.key.length : Int) ≤ 100)) from rfl)
  obtain ⟨pe, me, rfl, hpe, hme⟩ := hv
  obtain ⟨hB, Ve⟩ := ebox w E pe me hpe hme (w.heap.size) (by simp)
  clear hpe hme
  obtain ⟨qe, re, xe, ye, ke0, ke1, ke2, ke3, ke4, ke5, ke6, ke7, ke8⟩ := Ve.out.open_
  have Xe := Kept.mk xe
  have Ye := Kept.mk ye
  clear xe ye
  go_enter Tryz.func28, Tryz.ntmps28
  go_wp2_with fail
  refine (vfew_any E.val _ _ Ye.out).mono ?_
  rintro e W1 ⟨rfl, hb1⟩
  replace hB := Kept.mk (hB.out.trans (hb1.mono hB.out.size))
  replace Ve := Kept.mk (Ve.out.keep hb1)
  clear hb1 Xe Ye ke0 ke1 ke2 ke3 ke4 ke5 ke6 ke7 ke8
  obtain ⟨_, _, _, _, ke0, _⟩ := Ve.out.open_
  cases hz : fewV E.val with
  | false =>
    rw [hz] at HF
    go_wp2
    go_ret
    exact ⟨by rw [HF.out]; rfl, hB.out⟩
  | true =>
    rw [hz] at HF
    go_wp2
    go_ret
    exact ⟨by rw [HF.out]; rfl, hB.out⟩
end Go.Proofs.YtkjghoomdefbbaaGreatDoor
end
section
namespace Go.Proofs.YtkjghoomdefbbaaGreatDoor
open Go.RowKit
set_option linter.unusedVariables false
set_option linter.unusedSimpArgs false

def fewL (l : List En) (m : Int) : Bool := decide ((l.length : Int) ≤ m) && l.all fewE
def fewA (A : Ar) : Bool := fewL A.slots 12 && decide ((A.index.length : Int) ≤ 40)
theorem fewL_len {l : List En} {m : Int} (h : fewL l m = true) : (l.length : Int) ≤ m := by
  unfold fewL at h
  rw [Bool.and_eq_true, decide_eq_true_eq] at h
  exact h.1
theorem fewL_fit {l : List En} {m : Int} (h : fewL l m = true) : ∀ e ∈ l, FitE e := by
  unfold fewL at h
  rw [Bool.and_eq_true, List.all_eq_true] at h
  exact fun e he => fewE_fit (h.2 e he)
theorem fewA_fit {A : Ar} (h : fewA A = true) : FitA A := by
  unfold fewA at h
  rw [Bool.and_eq_true, decide_eq_true_eq] at h
  have := fewL_len h.1
  exact ⟨by omega, by omega, fewL_fit h.1⟩
set_option maxRecDepth 100000 in
set_option maxHeartbeats 2000000 in
theorem entries_any (l : List En) (m : Int) (v : Value) (w : World) (hv : isEns l v w) (hk : ∀ e ∈ l, e.key.length ≤ maxLen) (hl : l.length ≤ maxLen) (hm0 : 0 ≤ m) (hm : m ≤ 1000) : Calls Tryz.prog 24 #[v, .int .i64 m] w fun e w' => e = .returned (.bool (fewL l m)) ∧ Below w.heap.size w w' := by
  rcases hv.cases_ with ⟨a, cap, rfl, rfl⟩ | ⟨b, off, cap, rfl, hb0, hc⟩
  · have HE := Kept.mk (show fewL [] m = true from by unfold fewL; simp [hm0])
    go_enter Tryz.func24, Tryz.ntmps24
    go_wp2
    go_loopw [5] (fun i wr => i = .int .i64 0 ∧ Kept (Below w.heap.size w wr)) (fun i _ => 0)
    case atStart => exact ⟨rfl, ⟨Below.refl _ _⟩⟩
    case round =>
      obtain ⟨rfl, B⟩ := hrel
      go_wp2
      go_ret
      exact ⟨by rw [HE.out]; rfl, B.out⟩
  · have HC := Kept.mk hc
    have HK := Kept.mk hk
    clear hc hv hk
    generalize hn : l.length = n at hl
    have hl2 : (n : Int) ≤ 9223372036854775807 := by have : maxLen = 9223372036854775807 := rfl; omega
    go_enter Tryz.func24, Tryz.ntmps24
    go_wp2
    go_loopw [5] (fun i wr => ∃ k : Nat, k ≤ n ∧ (k : Int) ≤ m + 1 ∧ i = .int .i64 (k : Int) ∧ Kept (Below w.heap.size w wr) ∧ Kept (∀ j E, j < k → l[j]? = some E → fewE E = true)) (fun i _ => n - (intOf i).toNat)
    case atStart => exact ⟨0, Nat.zero_le _, by omega, rfl, ⟨Below.refl _ _⟩, ⟨fun j E h => absurd h (Nat.not_lt_zero _)⟩⟩
    case round =>
      obtain ⟨k, hk, hk1, rfl, B, A⟩ := hrel
      by_cases hlt : k < n
      · have hlt' : (k : Int) < (n : Int) := by omega
        by_cases hkm : (k : Int) ≤ m
        · obtain ⟨E, hE⟩ : ∃ E, l[k]? = some E := ⟨_, List.getElem?_eq_getElem (by omega)⟩
          obtain ⟨vp, vm, x0, y0, kc0, kc1, kc2, kc3, kc4, kc5, kc6, kc7, kc8⟩ := (HC.out k E hE).keep B.out hb0 |>.open_
          have X := Kept.mk x0
          have FE := Kept.mk (HK.out E (List.mem_of_getElem? hE))
          have HE := Kept.mk hE
          clear x0 y0 hE
          go_wp2_with fail
          refine (efew_any E _ _ X.out FE.out).mono ?_
          rintro e W1 ⟨rfl, hb⟩
          replace B := Kept.mk (B.out.trans (hb.mono B.out.size))
          clear hb X kc0 kc1 kc2 kc3 kc4 kc5 kc6 kc7 kc8
          cases hok : fewE E with
          | true =>
            have HO := Kept.mk hok
            clear hok
            go_wp2
            go_roundw
            case rel =>
              refine ⟨k + 1, by omega, by omega, by go_num, B, ⟨fun j E' hj h => ?_⟩⟩
              by_cases e : j = k
              · subst e; rw [HE.out] at h; injection h with h; rw [← h]; exact HO.out
              · exact A.out j E' (by omega) h
            case measure => simp [intOf]; omega
          | false =>
            have HR := Kept.mk (show fewL l m = false by unfold fewL; rw [show l.all fewE = false by rw [List.all_eq_false]; exact ⟨E, List.mem_of_getElem? HE.out, by simp [hok]⟩]; simp)
            clear hok
            go_wp2
            go_ret
            exact ⟨by rw [HR.out]; rfl, B.out⟩
        · have HR := Kept.mk (show fewL l m = false by unfold fewL; rw [decide_eq_false (by rw [hn]; omega)]; rfl)
          have hnm : ¬ (n : Int) ≤ m := by omega
          go_wp2
          go_ret
          exact ⟨by rw [HR.out]; rfl, B.out⟩
      · have hlt' : ¬ (k : Int) < (n : Int) := by omega
        have HA : l.all fewE = true := by
          rw [List.all_eq_true]; intro x hx
          obtain ⟨j, hj⟩ := List.getElem?_of_mem hx
          have := (List.getElem?_eq_some_iff.1 hj).1
          exact A.out j x (by omega) hj
        have HR := Kept.mk (show fewL l m = decide ((n : Int) ≤ m) by unfold fewL; rw [HA, Bool.and_true, hn])
        clear HA
        by_cases hnm : (n : Int) ≤ m
        · rw [decide_eq_true hnm] at HR
          go_wp2
          go_ret
          exact ⟨by rw [HR.out]; rfl, B.out⟩
        · rw [decide_eq_false hnm] at HR
          go_wp2
          go_ret
          exact ⟨by rw [HR.out]; rfl, B.out⟩
set_option maxRecDepth 100000 in
set_option maxHeartbeats 2000000 in
theorem afew_any (A : Ar) (v : Value) (w : World) (hv : isAr A v w) (hk : ∀ e ∈ A.slots, e.key.length ≤ maxLen) (hl : A.slots.length ≤ maxLen) (hi0 : A.index.length ≤ maxLen) : Calls Tryz.prog 10 #[v] w fun e w' => e = .returned (.bool (fewA A)) ∧ Below w.heap.size w w' := by
  obtain ⟨vs, vi, rfl, hs, hi⟩ := hv
  obtain ⟨hB, Va⟩ := abox w A vs vi hs hi w.heap.size rfl
  clear hs hi
  obtain ⟨qa, ra, xa, sa, ia, ka0, ka1, ka2⟩ := Va.out.open_
  have SA := Kept.mk sa
  clear xa sa ia
  have HC := Kept.mk (show fewA A = (fewL A.slots 12 && decide ((A.index.length : Int) ≤ 40)) from rfl)
  have hi2 : (A.index.length : Int) ≤ 9223372036854775807 := by have : maxLen = 9223372036854775807 := rfl; omega
  go_enter Tryz.func10, Tryz.ntmps10
  go_wp2_with fail
  refine (entries_any A.slots 12 _ _ SA.out hk hl (by decide) (by decide)).mono ?_
  rintro e W1 ⟨rfl, hb⟩
  replace hB := Kept.mk (hB.out.trans (hb.mono hB.out.size))
  replace Va := Kept.mk (Va.out.keep hb)
  clear hb ka0 ka1 ka2 SA
  cases hr : fewL A.slots 12 with
  | false =>
    rw [hr, Bool.false_and] at HC
    go_wp2
    go_ret
    exact ⟨by rw [HC.out]; rfl, hB.out⟩
  | true =>
    rw [hr, Bool.true_and] at HC
    obtain ⟨qb, rb, xb, sb, ib, kb0, kb1, kb2⟩ := Va.out.open_
    obtain ⟨ba, bc, rfl⟩ := ib.len
    rw [List.length_map] at kb2
    clear xb sb ib
    generalize A.index.length = n at *
    go_wp2
    go_ret
    exact ⟨by rw [HC.out]; rfl, hB.out⟩
end Go.Proofs.YtkjghoomdefbbaaGreatDoor
end
section
namespace Go.Proofs.YtkjghoomdefbbaaGreatDoor
open Go.RowKit Go.ChangeShapes Go.WideShapes
set_option linter.unusedVariables false
set_option linter.unusedSimpArgs false

section
variable {W : World} {H : Type} {enc : TypeId × Value → H} {base : Nat} {spare : Nat → Bool} {held : Bool} {n : Nat}
set_option maxRecDepth 100000 in
set_option maxHeartbeats 2000000 in
theorem open_encells {cs : List Value} {z : DataW H × List MemPlace} (hf0 : DataW.trod enc Tryz.prog W base spare held n 48 cs = some z) :
    ∃ (E : En) (vp vm : Value), cs = [.string ⟨E.key.toArray⟩, .int .i64 E.val.kind, .int .i64 E.val.time, .int .i64 E.val.node, .bool E.val.dead, .string ⟨E.val.text.toArray⟩, vp, vm, .int .u64 (E.val.flags.toNat : Int)] ∧ isCells (E.val.plus.map intC) vp W ∧ isCells (E.val.minus.map intC) vm W ∧ CameE E := by
  obtain ⟨xs0, n0, _, hxe0, hsz, hxl0, hg0⟩ := DataW.trod_struct Tryz.underlying48 hf0
  have hl : cs.length = 9 := hsz.trans (by kernel_rfl)
  match cs, hl with
  | [v8, v0, v1, v2, v3, v4, v5, v6, v7], _ =>
    obtain ⟨z0, ez0⟩ : ∃ y, xs0[0]? = some y := ⟨_, List.getElem?_eq_getElem (by rw [hxl0]; decide)⟩
    obtain ⟨z1, ez1⟩ : ∃ y, xs0[1]? = some y := ⟨_, List.getElem?_eq_getElem (by rw [hxl0]; decide)⟩
    have g8 := hg0 0 _ rfl
    have hf := hg0 1 _ rfl
    have c2 : Tryz.prog.cellsOf 23 = 1 := by kernel_rfl
    have c3 : Tryz.prog.cellsOf 3 = 1 := by kernel_rfl
    have c4 : Tryz.prog.cellsOf 9 = 1 := by kernel_rfl
    have c5 : Tryz.prog.cellsOf 4 = 1 := by kernel_rfl
    have c6 : Tryz.prog.cellsOf 44 = 1 := by kernel_rfl
    have c7 : Tryz.prog.cellsOf 46 = 8 := by kernel_rfl
    have g8a : DataW.trod enc Tryz.prog W base spare held n0 9 (List.take (Tryz.prog.cellsOf 9) [v8, v0, v1, v2, v3, v4, v5, v6, v7]) = xs0[0]? := g8
    have hfa : DataW.trod enc Tryz.prog W base spare held n0 46 (List.take (Tryz.prog.cellsOf 46) [v0, v1, v2, v3, v4, v5, v6, v7]) = xs0[1]? := hf
    rw [ez0, c4] at g8a
    rw [ez1, c7] at hfa
    replace g8 : DataW.trod enc Tryz.prog W base spare held n0 9 [v8] = some z0 := g8a
    replace hf : DataW.trod enc Tryz.prog W base spare held n0 46 [v0, v1, v2, v3, v4, v5, v6, v7] = some z1 := hfa
    obtain ⟨key, h8, _, w8⟩ := DataW.trod_string Tryz.underlying9 g8
    obtain ⟨xs, n, _, hxe, _, hxl, hg⟩ := DataW.trod_struct Tryz.underlying46 hf
    have at_ : ∀ i, i < 8 → ∃ y, xs[i]? = some y := fun i hi => ⟨_, List.getElem?_eq_getElem (by rw [hxl]; exact hi)⟩
    obtain ⟨y0, e0⟩ := at_ 0 (by decide)
    obtain ⟨y1, e1⟩ := at_ 1 (by decide)
    obtain ⟨y2, e2⟩ := at_ 2 (by decide)
    obtain ⟨y3, e3⟩ := at_ 3 (by decide)
    obtain ⟨y4, e4⟩ := at_ 4 (by decide)
    obtain ⟨y5, e5⟩ := at_ 5 (by decide)
    obtain ⟨y6, e6⟩ := at_ 6 (by decide)
    obtain ⟨y7, e7⟩ := at_ 7 (by decide)
    have g0 := hg 0 _ rfl
    have g1 := hg 1 _ rfl
    have g2 := hg 2 _ rfl
    have g3 := hg 3 _ rfl
    have g4 := hg 4 _ rfl
    have g5 := hg 5 _ rfl
    have g6 := hg 6 _ rfl
    have g7 := hg 7 _ rfl
    have q0 : DataW.trod enc Tryz.prog W base spare held n 3 (List.take (Tryz.prog.cellsOf 3) [v0, v1, v2, v3, v4, v5, v6, v7]) = xs[0]? := g0
    rw [e0, c3] at q0
    replace g0 : DataW.trod enc Tryz.prog W base spare held n 3 [v0] = some y0 := q0
    have q1 : DataW.trod enc Tryz.prog W base spare held n 3 (List.take (Tryz.prog.cellsOf 3) [v1, v2, v3, v4, v5, v6, v7]) = xs[1]? := g1
    rw [e1, c3] at q1
    replace g1 : DataW.trod enc Tryz.prog W base spare held n 3 [v1] = some y1 := q1
    have q2 : DataW.trod enc Tryz.prog W base spare held n 3 (List.take (Tryz.prog.cellsOf 3) [v2, v3, v4, v5, v6, v7]) = xs[2]? := g2
    rw [e2, c3] at q2
    replace g2 : DataW.trod enc Tryz.prog W base spare held n 3 [v2] = some y2 := q2
    have q3 : DataW.trod enc Tryz.prog W base spare held n 4 (List.take (Tryz.prog.cellsOf 4) [v3, v4, v5, v6, v7]) = xs[3]? := g3
    rw [e3, c5] at q3
    replace g3 : DataW.trod enc Tryz.prog W base spare held n 4 [v3] = some y3 := q3
    have q4 : DataW.trod enc Tryz.prog W base spare held n 9 (List.take (Tryz.prog.cellsOf 9) [v4, v5, v6, v7]) = xs[4]? := g4
    rw [e4, c4] at q4
    replace g4 : DataW.trod enc Tryz.prog W base spare held n 9 [v4] = some y4 := q4
    have q5 : DataW.trod enc Tryz.prog W base spare held n 23 (List.take (Tryz.prog.cellsOf 23) [v5, v6, v7]) = xs[5]? := g5
    rw [e5, c2] at q5
    replace g5 : DataW.trod enc Tryz.prog W base spare held n 23 [v5] = some y5 := q5
    have q6 : DataW.trod enc Tryz.prog W base spare held n 23 (List.take (Tryz.prog.cellsOf 23) [v6, v7]) = xs[6]? := g6
    rw [e6, c2] at q6
    replace g6 : DataW.trod enc Tryz.prog W base spare held n 23 [v6] = some y6 := q6
    have q7 : DataW.trod enc Tryz.prog W base spare held n 44 (List.take (Tryz.prog.cellsOf 44) [v7]) = xs[7]? := g7
    rw [e7, c6] at q7
    replace g7 : DataW.trod enc Tryz.prog W base spare held n 44 [v7] = some y7 := q7
    obtain ⟨kind, h0, _, w0⟩ := DataW.trod_int Tryz.underlying3 g0
    obtain ⟨time, h1, _, w1⟩ := DataW.trod_int Tryz.underlying3 g1
    obtain ⟨node, h2, _, w2⟩ := DataW.trod_int Tryz.underlying3 g2
    obtain ⟨dead, h3, _⟩ := DataW.trod_bool Tryz.underlying4 g3
    obtain ⟨text, h4, _, w4⟩ := DataW.trod_string Tryz.underlying9 g4
    obtain ⟨plus, hp, hpn, hpw⟩ := open_row g5
    obtain ⟨minus, hm, hmn, hmw⟩ := open_row g6
    obtain ⟨flags, h7, _, w7⟩ := DataW.trod_int Tryz.underlying44 g7
    injection h8 with h8 _
    injection h0 with h0 _
    injection h1 with h1 _
    injection h2 with h2 _
    injection h3 with h3 _
    injection h4 with h4 _
    injection h7 with h7 _
    subst h0 h1 h2 h3 h4 h7 h8
    have b7 := wf_u64 w7
    have f7 : ((UInt64.ofNat flags.toNat).toNat : Int) = flags := by
      rw [UInt64.toNat_ofNat_of_lt' (by show flags.toNat < 18446744073709551616; omega)]
      omega
    refine ⟨⟨key.data.toList, ⟨kind, time, node, dead, text.data.toList, plus, minus, UInt64.ofNat flags.toNat⟩⟩, v5, v6, ?_, hp, hm, ⟨by simpa using w8, ⟨w0, w1, w2, by simpa using w4, hpw, hmw, hpn, hmn⟩⟩⟩
    show [Value.string key, .int .i64 kind, .int .i64 time, .int .i64 node, .bool dead, .string text, v5, v6, .int .u64 flags] = [.string ⟨key.data.toList.toArray⟩, .int .i64 kind, .int .i64 time, .int .i64 node, .bool dead, .string ⟨text.data.toList.toArray⟩, v5, v6, .int .u64 ((UInt64.ofNat flags.toNat).toNat : Int)]
    rw [f7, ← str_eta, ← str_eta]
set_option maxRecDepth 100000 in
set_option maxHeartbeats 2000000 in
theorem open_ens {v : Value} {y : DataW H × List MemPlace} (g : DataW.trod enc Tryz.prog W base spare held n 22 [v] = some y) :
    ∃ l : List En, isEns l v W ∧ l.length ≤ maxLen ∧ ∀ e ∈ l, CameE e := by
  have c9 : Tryz.prog.cellsOf 48 = 9 := by kernel_rfl
  rcases Go.Deep.open_slice Tryz.underlying22 g with ⟨hc, _⟩ | ⟨a, len, cap, m, n', D, Pl, hc, _, hl, hm, hmm, _, hx⟩
  · injection hc with hc _
    subst hc
    exact ⟨[], .inl ⟨rfl, rfl⟩, Nat.zero_le _, (fun s hs => by simp at hs)⟩
  · injection hc with hc _
    subst hc
    have hle : len ≤ m := by rw [hmm]; split <;> omega
    rw [c9] at hx
    haveI : Inhabited En := ⟨⟨[], ⟨0, 0, 0, false, [], [], [], 0⟩⟩⟩
    obtain ⟨f, hf⟩ := Go.Deep.choose_lt (α := En) (n := len) (p := fun i E => (∃ vp vm, (∀ (j : Nat) (x : Value), [.string ⟨E.key.toArray⟩, .int .i64 E.val.kind, .int .i64 E.val.time, .int .i64 E.val.node, .bool E.val.dead, .string ⟨E.val.text.toArray⟩, vp, vm, .int .u64 (E.val.flags.toNat : Int)][j]? = some x → W.cell? (a.add (i * 9 + j)) = some x) ∧ isCells (E.val.plus.map intC) vp W ∧ isCells (E.val.minus.map intC) vm W) ∧ CameE E) (fun i hi => by
      obtain ⟨cs', h1, h2⟩ := hx i (by omega)
      obtain ⟨_, hlen, hcell⟩ := World.cells?_some h1
      obtain ⟨E, vp, vm, rfl, hp, hm', hE⟩ := open_encells h2
      refine ⟨E, ⟨vp, vm, fun j x hj => ?_, hp, hm'⟩, hE⟩
      have hj9 : j < 9 := by have := (List.getElem?_eq_some_iff.1 hj).1; simpa using this
      have := hcell j hj9
      rw [Go.Deep.add_add] at this
      rw [this, hj])
    refine ⟨(List.range len).map f, ?_, by simp; omega, fun e he => ?_⟩
    · cases hlen : len with
      | zero => exact .inr (.inl ⟨a, cap, rfl, rfl⟩)
      | succ k =>
        rw [← hlen]
        obtain ⟨⟨vp, vm, h0, _⟩, _⟩ := hf 0 (by omega)
        have h00 := h0 0 _ rfl
        have e0 : a.add (0 * 9 + 0) = a := by simp [Addr.add]
        rw [e0] at h00
        have ha := spot_none h00
        refine .inr (.inr ⟨a.block, a.off, cap, by rw [← ha]; simp, ?_, fun j E hE => ?_⟩)
        · simp only [World.cell?] at h00
          split at h00
          · rename_i h; exact (Array.getElem?_eq_some_iff.1 h).1
          · simp at h00
        · have hj : j < len := by have := (List.getElem?_eq_some_iff.1 hE).1; simpa using this
          rw [List.getElem?_map, List.getElem?_range hj] at hE
          simp only [Option.map_some, Option.some.injEq] at hE
          subst hE
          obtain ⟨⟨vp, vm, hcj, hp, hm'⟩, _⟩ := hf j hj
          refine ⟨vp, vm, fun k' x hx' => ?_, hp, hm'⟩
          have := hcj k' x hx'
          rw [ha, add_plain] at this
          rw [Nat.add_assoc]
          exact this
    · obtain ⟨i, hi, rfl⟩ := List.mem_map.1 he
      exact (hf i (by simpa using hi)).2
end
structure CameA (A : Ar) : Prop where
  cap : (Lit.int .i64 A.cap).wf = true
  slots : A.slots.length ≤ maxLen
  ents : ∀ e ∈ A.slots, CameE e
  index : A.index.length ≤ maxLen
  idx : ∀ x ∈ A.index, (Lit.int .i64 x).wf = true
theorem CameA.keys {A : Ar} (h : CameA A) : ∀ e ∈ A.slots, e.key.length ≤ maxLen := fun e he => (h.ents e he).key
set_option maxRecDepth 100000 in
set_option maxHeartbeats 2000000 in
theorem open_ar {W : World} {H : Type} {enc : TypeId × Value → H} {base b0 : Nat} {spare : Nat → Bool} {held : Bool} {v : Value} {d : DataW H} {p : List MemPlace} (hv : Value.okWide Tryz.prog W .any b0 25 v)
    (h : DataW.Trod enc Tryz.prog W base spare held 25 v d p) : ∃ A : Ar, isAr A v W ∧ CameA A := by
  obtain ⟨⟨l⟩, rfl, hsz⟩ := okWide_struct Tryz.underlying25 hv
  have hl : l.length = 3 := hsz.trans (by kernel_rfl)
  match l, hl with
  | [v0, v1, v2], _ =>
    obtain ⟨fuel0, hf0⟩ := h
    obtain ⟨xs, n, _, hxe, _, hxl, hg⟩ := DataW.trod_struct Tryz.underlying25 hf0
    have at_ : ∀ i, i < 3 → ∃ y, xs[i]? = some y := fun i hi => ⟨_, List.getElem?_eq_getElem (by rw [hxl]; exact hi)⟩
    obtain ⟨y0, e0⟩ := at_ 0 (by decide)
    obtain ⟨y1, e1⟩ := at_ 1 (by decide)
    obtain ⟨y2, e2⟩ := at_ 2 (by decide)
    have c1 : Tryz.prog.cellsOf 22 = 1 := by kernel_rfl
    have c2 : Tryz.prog.cellsOf 23 = 1 := by kernel_rfl
    have c3 : Tryz.prog.cellsOf 3 = 1 := by kernel_rfl
    have g0 := hg 0 _ rfl
    have g1 := hg 1 _ rfl
    have g2 := hg 2 _ rfl
    have q0 : DataW.trod enc Tryz.prog W base spare held n 3 (List.take (Tryz.prog.cellsOf 3) [v0, v1, v2]) = xs[0]? := g0
    rw [e0, c3] at q0
    replace g0 : DataW.trod enc Tryz.prog W base spare held n 3 [v0] = some y0 := q0
    have q1 : DataW.trod enc Tryz.prog W base spare held n 22 (List.take (Tryz.prog.cellsOf 22) [v1, v2]) = xs[1]? := g1
    rw [e1, c1] at q1
    replace g1 : DataW.trod enc Tryz.prog W base spare held n 22 [v1] = some y1 := q1
    have q2 : DataW.trod enc Tryz.prog W base spare held n 23 (List.take (Tryz.prog.cellsOf 23) [v2]) = xs[2]? := g2
    rw [e2, c2] at q2
    replace g2 : DataW.trod enc Tryz.prog W base spare held n 23 [v2] = some y2 := q2
    obtain ⟨cap, h0, _, w0⟩ := DataW.trod_int Tryz.underlying3 g0
    injection h0 with h0 _
    subst h0
    obtain ⟨sl, hs, hsn, hsc⟩ := open_ens g1
    obtain ⟨ix, hi, hin, hiw⟩ := open_row g2
    exact ⟨⟨cap, sl, ix⟩, ⟨v1, v2, rfl, hs, hi⟩, ⟨w0, hsn, hsc, hin, hiw⟩⟩
end Go.Proofs.YtkjghoomdefbbaaGreatDoor
end
section
namespace Go.Proofs.YtkjghoomdefbbaaGreatDoor
open Go.RowKit
set_option linter.unusedVariables false
set_option linter.unusedSimpArgs false

theorem okA_fit {A : Ar} (h : OkA A) : FitA A := by
  have h1 := h.fits
  have h2 := h.room
  have h3 := h.len
  exact ⟨by omega, by omega, fun e he => ok_fit' (h.ents e he)⟩
end Go.Proofs.YtkjghoomdefbbaaGreatDoor
end
section
namespace Go.Proofs.YtkjghoomdefbbaaGreatDoor
open Go.RowKit
set_option linter.unusedVariables false
set_option linter.unusedSimpArgs false
attribute [local irreducible] setN

noncomputable def rck0Ops : Array Oper := regionOf Tryz.f35 1
noncomputable def rck1Ops : Array Oper := regionOf Tryz.f35 1
noncomputable def rck2Ops : Array Oper := regionOf Tryz.f35 1
noncomputable def rck3Ops : Array Oper := regionOf Tryz.f35 1
noncomputable def rck4Ops : Array Oper := regionOf Tryz.f35 1
end Go.Proofs.YtkjghoomdefbbaaGreatDoor
end
section
namespace Go.Proofs.YtkjghoomdefbbaaGreatDoor
open Go.RowKit
set_option linter.unusedVariables false
set_option linter.unusedSimpArgs false
attribute [local irreducible] setN

end Go.Proofs.YtkjghoomdefbbaaGreatDoor
end
section
namespace Go.Proofs.YtkjghoomdefbbaaGreatDoor
open Go.RowKit
set_option linter.unusedVariables false
set_option linter.unusedSimpArgs false
attribute [local irreducible] setN

noncomputable def rd1Ops : Array Oper := regionOf Tryz.f68 2
noncomputable def rd2Ops : Array Oper := regionOf Tryz.f68 4
noncomputable def rd3Ops : Array Oper := regionOf Tryz.f68 5
noncomputable def rpuOps : Array Oper := regionOf Tryz.f36 3
end Go.Proofs.YtkjghoomdefbbaaGreatDoor
end
section
namespace Go.Proofs.YtkjghoomdefbbaaGreatDoor
open Go.RowKit
set_option linter.unusedVariables false
set_option linter.unusedSimpArgs false
attribute [local irreducible] setN

noncomputable def rsm8Ops : Array Oper := regionOf Tryz.f12 8
end Go.Proofs.YtkjghoomdefbbaaGreatDoor
end
section
namespace Go.Proofs.YtkjghoomdefbbaaGreatDoor
open Go.RowKit
set_option linter.unusedVariables false
set_option linter.unusedSimpArgs false
attribute [local irreducible] setN

end Go.Proofs.YtkjghoomdefbbaaGreatDoor
end
section
namespace Go.Proofs.YtkjghoomdefbbaaGreatDoor
open Go.RowKit
set_option linter.unusedVariables false
set_option linter.unusedSimpArgs false
attribute [local irreducible] setN

noncomputable def rin7Ops : Array Oper := regionOf Tryz.f16 7
end Go.Proofs.YtkjghoomdefbbaaGreatDoor
end
section
namespace Go.Proofs.YtkjghoomdefbbaaGreatDoor
open Go.RowKit
set_option linter.unusedVariables false
set_option linter.unusedSimpArgs false

end Go.Proofs.YtkjghoomdefbbaaGreatDoor
end
section
namespace Go.Proofs.YtkjghoomdefbbaaGreatDoor
open Go.RowKit
set_option linter.unusedVariables false
set_option linter.unusedSimpArgs false
attribute [local irreducible] setN

end Go.Proofs.YtkjghoomdefbbaaGreatDoor
end
section
namespace Go.Proofs.YtkjghoomdefbbaaGreatDoor
open Go.RowKit
set_option linter.unusedVariables false
set_option linter.unusedSimpArgs false

def getQ (s : List UInt8) : List Int := if s.length = 16 then sums4 s else [0, 0, 0, 0]
def getQE (s : List UInt8) : Int := if s.length = 16 then 0 else 2
def eqI4 (W : World) : Prop := True
theorem eq_i4 (a b c d : Int) (W : World) : (binOp .eql 26 (.agg #[.int .i64 a, .int .i64 b, .int .i64 c, .int .i64 d]) (.agg #[.int .i64 a, .int .i64 b, .int .i64 c, .int .i64 d])).run Tryz.prog W = .ok (.bool true) W := eql_i4 26 3 a b c d a b c d true Tryz.underlying26 Tryz.underlying3 (by kernel_rfl) (by simp) W
theorem gd_bucket (kind : Int) (key : List UInt8) (n : Nat) (w : World) (hl : key.length ≤ 1000) (hn : bucketN kind key = n) : Calls Tryz.prog 17 #[.int .i64 kind, .string ⟨key.toArray⟩] w fun e w' => e = .returned (.int .i64 (n : Int)) ∧ Below w.heap.size w w' := by
  subst hn; exact bucket_any kind key w hl
theorem gd_sums (A : Ar) (a b c d : Int) (v : Value) (w : World) (hv : isAr A v w) (hF : FitA A) (h : sumsV A = .agg #[.int .i64 a, .int .i64 b, .int .i64 c, .int .i64 d]) : Calls Tryz.prog 18 #[v] w fun e w' => e = .returned (.agg #[.int .i64 a, .int .i64 b, .int .i64 c, .int .i64 d]) ∧ Below w.heap.size w w' := by
  rw [← h]; exact sums_any A v w hv hF
end Go.Proofs.YtkjghoomdefbbaaGreatDoor
end
section
namespace Go.Proofs.YtkjghoomdefbbaaGreatDoor
open Go.RowKit
set_option linter.unusedVariables false
set_option linter.unusedSimpArgs false
attribute [local irreducible] setN

theorem resame_val (X Y : En) (z : Bool) (v u : Value) (w : World) (hv : isEn X v w) (hu : isEn Y u w) (hX : FitE X) (hY : FitE Y) (hz : decide (X = Y) = z) : Calls Tryz.prog 38 #[v, u] w fun e w' => ∃ x, e = .returned x ∧ isVal (.bool z) x w' ∧ Below w.heap.size w w' :=
  (resame_any X Y v u w hv hu hX.val hY.val).mono (by rintro e w' ⟨rfl, h⟩; exact ⟨_, rfl, by rw [hz]; rfl, h⟩)
noncomputable def rallOps : Array Oper := regionOf Tryz.f14 6
set_option maxRecDepth 100000 in
set_option maxHeartbeats 2000000 in
theorem rall_region (Q : Exit → Act → World → Prop) (a0 : Act) (w0 : World) (hsz : a0.tmps.size = 27) (k n bs os cs bt ot ct : Nat) (z : Bool) (X Y : En) (xp xm yp ym : Value) (e5 : a0.tmps.getD 5 undef = .int .i64 (k : Int)) (e0 : a0.tmps.getD 0 undef = .slice (some ⟨bs, os, none⟩) n cs) (e1 : a0.tmps.getD 1 undef = .slice (some ⟨bt, ot, none⟩) n ct) (hk : k < n) (hbs : bs < w0.heap.size) (hbt : bt < w0.heap.size) (hxc : ∀ (j : Nat) (x : Value), [.string ⟨X.key.toArray⟩, .int .i64 X.val.kind, .int .i64 X.val.time, .int .i64 X.val.node, .bool X.val.dead, .string ⟨X.val.text.toArray⟩, xp, xm, .int .u64 (X.val.flags.toNat : Int)][j]? = some x → w0.cell? ⟨bs, os + k * 9 + j, none⟩ = some x) (hyc : ∀ (j : Nat) (x : Value), [.string ⟨Y.key.toArray⟩, .int .i64 Y.val.kind, .int .i64 Y.val.time, .int .i64 Y.val.node, .bool Y.val.dead, .string ⟨Y.val.text.toArray⟩, yp, ym, .int .u64 (Y.val.flags.toNat : Int)][j]? = some x → w0.cell? ⟨bt, ot + k * 9 + j, none⟩ = some x) (hxp : isCells (X.val.plus.map intC) xp w0) (hxm : isCells (X.val.minus.map intC) xm w0) (hyp : isCells (Y.val.plus.map intC) yp w0) (hym : isCells (Y.val.minus.map intC) ym w0) (fX : FitE X) (fY : FitE Y) (hz : decide (X = Y) = z)
    (hQ : ∀ (g : Nat → Value) (w : World), g 26 = .bool !z → Below w0.heap.size w0 w → Q .normal { tmps := [17, 18, 19, 20, 21, 22, 23, 24, 25, 26].foldl (fun t s => t.setIfInBounds s (g s)) a0.tmps, defers := a0.defers } w) :
    (Code.region 6 rallOps true).wp Tryz.prog Q a0 w0 := by
  refine wp_region_flow mixed (by rw [hsz]; kernel_rfl) ?_
  rw [show rallOps.size = 10 by kernel_rfl]
  refine ⟨isVal (.slice (some ⟨bs, os, none⟩) n cs), step_move (.tmp 0) (by kernel_rfl) (wanted_none (by kernel_rfl)) (stable_val _) (knows_old 0 (.slice (some ⟨bs, os, none⟩) n cs) (by kernel_rfl) e0), ?_⟩
  refine ⟨isVal (.int .i64 (k : Int)), step_move (.tmp 5) (by kernel_rfl) (wanted_none (by kernel_rfl)) (stable_val _) (knows_old 5 (.int .i64 (k : Int)) (by kernel_rfl) e5), ?_⟩
  refine ⟨isVal (.pointer (some ⟨bs, os + k * 9, none⟩)), step_placeE 22 48 (.tmp 17) (.tmp 18) bs (os) (n) (cs) (k) (os + k * 9) (by kernel_rfl) (wanted_none (by kernel_rfl)) (knows_new (V := isVal (.slice (some ⟨bs, os, none⟩) n cs)) 17 0 (by kernel_rfl) (by kernel_rfl) (by kernel_rfl)) (knows_new (V := isVal (.int .i64 (k : Int))) 18 1 (by kernel_rfl) (by kernel_rfl) (by kernel_rfl)) Tryz.underlying22 (by kernel_rfl) (⟨hk, rfl⟩), ?_⟩
  refine ⟨isVal (.agg #[.string ⟨X.key.toArray⟩, .int .i64 X.val.kind, .int .i64 X.val.time, .int .i64 X.val.node, .bool X.val.dead, .string ⟨X.val.text.toArray⟩, xp, xm, .int .u64 (X.val.flags.toNat : Int)]), step_loadA 48 (.tmp 19) (bs) (os + k * 9) [.string ⟨X.key.toArray⟩, .int .i64 X.val.kind, .int .i64 X.val.time, .int .i64 X.val.node, .bool X.val.dead, .string ⟨X.val.text.toArray⟩, xp, xm, .int .u64 (X.val.flags.toNat : Int)] (by kernel_rfl) (wanted_none (by kernel_rfl)) (knows_new (V := isVal (.pointer (some ⟨bs, os + k * 9, none⟩))) 19 2 (by kernel_rfl) (by kernel_rfl) (by kernel_rfl)) size_en agg_en (⟨hbs, hxc⟩), ?_⟩
  refine ⟨isVal (.slice (some ⟨bt, ot, none⟩) n ct), step_move (.tmp 1) (by kernel_rfl) (wanted_none (by kernel_rfl)) (stable_val _) (knows_old 1 (.slice (some ⟨bt, ot, none⟩) n ct) (by kernel_rfl) e1), ?_⟩
  refine ⟨isVal (.int .i64 (k : Int)), step_move (.tmp 5) (by kernel_rfl) (wanted_none (by kernel_rfl)) (stable_val _) (knows_old 5 (.int .i64 (k : Int)) (by kernel_rfl) e5), ?_⟩
  refine ⟨isVal (.pointer (some ⟨bt, ot + k * 9, none⟩)), step_placeE 22 48 (.tmp 21) (.tmp 22) bt (ot) (n) (ct) (k) (ot + k * 9) (by kernel_rfl) (wanted_none (by kernel_rfl)) (knows_new (V := isVal (.slice (some ⟨bt, ot, none⟩) n ct)) 21 4 (by kernel_rfl) (by kernel_rfl) (by kernel_rfl)) (knows_new (V := isVal (.int .i64 (k : Int))) 22 5 (by kernel_rfl) (by kernel_rfl) (by kernel_rfl)) Tryz.underlying22 (by kernel_rfl) (⟨hk, rfl⟩), ?_⟩
  refine ⟨isVal (.agg #[.string ⟨Y.key.toArray⟩, .int .i64 Y.val.kind, .int .i64 Y.val.time, .int .i64 Y.val.node, .bool Y.val.dead, .string ⟨Y.val.text.toArray⟩, yp, ym, .int .u64 (Y.val.flags.toNat : Int)]), step_loadA 48 (.tmp 23) (bt) (ot + k * 9) [.string ⟨Y.key.toArray⟩, .int .i64 Y.val.kind, .int .i64 Y.val.time, .int .i64 Y.val.node, .bool Y.val.dead, .string ⟨Y.val.text.toArray⟩, yp, ym, .int .u64 (Y.val.flags.toNat : Int)] (by kernel_rfl) (wanted_none (by kernel_rfl)) (knows_new (V := isVal (.pointer (some ⟨bt, ot + k * 9, none⟩))) 23 6 (by kernel_rfl) (by kernel_rfl) (by kernel_rfl)) size_en agg_en (⟨hbt, hyc⟩), ?_⟩
  refine ⟨isVal (.bool z), step_call 38 #[.tmp 20, .tmp 24] #[48, 48] #[.agg #[.string ⟨X.key.toArray⟩, .int .i64 X.val.kind, .int .i64 X.val.time, .int .i64 X.val.node, .bool X.val.dead, .string ⟨X.val.text.toArray⟩, xp, xm, .int .u64 (X.val.flags.toNat : Int)], .agg #[.string ⟨Y.key.toArray⟩, .int .i64 Y.val.kind, .int .i64 Y.val.time, .int .i64 Y.val.node, .bool Y.val.dead, .string ⟨Y.val.text.toArray⟩, yp, ym, .int .u64 (Y.val.flags.toNat : Int)]] (by kernel_rfl) (wanted_none (by kernel_rfl)) (stable_val _) (args2 (.tmp 20) (.tmp 24) (.agg #[.string ⟨X.key.toArray⟩, .int .i64 X.val.kind, .int .i64 X.val.time, .int .i64 X.val.node, .bool X.val.dead, .string ⟨X.val.text.toArray⟩, xp, xm, .int .u64 (X.val.flags.toNat : Int)]) (.agg #[.string ⟨Y.key.toArray⟩, .int .i64 Y.val.kind, .int .i64 Y.val.time, .int .i64 Y.val.node, .bool Y.val.dead, .string ⟨Y.val.text.toArray⟩, yp, ym, .int .u64 (Y.val.flags.toNat : Int)]) (knows_new (V := isVal (.agg #[.string ⟨X.key.toArray⟩, .int .i64 X.val.kind, .int .i64 X.val.time, .int .i64 X.val.node, .bool X.val.dead, .string ⟨X.val.text.toArray⟩, xp, xm, .int .u64 (X.val.flags.toNat : Int)])) 20 3 (by kernel_rfl) (by kernel_rfl) (by kernel_rfl)) (knows_new (V := isVal (.agg #[.string ⟨Y.key.toArray⟩, .int .i64 Y.val.kind, .int .i64 Y.val.time, .int .i64 Y.val.node, .bool Y.val.dead, .string ⟨Y.val.text.toArray⟩, yp, ym, .int .u64 (Y.val.flags.toNat : Int)])) 24 7 (by kernel_rfl) (by kernel_rfl) (by kernel_rfl))) (enters_of Tryz.func38 (by kernel_rfl) rfl) (by intro w' hb; exact resame_val X Y z _ _ w' (en_mk hxp hxm hb) (en_mk hyp hym hb) fX fY hz), ?_⟩
  refine ⟨isVal (.bool !z), step_un .not 4 (.tmp 25) (.bool z) (.bool !z) (by kernel_rfl) (wanted_none (by kernel_rfl)) (knows_new (V := isVal (.bool z)) 25 8 (by kernel_rfl) (by kernel_rfl) (by kernel_rfl)) (fun _ => rfl), ?_⟩
  intro a w hkp hb hd
  rw [kept_of hkp [some 17, some 18, some 19, some 20, some 21, some 22, some 23, some 24, some 25, some 26] [17, 18, 19, 20, 21, 22, 23, 24, 25, 26] (by kernel_rfl) (by decide)]
  have d26 := fdone_of (hd 9 (by rw [show rallOps.size = 10 by kernel_rfl]; decide)) (t := 26) (V := isVal (.bool !z)) (by kernel_rfl) (by kernel_rfl)
  exact hQ (fun s => a.tmps.getD s undef) w d26 hb
set_option maxRecDepth 100000 in
set_option maxHeartbeats 2000000 in
theorem refAll_any (l m : List En) (v u : Value) (w : World) (hv : isEns l v w) (hu : isEns m u w) (hl : l.length ≤ 1000) (hm : m.length ≤ 1000) (fl : ∀ e ∈ l, FitE e) (fm : ∀ e ∈ m, FitE e) : Calls Tryz.prog 14 #[v, u] w fun e w' => e = .returned (.bool (decide (l = m))) ∧ Below w.heap.size w w' := by
  obtain ⟨va, vc, rfl⟩ := hv.len
  obtain ⟨ua, uc, rfl⟩ := hu.len
  by_cases hlen : l.length = m.length
  · have HV := Kept.mk hv
    have HU := Kept.mk hu
    have FL := Kept.mk fl
    have FM := Kept.mk fm
    clear hv hu fl fm
    generalize hn : l.length = n at *
    generalize hmn : m.length = n2 at *
    subst hlen
    have HN := Kept.mk (And.intro hn hmn)
    clear hn hmn
    go_enter Tryz.func14, Tryz.ntmps14
    go_wp2
    go_loopw [5] (fun i wr => ∃ k : Nat, k ≤ n ∧ i = .int .i64 (k : Int) ∧ Kept (Below w.heap.size w wr) ∧ Kept (∀ j, j < k → l[j]? = m[j]?)) (fun i _ => n - (intOf i).toNat)
    case atStart => exact ⟨0, Nat.zero_le _, rfl, ⟨Below.refl _ _⟩, ⟨fun j h => absurd h (Nat.not_lt_zero _)⟩⟩
    case round =>
      obtain ⟨k, hk, rfl, B, A⟩ := hrel
      by_cases hlt : k < n
      · have hlt' : (k : Int) < (n : Int) := by omega
        obtain ⟨X, hX⟩ : ∃ X, l[k]? = some X := ⟨_, List.getElem?_eq_getElem (by have := HN.out.1; omega)⟩
        obtain ⟨Y, hY⟩ : ∃ Y, m[k]? = some Y := ⟨_, List.getElem?_eq_getElem (by have := HN.out.2; omega)⟩
        obtain ⟨bs, os, cs, hvs, hbs, xp, xm, hxc, hxp, hxm⟩ := HV.out.get hX
        injection hvs with h1 hz1 h2
        clear hz1
        subst h1 h2
        obtain ⟨bt, ot, ct, hvt, hbt, yp, ym, hyc, hyp, hym⟩ := HU.out.get hY
        injection hvt with h1 hz1 h2
        clear hz1
        subst h1 h2
        have FX := Kept.mk (FL.out X (List.mem_of_getElem? hX))
        have FY := Kept.mk (FM.out Y (List.mem_of_getElem? hY))
        have HXY := Kept.mk (And.intro hX hY)
        have HXC := Kept.mk hxc
        have HYC := Kept.mk hyc
        obtain ⟨z, hz⟩ : ∃ z, decide (X = Y) = z := ⟨_, rfl⟩
        have HZ := Kept.mk hz
        have hsw := B.out.size
        clear hX hY hz hxc hyc
        go_wp2
        refine rall_region _ _ _ rfl k n bs os vc bt ot uc z X Y xp xm yp ym rfl rfl rfl hlt (by omega) (by omega) (fun j x hx => (B.out.cell (p := ⟨bs, os + k * 9 + j, none⟩) hbs).trans (HXC.out j x hx)) (fun j x hx => (B.out.cell (p := ⟨bt, ot + k * 9 + j, none⟩) hbt).trans (HYC.out j x hx)) (stable_cells _ _ _ _ hxp B.out) (stable_cells _ _ _ _ hxm B.out) (stable_cells _ _ _ _ hyp B.out) (stable_cells _ _ _ _ hym B.out) FX.out FY.out HZ.out ?_
        intro f9 W9 d26 hb9
        simp only [List.foldl_cons, List.foldl_nil, d26]
        generalize f9 17 = y17
        generalize f9 18 = y18
        generalize f9 19 = y19
        generalize f9 20 = y20
        generalize f9 21 = y21
        generalize f9 22 = y22
        generalize f9 23 = y23
        generalize f9 24 = y24
        generalize f9 25 = y25
        clear d26
        simp only [List.setIfInBounds_toArray, List.set_cons_succ, List.set_cons_zero]
        replace B := Kept.mk (B.out.trans (hb9.mono hsw))
        clear hb9
        cases z with
        | true =>
          have HQ := Kept.mk (of_decide_eq_true HZ.out)
          go_wp2
          go_roundw
          case rel =>
            refine ⟨k + 1, by omega, by go_num, B, ⟨fun j hj => ?_⟩⟩
            by_cases e : j = k
            · subst e; rw [HXY.out.1, HXY.out.2, HQ.out]
            · exact A.out j (by omega)
          case measure => simp [intOf]; omega
        | false =>
          have HE := Kept.mk (show decide (l = m) = false from decide_eq_false (fun e => by
            have := HXY.out.1; rw [e, HXY.out.2] at this; injection this with this
            exact (of_decide_eq_false HZ.out) this.symm))
          go_wp2
          go_ret
          exact ⟨by rw [HE.out]; rfl, B.out⟩
      · have hlt' : ¬ (k : Int) < (n : Int) := by omega
        have HE := Kept.mk (show decide (l = m) = true from decide_eq_true (List.ext_getElem? (fun j => by
          by_cases hj : j < k
          · exact A.out j hj
          · rw [List.getElem?_eq_none (by have := HN.out.1; omega), List.getElem?_eq_none (by have := HN.out.2; omega)])))
        go_wp2
        go_ret
        exact ⟨by rw [HE.out]; rfl, B.out⟩
  · have HE := Kept.mk (show decide (l = m) = false from decide_eq_false (fun e => hlen (by rw [e])))
    clear hv hu fl fm
    generalize l.length = n at *
    generalize m.length = n2 at *
    have hl1 : ((n : Int) == (n2 : Int)) = false := by simp; omega
    have hl2 : ((n : Int) != (n2 : Int)) = true := by simp; omega
    go_enter Tryz.func14, Tryz.ntmps14
    go_wp2
    go_ret
    exact ⟨by rw [HE.out]; rfl, Below.refl _ _⟩
end Go.Proofs.YtkjghoomdefbbaaGreatDoor
end
