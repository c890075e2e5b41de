/- More operations of a drawn region: a new row, a place in an array, what stands there. Nothing of the program. -/
import Derived.Test.YtebjljiklacolaaFlowOps
import Derived.Deep.OwnRows
import Derived.ChangeKeysEq
import Derived.Laws.Rows
namespace Go.Proofs.Ytebjljiklacolaa
open Go.RowKit
set_option linter.unusedVariables false
set_option linter.unusedSimpArgs false

section
variable {P : Program} {ops : Array Oper} {base : World} {a0 : Act} {Q : Exit → Act → World → Prop} {kn : Nat → VP} {i : Nat} {V : VP}

/-- make([]byte, n) -/
theorem step_make (t e : TypeId) (x : Operand) (n : Nat) (hop : (ops[i]?).map (·.op) = some (.makeSlice t x x)) (hw : Wanted ops a0 kn i) (hx : Knows ops a0 kn i x (isVal (.int .i64 (n : Int))))
    (ht : P.underlying t = some (.slice e)) (hi : (P.info? e).map (fun i => (i.zero, i.size, i.bytes)) = some (some (.int .u8 0), 1, 1)) (hn : n ≤ 1000000) : FStep P ops base a0 Q kn i (isRow (List.replicate n 0)) :=
  step_mk (stable_row _) hw fun o ho a w hk hb hd => by
    have e1 : a.eval x = .int .i64 (n : Int) := hx a w hk hd
    have hr := run_make_row' (P := P) t e (.int .u8 0) 1 ht hi rfl .i64 .i64 n (by omega) (by omega) w
    unfold Oper.wp execOp
    rw [op_of hop ho]
    simp only [e1, Sem.run_bind, hr, Result.andThen_ok, Sem.run_pure]
    refine ⟨_, rfl, ⟨w.heap.size, by simp, by simp, BRow.made w e n⟩, (Below.refl _ _).alloc (Nat.le_refl _) _⟩

/-- A place in an array. -/
theorem step_at (t e : TypeId) (x : Operand) (n k g : Nat) (hop : (ops[i]?).map (·.op) = some (.indexAddr t x (.const (.int .i64 (k : Int))))) (hw : Wanted ops a0 kn i) (hx : Knows ops a0 kn i x (isVal (.pointer (some ⟨g, 0, none⟩))))
    (ht : P.underlying t = some (.array n e)) (hs : P.cellsOf e = 1) (hi : (P.info? e).map (·.size) = some 1) (hk : k < n) : FStep P ops base a0 Q kn i (isVal (.pointer (some (Addr.add ⟨g, 0, none⟩ k)))) :=
  step_pure _ hop hw fun o a w ho hk' hd => by
    have e1 : a.eval x = .pointer (some ⟨g, 0, none⟩) := hx a w hk' hd
    have e2 : a.eval (.const (.int .i64 (k : Int))) = .int .i64 (k : Int) := rfl
    unfold execOp
    rw [ho]
    simp only [e1, e2, Sem.run_bind]
    obtain ⟨ie, hie, hz⟩ := Option.map_eq_some_iff.1 hi
    have hsz : (sizeOf e).run P w = .ok 1 w := by simp [sizeOf, typeInfo, hie, hz]
    simp [Instr.indexAt, run_underlying ht, Instr.sureAddr, asIntOf, hsz, hk]

/-- What stands in a place that was there ahead of the region. -/
theorem step_cell (t : TypeId) (x : Operand) (p : Addr) (v : Value) (d : TypeDesc) (hop : (ops[i]?).map (·.op) = some (.load t x)) (hw : Wanted ops a0 kn i) (hx : Knows ops a0 kn i x (isVal (.pointer (some p))))
    (hc : base.cell? p = some v) (hp : p.block < base.heap.size) (hu : P.underlying t = some (.int .u8)) : FStep P ops base a0 Q kn i (isVal v) :=
  step_mk (stable_val _) hw fun o ho a w hk hb hd => by
    have e1 : a.eval x = .pointer (some p) := hx a w hk hd
    have e2 : w.cell? p = some v := (hb.cell hp).trans hc
    unfold Oper.wp execOp
    rw [op_of hop ho]
    simp only [e1, Instr.loadAt, Instr.sureAddr, Sem.run_bind, Sem.run_pure, Result.andThen_ok]
    simp [loadVar, isAgg, run_underlying hu, e2, Oper.upon]
    exact ⟨v, rfl, rfl, Below.refl _ _⟩

theorem step_whole (t e : TypeId) (x : Operand) (g : Nat) (n : Nat) (cs : Array Value) (t' : TypeId) (fr : Nat × Nat) (hop : (ops[i]?).map (·.op) = some (.load t x)) (hw : Wanted ops a0 kn i) (hx : Knows ops a0 kn i x (isVal (.pointer (some ⟨g, 0, none⟩))))
    (hc : base.heap[g]? = some (.cells cs t' fr)) (hu : P.underlying t = some (.array n e)) (hi : (P.info? t).map (·.size) = some cs.size) : FStep P ops base a0 Q kn i (isVal (.agg cs)) :=
  step_mk (stable_val _) hw fun o ho a w hk hb hd => by
    have e1 : a.eval x = .pointer (some ⟨g, 0, none⟩) := hx a w hk hd
    have hg : g < base.heap.size := (Array.getElem?_eq_some_iff.1 hc).1
    have e2 : w.heap[g]? = some (.cells cs t' fr) := (hb.block g hg).trans hc
    exact wp_load_row t x (op_of hop ho) g e1 t' cs fr _ e2 hu rfl hi ⟨_, rfl, rfl, Below.refl _ _⟩

theorem step_none (t : TypeId) (cs : Array Value) (hop : (ops[i]?).map (·.op) = some (.build t #[])) (hw : Wanted ops a0 kn i) (hb : P.built t [] = some cs) : FStep P ops base a0 Q kn i (isVal (.agg cs)) :=
  step_pure _ hop hw fun o a w ho hk hd => by
    unfold execOp
    rw [ho]
    simp only [Sem.run_bind]
    rw [run_build (P := P) w t _ cs (by simpa using hb)]
    rfl

/-- A literal of four bytes that were found out. -/
theorem step_row4 (t e : TypeId) (x0 x1 x2 x3 : Operand) (b0 b1 b2 b3 : UInt8) (hop : (ops[i]?).map (·.op) = some (.buildSlice t 4 #[(0, x0), (1, x1), (2, x2), (3, x3)])) (hw : Wanted ops a0 kn i)
    (h0 : Knows ops a0 kn i x0 (isVal (.int .u8 (b0.toNat : Int)))) (h1 : Knows ops a0 kn i x1 (isVal (.int .u8 (b1.toNat : Int)))) (h2 : Knows ops a0 kn i x2 (isVal (.int .u8 (b2.toNat : Int)))) (h3 : Knows ops a0 kn i x3 (isVal (.int .u8 (b3.toNat : Int))))
    (hu : P.underlying t = some (.slice e)) (hi : (P.info? e).map (fun i => (i.zero, i.size, i.bytes)) = some (some (.int .u8 0), 1, 1)) : FStep P ops base a0 Q kn i (isRow [b0, b1, b2, b3]) :=
  step_mk (stable_row _) hw fun o ho a w hk hb hd => by
    obtain ⟨ie, hie, hzz⟩ := Option.map_eq_some_iff.1 hi
    simp only [Prod.mk.injEq] at hzz
    obtain ⟨hz, hsz, _⟩ := hzz
    have e0 : a.eval x0 = _ := h0 a w hk hd
    have e1 : a.eval x1 = _ := h1 a w hk hd
    have e2 : a.eval x2 = _ := h2 a w hk hd
    have e3 : a.eval x3 = _ := h3 a w hk hd
    have hf : Instr.fill (fun i => some (i * ie.size, ie.size)) ((Array.range (4 * ie.size)).map ((Value.int .u8 0).cells[· % (Value.int .u8 0).cells.size]!)) (#[(0, x0), (1, x1), (2, x2), (3, x3)].map fun (i, x) => (i, a.eval x)).toList = some ([b0, b1, b2, b3].map fun b => Value.int .u8 (b.toNat : Int)).toArray := by
      have e4 : (#[(0, x0), (1, x1), (2, x2), (3, x3)].map fun (i, x) => (i, a.eval x)).toList = (([b0, b1, b2, b3].map fun b => Value.int .u8 (b.toNat : Int)).zipIdx 0).map fun x => (x.2, x.1) := by
        simp [e0, e1, e2, e3]
      rw [e4, hsz]
      exact Great.fill_flat _ _ (fun v hv => by obtain ⟨n, _, rfl⟩ := List.mem_map.1 hv; rfl) (by simp)
    refine wp_buildSlice t e 4 _ (op_of hop ho) _ ie (.int .u8 0) hu hie hz (by rw [hsz]; omega) (by rw [hsz]; omega) hf ?_
    refine ⟨_, rfl, ⟨w.heap.size, rfl, by simp, fun j hj => ⟨?_, World.frozen?_alloc_new w _ _ _⟩⟩, (Below.refl _ _).alloc (Nat.le_refl _) _⟩
    rw [World.cell?_alloc_new]
    simp only [List.getElem?_toArray, List.getElem?_map, List.getElem?_eq_getElem hj, Option.map_some]
end

/-- Four bytes are alike where each is. -/
theorem eql_four {P : Program} (t e : TypeId) (x0 x1 x2 x3 y0 y1 y2 y3 : Int) (b : Bool) (hu : P.underlying t = some (.array 4 e)) (he : P.underlying e = some (.int .u8)) (hi : (P.info? e).map (·.size) = some 1)
    (hb : (x0 == y0 && x1 == y1 && x2 == y2 && x3 == y3) = b) (w : World) :
    (binOp .eql t (.agg #[.int .u8 x0, .int .u8 x1, .int .u8 x2, .int .u8 x3]) (.agg #[.int .u8 y0, .int .u8 y1, .int .u8 y2, .int .u8 y3])).run P w = .ok (.bool b) w := by
  obtain ⟨ie, hie, hz⟩ := Option.map_eq_some_iff.1 hi
  have hc : P.cellsOf e = 1 := by simp [Program.cellsOf, hie, hz]
  rw [run_eql_struct, show (10000 : Nat) = 9999 + 1 from rfl, run_equalIn_array w 9999 _ _ hu hie, hc]
  have hsz : ∀ w, (sizeOf e).run P w = .ok 1 w := fun w => by simp [sizeOf, typeInfo, hie, hz]
  rw [show List.range 4 = [0, 1, 2, 3] from rfl, ← hb]
  have hp : ∀ (xs : Array Value) (off : Nat) (v : Value) (w : World), xs[off]? = some v → (part e xs off).run P w = .ok v w := fun xs off v w hx => by simp [part, isAgg, run_underlying he, hx]
  have heq : ∀ (x y : Int) (w : World), (Op.equalIn 9999 e (.int .u8 x) (.int .u8 y)).run P w = .ok (x == y) w := fun x y w => run_equalIn_int w 9998 e .u8 .u8 x y he
  simp only [Op.eqItems, Sem.run_bind, Nat.zero_mul, Nat.mul_one]
  rw [hp _ 0 (.int .u8 x0) w rfl]
  simp only [Result.andThen_ok]
  rw [hp _ 0 (.int .u8 y0) w rfl]
  simp only [Result.andThen_ok]
  rw [heq x0 y0]
  cases h0 : x0 == y0 with
  | false => simp
  | true =>
    simp only [Result.andThen_ok, Bool.not_true, Bool.false_eq_true, if_false, Sem.run_pure, Sem.run_bind]
    rw [hp _ 1 (.int .u8 x1) w rfl]
    simp only [Result.andThen_ok]
    rw [hp _ 1 (.int .u8 y1) w rfl]
    simp only [Result.andThen_ok]
    rw [heq x1 y1]
    cases h1 : x1 == y1 with
    | false => simp
    | true =>
      simp only [Result.andThen_ok, Bool.not_true, Bool.false_eq_true, if_false, Sem.run_pure, Sem.run_bind]
      rw [hp _ 2 (.int .u8 x2) w rfl]
      simp only [Result.andThen_ok]
      rw [hp _ 2 (.int .u8 y2) w rfl]
      simp only [Result.andThen_ok]
      rw [heq x2 y2]
      cases h2 : x2 == y2 with
      | false => simp
      | true =>
        simp only [Result.andThen_ok, Bool.not_true, Bool.false_eq_true, if_false, Sem.run_pure, Sem.run_bind]
        rw [hp _ 3 (.int .u8 x3) w rfl]
        simp only [Result.andThen_ok]
        rw [hp _ 3 (.int .u8 y3) w rfl]
        simp only [Result.andThen_ok]
        rw [heq x3 y3]
        cases h3 : x3 == y3 with
        | false => simp
        | true => simp
end Go.Proofs.Ytebjljiklacolaa
