/- Still more operations of a drawn region: len, parts of a text, a place in a row, calls by an interface. -/
import Derived.Test.YtebjljiklacolaaFlCopy
namespace Go.Proofs.Ytebjljiklacolaa
open Go.RowKit
set_option linter.unusedVariables false
set_option linter.unusedSimpArgs false

section
variable {P : Program} {ops : Array Oper} {base : World} {a0 : Act} {Q : Exit → Act → World → Prop} {kn : Nat → VP} {i : Nat} {V : VP}

theorem step_len (t : TypeId) (x : Operand) (v r : Value) (hop : (ops[i]?).map (·.op) = some (.call { callee := .builtin .len, args := #[x], argTypes := #[t] })) (hw : Wanted ops a0 kn i) (hx : Knows ops a0 kn i x (isVal v))
    (hr : ∀ ty w, (Builtin.len_ #[t] ty #[v]).run P w = .ok r w) : FStep P ops base a0 Q kn i (isVal r) :=
  step_pure r hop hw fun o a w ho hk hd => by
    have e1 : a.eval x = v := hx a w hk hd
    unfold execOp
    rw [ho]
    simp only [resolve, Sem.run_bind, Sem.run_pure, Result.andThen_ok, invoke, builtin, List.map_toArray, List.map_cons, List.map_nil, e1, hr]
/-- A place in a row. -/
theorem step_place (t e : TypeId) (x y : Operand) (b off n cap k : Nat) (hop : (ops[i]?).map (·.op) = some (.indexAddr t x y)) (hw : Wanted ops a0 kn i) (hx : Knows ops a0 kn i x (isVal (.slice (some ⟨b, off, none⟩) n cap))) (hy : Knows ops a0 kn i y (isVal (.int .i64 (k : Int))))
    (ht : P.underlying t = some (.slice e)) (hi : (P.info? e).map (·.size) = some 1) (hk : k < n) : FStep P ops base a0 Q kn i (isVal (.pointer (some ⟨b, off + k, none⟩))) :=
  step_pure _ hop hw fun o a w ho hk' hd => by
    have e1 : a.eval x = _ := hx a w hk' hd
    have e2 : a.eval y = _ := hy a w hk' hd
    obtain ⟨ie, hie, hz⟩ := Option.map_eq_some_iff.1 hi
    have hsz : (sizeOf e).run P w = .ok 1 w := by simp [sizeOf, typeInfo, hie, hz]
    unfold execOp
    rw [ho]
    simp only [e1, e2, Sem.run_bind]
    simp [Instr.indexAt, run_underlying ht, asIntOf, hsz, hk, Addr.add]
/-- The head, and the rest, of a text. -/
theorem step_head (t : TypeId) (x y : Operand) (l : List UInt8) (k : Nat) (hop : (ops[i]?).map (·.op) = some (.slice t x none (some y) none)) (hw : Wanted ops a0 kn i) (hx : Knows ops a0 kn i x (isVal (.string ⟨l.toArray⟩))) (hy : Knows ops a0 kn i y (isVal (.int .i64 (k : Int))))
    (hr : ∀ w, (Instr.sliceAt t (.string ⟨l.toArray⟩) none (some (.int .i64 (k : Int))) none).run P w = .ok (.string ⟨(l.take k).toArray⟩) w) : FStep P ops base a0 Q kn i (isVal (.string ⟨(l.take k).toArray⟩)) :=
  step_pure _ hop hw fun o a w ho hk' hd => by
    have e1 : a.eval x = _ := hx a w hk' hd
    have e2 : a.eval y = _ := hy a w hk' hd
    unfold execOp
    rw [ho]
    simp only [e1, e2, Sem.run_bind, Option.map_none, Option.map_some, hr, Result.andThen_ok, Sem.run_pure]
theorem step_rest (t : TypeId) (x y : Operand) (l : List UInt8) (k : Nat) (hop : (ops[i]?).map (·.op) = some (.slice t x (some y) none none)) (hw : Wanted ops a0 kn i) (hx : Knows ops a0 kn i x (isVal (.string ⟨l.toArray⟩))) (hy : Knows ops a0 kn i y (isVal (.int .i64 (k : Int))))
    (hr : ∀ w, (Instr.sliceAt t (.string ⟨l.toArray⟩) (some (.int .i64 (k : Int))) none none).run P w = .ok (.string ⟨(l.drop k).toArray⟩) w) : FStep P ops base a0 Q kn i (isVal (.string ⟨(l.drop k).toArray⟩)) :=
  step_pure _ hop hw fun o a w ho hk' hd => by
    have e1 : a.eval x = _ := hx a w hk' hd
    have e2 : a.eval y = _ := hy a w hk' hd
    unfold execOp
    rw [ho]
    simp only [e1, e2, Sem.run_bind, Option.map_none, Option.map_some, hr, Result.andThen_ok, Sem.run_pure]
/-- A method's value, and that it is none of nil. -/
theorem step_method (name : String) (x : Operand) (v : Value) (hop : (ops[i]?).map (·.op) = some (.makeFunc (.method name) #[x] #[])) (hw : Wanted ops a0 kn i) (hx : Knows ops a0 kn i x (isVal v)) : FStep P ops base a0 Q kn i (isVal (.func (.method name) #[v] #[])) :=
  step_pure _ hop hw fun o a w ho hk' hd => by
    have e1 : a.eval x = v := hx a w hk' hd
    unfold execOp
    rw [ho]
    simp [e1, Instr.makeFunc]
theorem step_nil (name : String) (x : Operand) (t : TypeId) (v : Value) (hop : (ops[i]?).map (·.op) = some (.nilCheck x)) (hw : Wanted ops a0 kn i) (hx : Knows ops a0 kn i x (isVal (.func (.method name) #[.iface t v] #[])))
    (hr : ∀ w, (nilAhead (P.types.size + Made.depth) t v name).run P w = .ok (some false) w) : FStep P ops base a0 Q kn i (isVal (.func (.method name) #[.iface t v] #[])) :=
  step_pure _ hop hw fun o a w ho hk' hd => by
    have e1 : a.eval x = _ := hx a w hk' hd
    unfold execOp
    rw [ho]
    simp only [e1]
    simp [run_program, hr]
/-- A call by an interface. -/
theorem step_invoke (name : String) (r : Operand) (recv : Value) (f : FuncId) (xs : Array Operand) (ts : Array TypeId) (vs ws : Array Value) (hop : (ops[i]?).map (·.op) = some (.call { callee := .invoke r name, args := xs, argTypes := ts })) (hw : Wanted ops a0 kn i) (hst : Stable V)
    (hx : ∀ a w, FKept ops a0 a → FDeps ops kn i a w → xs.map a.eval = vs) (hrv : Knows ops a0 kn i r (isVal recv)) (hr : ∀ w, (invoke (.fn (.method name) #[]) (#[recv] ++ vs)).run P w = .ok (.enter f ws) w)
    (hc : ∀ w, Below base.heap.size base w → Calls P f ws w fun e w' => ∃ v, e = .returned v ∧ V v w' ∧ Below w.heap.size w w') : FStep P ops base a0 Q kn i V :=
  step_mk hst hw fun o ho a w hk hb hd => by
    unfold Oper.wp execOp
    rw [op_of hop ho]
    have e1 : xs.map a.eval = vs := hx a w hk hd
    have e2 : a.eval r = recv := hrv a w hk hd
    simp only [resolve, e1, e2, Sem.run_bind, Sem.run_pure, Result.andThen_ok, hr]
    simp only [Oper.upon]
    refine (hc w hb).mono ?_
    rintro e w' ⟨v, rfl, hv, hbw⟩
    exact ⟨v, rfl, hv, hbw⟩
end
theorem ext_takeG (l : List UInt8) (n : Nat) : (⟨l.toArray⟩ : ByteArray).extract 0 n = ⟨(l.take n).toArray⟩ := by
  apply ByteArray.ext
  apply Array.toList_inj.1
  rw [ByteArray.data_extract, Array.toList_extract, List.extract_eq_take_drop]
  simp
theorem ext_dropG (l : List UInt8) (n : Nat) : (⟨l.toArray⟩ : ByteArray).extract n (⟨l.toArray⟩ : ByteArray).size = ⟨(l.drop n).toArray⟩ := by
  apply ByteArray.ext
  apply Array.toList_inj.1
  rw [ByteArray.data_extract, Array.toList_extract, List.extract_eq_take_drop, size_mk]
  simp
  exact List.take_of_length_le (by simp)
theorem len_str (l : List UInt8) (ty : TypeId) (w : World) : (Builtin.len_ #[9] ty #[.string ⟨l.toArray⟩]).run Try.prog w = .ok (.int .i64 (l.length : Int)) w := by
  simp [Builtin.len_, run_underlying Try.underlying9, goInt]
  rw [size_mk]
theorem head_str (l : List UInt8) (k : Nat) (hk : k ≤ l.length) (w : World) : (Instr.sliceAt 9 (.string ⟨l.toArray⟩) none (some (.int .i64 (k : Int))) none).run Try.prog w = .ok (.string ⟨(l.take k).toArray⟩) w := by
  rw [run_sliceAt_string _ _ _ _ _ _ Try.underlying9, run_slice_string_h (ht := Try.underlying9) (h0 := by omega) (h2 := by rw [size_mk]; omega)]
  rw [Int.toNat_natCast, ext_takeG]
theorem rest_str (l : List UInt8) (k : Nat) (hk : k ≤ l.length) (w : World) : (Instr.sliceAt 9 (.string ⟨l.toArray⟩) (some (.int .i64 (k : Int))) none none).run Try.prog w = .ok (.string ⟨(l.drop k).toArray⟩) w := by
  rw [run_sliceAt_string _ _ _ _ _ _ Try.underlying9, run_slice_string_l (ht := Try.underlying9) (h0 := by omega) (h1 := by rw [size_mk]; omega)]
  rw [Int.toNat_natCast, ext_dropG]
end Go.Proofs.Ytebjljiklacolaa
