/- The operations of a drawn region, one by one: what each yields. Nothing of the program. -/
import Derived.Test.YtebjljiklacolaaFlowBase
import Derived.Great.BuildSlice
import Derived.Shelf.Abstract
namespace Go.Proofs.Ytebjljiklacolaa
open Go.RowKit
set_option linter.unusedVariables false

section
variable {P : Program} {ops : Array Oper} {base : World} {a0 : Act} {Q : Exit → Act → World → Prop} {kn : Nat → VP} {i : Nat} {V : VP}

/-- Operation i waits for operation j. -/
def waits (ops : Array Oper) (i j : Nat) : Bool := (ops[i]?).any fun o => o.after.toList.any fun e => e.on == j && Region.binds .any e

theorem waits_done {j : Nat} (h : waits ops i j = true) {a : Act} {w : World} (hd : FDeps ops kn i a w) : FDone ops kn a w j := by
  unfold waits at h
  cases ho : ops[i]? with
  | none => rw [ho] at h; simp at h
  | some o =>
    rw [ho] at h
    simp only [Option.any_some, List.any_eq_true, Bool.and_eq_true, beq_iff_eq] at h
    obtain ⟨e, he, rfl, hb⟩ := h
    exact hd o ho e he hb

/-- What an operand of operation i is. -/
def Knows (ops : Array Oper) (a0 : Act) (kn : Nat → VP) (i : Nat) (x : Operand) (V : VP) : Prop := ∀ a w, FKept ops a0 a → FDeps ops kn i a w → V (a.eval x) w

theorem knows_const (c : Value) : Knows ops a0 kn i (.const c) (isVal c) := fun _ _ _ _ => rfl
theorem knows_old (t : Tmp) (v : Value) (h : (ops.toList.all fun o => o.dst != some t) = true) (hv : a0.tmps.getD t undef = v) : Knows ops a0 kn i (.tmp t) (isVal v) := fun a w hk _ => (hk.2.2 t h).trans hv
theorem knows_new (t : Tmp) (j : Nat) (h : waits ops i j = true) (hj : (ops[j]?).bind (·.dst) = some t) (hV : kn j = V) : Knows ops a0 kn i (.tmp t) V := by
  intro a w _ hd
  cases ho : ops[j]? with
  | none => rw [ho] at hj; simp at hj
  | some o =>
    rw [ho] at hj
    rw [← hV]
    exact waits_done h hd o ho t (by simpa using hj)

/-- Operation i is carried out. -/
def Wanted (ops : Array Oper) (a0 : Act) (kn : Nat → VP) (i : Nat) : Prop := ∀ a w, FKept ops a0 a → FDeps ops kn i a w → ∀ o, ops[i]? = some o → Region.wanted o (yielded ops a.tmps) = true
theorem wanted_none (h : (ops[i]?).map (·.guard) = some none) : Wanted ops a0 kn i := by
  intro a w _ _ o ho
  rw [ho] at h
  simp only [Option.map_some, Option.some.injEq] at h
  simp [Region.wanted, h]
theorem yielded_of {j : Nat} {t : Tmp} {a : Act} {b : Bool} (hj : (ops[j]?).bind (·.dst) = some t) (hv : a.tmps.getD t undef = .bool b) : yielded ops a.tmps j = some b := by
  unfold yielded
  rw [hj]
  simp only [Option.bind_some]
  rw [Array.getD_eq_getD_getElem?] at hv
  cases h : a.tmps[t]? with
  | none => rw [h] at hv; simp [undef] at hv
  | some x => rw [h] at hv; simp only [Option.getD_some] at hv; subst hv; rfl
theorem wanted_some (j : Nat) (t : Tmp) (b : Bool) (h : (ops[i]?).map (·.guard) = some (some (j, b))) (hw : waits ops i j = true) (hj : (ops[j]?).bind (·.dst) = some t) (hV : kn j = isVal (.bool b)) : Wanted ops a0 kn i := by
  intro a w hk hd o ho
  have hv := knows_new (a0 := a0) t j hw hj hV a w hk hd
  rw [ho] at h
  simp only [Option.map_some, Option.some.injEq] at h
  simp only [Region.wanted, h]
  rw [yielded_of hj hv]
  simp
/-- Operation i is passed over. -/
theorem step_skip (j : Nat) (t : Tmp) (b c : Bool) (h : (ops[i]?).map (·.guard) = some (some (j, b))) (hw : waits ops i j = true) (hj : (ops[j]?).bind (·.dst) = some t) (hV : kn j = isVal (.bool c)) (hbc : (c == b) = false) :
    FStep P ops base a0 Q kn i (isVal undef) := by
  refine ⟨stable_val _, fun o ho a w hk hb hd => ?_⟩
  have hv := knows_new (a0 := a0) t j hw hj hV a w hk hd
  have h' := h
  rw [ho] at h'
  simp only [Option.map_some, Option.some.injEq] at h'
  have hwn : Region.wanted o (yielded ops a.tmps) = false := by
    simp only [Region.wanted, h']
    rw [yielded_of hj hv]
    simpa using hbc
  unfold wpOp
  simp only [ho, hwn]
  exact ⟨undef, rfl, rfl, Below.refl _ _⟩

theorem step_mk (hst : Stable V) (hw : Wanted ops a0 kn i)
    (h : ∀ o, ops[i]? = some o → ∀ a w, FKept ops a0 a → Below base.heap.size base w → FDeps ops kn i a w → o.wp P a w (fun a' w' => ∃ v, a' = a.put o.dst v ∧ V v w' ∧ Below w.heap.size w w') Q) : FStep P ops base a0 Q kn i V := by
  refine ⟨hst, fun o ho a w hk hb hd => ?_⟩
  have hwn := hw a w hk hd o ho
  unfold wpOp
  simp only [ho, hwn, if_true]
  exact .inl (h o ho a w hk hb hd)

theorem op_of {OP : Op} (hop : (ops[i]?).map (·.op) = some OP) {o : Oper} (ho : ops[i]? = some o) : o.op = OP := by
  rw [ho] at hop
  simpa using hop

theorem step_move (x : Operand) (hop : (ops[i]?).map (·.op) = some (.move x)) (hw : Wanted ops a0 kn i) (hst : Stable V) (hx : Knows ops a0 kn i x V) : FStep P ops base a0 Q kn i V :=
  step_mk hst hw fun o ho a w hk hb hd => by
    unfold Oper.wp execOp
    rw [op_of hop ho]
    exact ⟨_, rfl, hx a w hk hd, Below.refl _ _⟩
theorem step_assign (x : Operand) (hop : (ops[i]?).map (·.op) = some (.assign x)) (hw : Wanted ops a0 kn i) (hst : Stable V) (hx : Knows ops a0 kn i x V) : FStep P ops base a0 Q kn i V :=
  step_mk hst hw fun o ho a w hk hb hd => by
    unfold Oper.wp execOp
    rw [op_of hop ho]
    exact ⟨_, rfl, hx a w hk hd, Below.refl _ _⟩
theorem step_pick (c x y : Operand) (b : Bool) (hop : (ops[i]?).map (·.op) = some (.pick c x y)) (hw : Wanted ops a0 kn i) (hst : Stable V) (hc : Knows ops a0 kn i c (isVal (.bool b)))
    (hx : Knows ops a0 kn i (if b then x else y) V) : FStep P ops base a0 Q kn i V :=
  step_mk hst hw fun o ho a w hk hb hd => by
    have hcv : a.eval c = .bool b := hc a w hk hd
    have hxv := hx a w hk hd
    unfold Oper.wp execOp
    rw [op_of hop ho]
    simp only [hcv, asBool, Sem.run_bind, Sem.run_pure, Result.andThen_ok, Oper.upon]
    cases b
    · exact ⟨_, rfl, hxv, Below.refl _ _⟩
    · exact ⟨_, rfl, hxv, Below.refl _ _⟩

/-- An operation that reckons, and leaves memory alone. -/
theorem step_pure {OP : Op} (v : Value) (hop : (ops[i]?).map (·.op) = some OP) (hw : Wanted ops a0 kn i)
    (h : ∀ (o : Oper) (a : Act) (w : World), o.op = OP → FKept ops a0 a → FDeps ops kn i a w → (execOp a.eval o).run P w = .ok (.value v) w) : FStep P ops base a0 Q kn i (isVal v) :=
  step_mk (stable_val v) hw fun o ho a w hk hb hd => by
    unfold Oper.wp
    rw [h o a w (op_of hop ho) hk hd]
    exact ⟨_, rfl, rfl, Below.refl _ _⟩
theorem step_bin (b : BinOp) (t t2 : TypeId) (x y : Operand) (vx vy v : Value) (hop : (ops[i]?).map (·.op) = some (.binOp b t x y t2)) (hw : Wanted ops a0 kn i)
    (hx : Knows ops a0 kn i x (isVal vx)) (hy : Knows ops a0 kn i y (isVal vy)) (hg : ∀ w, (eqGuard b t x y vx vy).run P w = .ok () w) (hr : ∀ w, (binOp b t vx vy).run P w = .ok v w) : FStep P ops base a0 Q kn i (isVal v) :=
  step_pure v hop hw fun o a w ho hk hd => by
    have e1 : a.eval x = vx := hx a w hk hd
    have e2 : a.eval y = vy := hy a w hk hd
    unfold execOp
    rw [ho]
    simp only [e1, e2, Sem.run_bind, hg, hr, Result.andThen_ok, Sem.run_pure]
theorem step_un (b : UnOp) (t : TypeId) (x : Operand) (vx v : Value) (hop : (ops[i]?).map (·.op) = some (.unOp b t x)) (hw : Wanted ops a0 kn i)
    (hx : Knows ops a0 kn i x (isVal vx)) (hr : ∀ w, (Op.unary b vx).run P w = .ok v w) : FStep P ops base a0 Q kn i (isVal v) :=
  step_pure v hop hw fun o a w ho hk hd => by
    have e1 : a.eval x = vx := hx a w hk hd
    unfold execOp
    rw [ho]
    simp only [e1, Sem.run_bind, hr, Result.andThen_ok, Sem.run_pure]
theorem step_extract (x : Operand) (n : Nat) (vs : Array Value) (v : Value) (hop : (ops[i]?).map (·.op) = some (.extract x n)) (hw : Wanted ops a0 kn i)
    (hx : Knows ops a0 kn i x (isVal (.tuple vs))) (hv : vs[n]? = some v) : FStep P ops base a0 Q kn i (isVal v) :=
  step_pure v hop hw fun o a w ho hk hd => by
    have e1 : a.eval x = .tuple vs := hx a w hk hd
    unfold execOp
    rw [ho]
    simp only [e1, Instr.extract, hv, Sem.run_bind, Result.andThen_ok, Sem.run_pure]
theorem step_conv (s d : TypeId) (x : Operand) (vx v : Value) (hop : (ops[i]?).map (·.op) = some (.convert s d x)) (hw : Wanted ops a0 kn i)
    (hx : Knows ops a0 kn i x (isVal vx)) (hr : ∀ w, (convert s d vx).run P w = .ok v w) : FStep P ops base a0 Q kn i (isVal v) :=
  step_pure v hop hw fun o a w ho hk hd => by
    have e1 : a.eval x = vx := hx a w hk hd
    unfold execOp
    rw [ho]
    simp only [e1, Sem.run_bind, hr, Result.andThen_ok, Sem.run_pure]
/-- 'string(b)' of a row of bytes. -/
theorem step_convRow (s d e : TypeId) (x : Operand) (l : List UInt8) (hop : (ops[i]?).map (·.op) = some (.convert s d x)) (hw : Wanted ops a0 kn i) (hx : Knows ops a0 kn i x (isRow l))
    (hs : P.underlying s = some (.slice e)) (he : P.underlying e = some (.int .u8)) (hd' : P.underlying d = some .string) : FStep P ops base a0 Q kn i (isVal (.string ⟨l.toArray⟩)) :=
  step_pure _ hop hw fun o a w ho hk hd => by
    obtain ⟨g, e1, _, hr⟩ := hx a w hk hd
    unfold execOp
    rw [ho]
    simp only [e1, Sem.run_bind, hr.back (P := P) s d e l.length l.length rfl hs he hd', Result.andThen_ok, Sem.run_pure]
/-- A literal of bytes. -/
theorem step_row (t e : TypeId) (parts : Array (Nat × Operand)) (l : List UInt8) (ie : TypeInfo) (hop : (ops[i]?).map (·.op) = some (.buildSlice t l.length parts)) (hw : Wanted ops a0 kn i)
    (hu : P.underlying t = some (.slice e)) (hie : P.info? e = some ie) (hz : ie.zero = some (.int .u8 0)) (hsz : ie.size = 1) (hlen : 0 < l.length) (hlen2 : l.length ≤ 16777216)
    (hparts : parts.toList = (l.zipIdx 0).map fun x => (x.2, Operand.const (Value.int .u8 (x.1.toNat : Int)))) : FStep P ops base a0 Q kn i (isRow l) :=
  step_mk (stable_row l) hw fun o ho a w hk hb hd => by
    have hf : Instr.fill (fun i => some (i * ie.size, ie.size)) ((Array.range (l.length * ie.size)).map ((Value.int .u8 0).cells[· % (Value.int .u8 0).cells.size]!)) (parts.map fun (i, x) => (i, a.eval x)).toList = some (l.map fun b => Value.int .u8 (b.toNat : Int)).toArray := by
      have e1 : (parts.map fun (i, x) => (i, a.eval x)).toList = (((l.map fun b => (b.toNat : Int)).map (Value.int .u8)).zipIdx 0).map fun x => (x.2, x.1) := by
        refine parts_eval a parts .u8 (l.map fun b => (b.toNat : Int)) ?_
        rw [hparts, List.zipIdx_map, List.map_map]
        rfl
      rw [e1, hsz]
      rw [Great.fill_flat _ _ (fun v hv => by obtain ⟨n, _, rfl⟩ := List.mem_map.1 hv; rfl) (by simp)]
      rw [List.map_map]
      rfl
    refine wp_buildSlice t e l.length parts (op_of hop ho) _ ie (.int .u8 0) hu hie hz (by rw [hsz]; omega) (by rw [hsz]; omega) hf ?_
    refine ⟨_, rfl, ⟨w.heap.size, rfl, by simp, fun j hj => ⟨?_, World.frozen?_alloc_new w _ _ _⟩⟩, (Below.refl _ _).alloc (Nat.le_refl _) _⟩
    rw [World.cell?_alloc_new]
    simp [hj]
/-- A call of a function of the program. -/
theorem step_call (f : FuncId) (xs : Array Operand) (ts : Array TypeId) (vs : Array Value) (hop : (ops[i]?).map (·.op) = some (.call { callee := .value (.func f), args := xs, argTypes := ts })) (hw : Wanted ops a0 kn i) (hst : Stable V)
    (hx : ∀ a w, FKept ops a0 a → FDeps ops kn i a w → xs.map a.eval = vs) (hent : Enters P f)
    (hc : ∀ w, Below base.heap.size base w → Calls P f vs w fun e w' => ∃ v, e = .returned v ∧ V v w' ∧ Below w.heap.size w w') : FStep P ops base a0 Q kn i V :=
  step_mk hst hw fun o ho a w hk hb hd => by
    unfold Oper.wp execOp
    rw [op_of hop ho]
    have e1 : xs.map a.eval = vs := hx a w hk hd
    have e2 : a.eval (.func f) = .func (.func f) #[] #[] := rfl
    simp only [resolve, e1, e2, Deferred.ofValue, Sem.run_bind, Sem.run_pure, Result.andThen_ok, invoke, Array.append_empty, Array.empty_append]
    rw [hent]
    simp only [Oper.upon]
    refine (hc w hb).mono ?_
    rintro e w' ⟨v, rfl, hv, hbw⟩
    exact ⟨v, rfl, hv, hbw⟩
theorem args_nil : ∀ a w, FKept ops a0 a → FDeps ops kn i a w → (#[] : Array Operand).map a.eval = #[] := fun _ _ _ _ => by simp
theorem args1 (x : Operand) (v : Value) (hx : Knows ops a0 kn i x (isVal v)) : ∀ a w, FKept ops a0 a → FDeps ops kn i a w → #[x].map a.eval = #[v] := fun a w hk hd => by
  have := hx a w hk hd
  simp only [isVal] at this
  simp [this]
theorem args2 (x y : Operand) (v u : Value) (hx : Knows ops a0 kn i x (isVal v)) (hy : Knows ops a0 kn i y (isVal u)) : ∀ a w, FKept ops a0 a → FDeps ops kn i a w → #[x, y].map a.eval = #[v, u] := fun a w hk hd => by
  have h1 := hx a w hk hd
  have h2 := hy a w hk hd
  simp only [isVal] at h1 h2
  simp [h1, h2]
theorem args3 (x y z : Operand) (v u s : Value) (hx : Knows ops a0 kn i x (isVal v)) (hy : Knows ops a0 kn i y (isVal u)) (hz : Knows ops a0 kn i z (isVal s)) : ∀ a w, FKept ops a0 a → FDeps ops kn i a w → #[x, y, z].map a.eval = #[v, u, s] := fun a w hk hd => by
  have h1 := hx a w hk hd
  have h2 := hy a w hk hd
  have h3 := hz a w hk hd
  simp only [isVal] at h1 h2 h3
  simp [h1, h2, h3]
end

theorem eql_str {P : Program} (t : TypeId) (l m : List UInt8) (b : Bool) (h : (l == m) = b) (w : World) : (binOp .eql t (.string ⟨l.toArray⟩) (.string ⟨m.toArray⟩)).run P w = .ok (.bool b) w := by
  rw [binOp_string_eql, ByteArray.toList_mk, ByteArray.toList_mk, h]; rfl
theorem neq_str {P : Program} (t : TypeId) (l m : List UInt8) (b : Bool) (h : (l != m) = b) (w : World) : (binOp .neq t (.string ⟨l.toArray⟩) (.string ⟨m.toArray⟩)).run P w = .ok (.bool b) w := by
  have e : binOp .neq t (.string ⟨l.toArray⟩) (.string ⟨m.toArray⟩) = pure (.bool ((⟨l.toArray⟩ : ByteArray).toList != (⟨m.toArray⟩ : ByteArray).toList)) := by simp [binOp, Op.stringOp]; rfl
  rw [e, ByteArray.toList_mk, ByteArray.toList_mk, h]; rfl
theorem eql_int {P : Program} (t : TypeId) (k : IntKind) (x y : Int) (b : Bool) (h : (x == y) = b) (w : World) : (binOp .eql t (.int k x) (.int k y)).run P w = .ok (.bool b) w := by
  simp [go_sem, h]
theorem neq_int {P : Program} (t : TypeId) (k : IntKind) (x y : Int) (b : Bool) (h : (x != y) = b) (w : World) : (binOp .neq t (.int k x) (.int k y)).run P w = .ok (.bool b) w := by
  simp [go_sem, h]

/-- The operations of a region, out of a function's text. -/
def opsOf (n : Nat) : Code → Option (Array Oper)
  | .region k ops _ => if k = n then some ops else none
  | .seq a b => match opsOf n a with
    | some x => some x
    | none => opsOf n b
  | .cond _ a b => match opsOf n a with
    | some x => some x
    | none => opsOf n b
  | .block _ c => opsOf n c
  | .loop c => opsOf n c
  | .scope c => opsOf n c
  | _ => none
def regionOf (f : Func) (n : Nat) : Array Oper := (f.body.bind (opsOf n)).getD #[]
end Go.Proofs.Ytebjljiklacolaa
