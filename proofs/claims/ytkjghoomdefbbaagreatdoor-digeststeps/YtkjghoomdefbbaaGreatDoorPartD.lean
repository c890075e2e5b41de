/- Joined texts: contracts of the program's functions, and the mathematics that they lean on. -/
import Derived.Test.YtkjghoomdefbbaaGreatDoorPartC
import Derived.Maps.AppendAt
import Derived.Shelf.Spec.SlicesInsert
import Derived.Shelf.Spec.SlicesInsertGrow
section
namespace Go.Proofs.YtkjghoomdefbbaaGreatDoor
open Go.RowKit
set_option linter.unusedVariables false
set_option linter.unusedSimpArgs false
attribute [local irreducible] setN

/-- The operations of a region, also of one inside a range over a function. -/
def opsOfR (n : Nat) : Code → Option (Array Oper)
  | .region k ops _ => if k = n then some ops else none
  | .seq a b => match opsOfR n a with
    | some x => some x
    | none => opsOfR n b
  | .cond _ a b => match opsOfR n a with
    | some x => some x
    | none => opsOfR n b
  | .block _ c => opsOfR n c
  | .loop c => opsOfR n c
  | .scope c => opsOfR n c
  | .rangeFunc _ _ a b => match opsOfR n a with
    | some x => some x
    | none => opsOfR n b
  | _ => none
def regionOfR (f : Func) (n : Nat) : Array Oper := (f.body.bind (opsOfR n)).getD #[]
theorem Tryz.infoEn : (Tryz.prog.info? 48).map (fun i => (i.zero, i.size)) = some (some (.agg #[.string ⟨#[]⟩, .int .i64 0, .int .i64 0, .int .i64 0, .bool false, .string ⟨#[]⟩, .slice none 0 0, .slice none 0 0, .int .u64 0]), 9) := by kernel_rfl
/-- All is as it was, but for some blocks. -/
structure Bt (S : Nat → Prop) (w w' : World) : Prop where
  os : w'.os = w.os
  tape : w'.tape = w.tape
  output : w'.output = w.output
  size : w.heap.size ≤ w'.heap.size
  block : ∀ b, b < w.heap.size → ¬ S b → w'.heap[b]? = w.heap[b]?
theorem Bt.trans {S : Nat → Prop} {a b c : World} (h1 : Bt S a b) (h2 : Bt S b c) : Bt S a c := ⟨h2.os.trans h1.os, h2.tape.trans h1.tape, h2.output.trans h1.output, Nat.le_trans h1.size h2.size, fun i hi hne => (h2.block i (Nat.lt_of_lt_of_le hi h1.size) hne).trans (h1.block i hi hne)⟩
theorem Bt.weak {S S' : Nat → Prop} {a b : World} (h1 : Bt S a b) (h : ∀ x, S x → S' x) : Bt S' a b := ⟨h1.os, h1.tape, h1.output, h1.size, fun i hi hne => h1.block i hi (fun e => hne (h i e))⟩
theorem Bt.grow {S : Nat → Prop} {a b : World} (h : Below a.heap.size a b) : Bt S a b := ⟨h.os, h.tape, h.output, h.size, fun i hi _ => h.block i hi⟩
theorem Bt.below {S : Nat → Prop} {B : Nat} {w w' : World} (h : Bt S w w') (hS : ∀ b, S b → B ≤ b) (hs : B ≤ w.heap.size) : Below B w w' := ⟨h.os, h.tape, h.output, h.size, fun b hb => h.block b (by omega) (fun e => by have := hS b e; omega)⟩
theorem Bt.cell {S : Nat → Prop} {w w' : World} (h : Bt S w w') {p : Addr} (hlt : p.block < w.heap.size) (hne : ¬ S p.block) : w'.cell? p = w.cell? p := World.cell?_of_block (w := w) (h.block p.block hlt hne)
theorem Bt.frozen {S : Nat → Prop} {w w' : World} (h : Bt S w w') {p : Addr} (hlt : p.block < w.heap.size) (hne : ¬ S p.block) : w'.frozen? p = w.frozen? p := World.frozen?_of_block (w := w) (h.block p.block hlt hne)
theorem Bt.cells {S : Nat → Prop} {w w' : World} {cs : List Value} {v : Value} (h : Bt S w w') (hc : isCells cs v w) (hne : cs = [] ∨ ∀ b, blk v = some b → ¬ S b) : isCells cs v w' := by
  rcases hc with hc | hc | ⟨b, off, cap, e, hlt, hc⟩
  · exact .inl hc
  · exact .inr (.inl hc)
  rcases hne with rfl | hne
  · exact .inr (.inl ⟨_, _, e, rfl⟩)
  · exact .inr (.inr ⟨b, off, cap, e, Nat.lt_of_lt_of_le hlt h.size, fun j x hx => (h.cell (p := ⟨b, off + j, none⟩) hlt (hne b (by rw [e]; rfl))).trans (hc j x hx)⟩)
theorem Bt.blk {S : Nat → Prop} {g : Nat} {w w' : World} {cs : List Value} (h : Bt S w w') (hb : Blk w g cs) (hne : ¬ S g) : Blk w' g cs :=
  ⟨⟨Nat.lt_of_lt_of_le hb.lt h.size, fun j x hx => (h.cell (p := ⟨g, j, none⟩) hb.lt hne).trans (hb.cells.2 j x hx)⟩, fun j => (h.frozen (p := ⟨g, j, none⟩) hb.lt hne).trans (hb.free j)⟩
theorem Bt.own {S : Nat → Prop} {B : Nat} {w w' : World} {e : TypeId} {size : Nat} {v : Value} {n : Nat} {xs : List Value} (h : Bt S w w') (ho : w.ownsRow B e size v n xs) (hne : ∀ g, v.ownBlock = some g → ¬ S g) : w'.ownsRow B e size v n xs := by
  obtain ⟨hl, h1 | ⟨g, cap, cur, hv, hB, hg, rest⟩⟩ := ho
  · exact ⟨hl, .inl h1⟩
  · exact ⟨hl, .inr ⟨g, cap, cur, hv, hB, (h.block g (Array.getElem?_eq_some_iff.1 hg).1 (hne g (by rw [hv]; rfl))).trans hg, rest⟩⟩
theorem bt_set {S : Nat → Prop} (g k : Nat) (v : Value) (w : World) (h : S g) : Bt S w (w.setCell ⟨g, k, none⟩ v) := ⟨rfl, rfl, rfl, by simp, fun b _ hne => Below.heap_setCell w ⟨g, k, none⟩ v b (by rintro rfl; exact hne h)⟩
theorem own_grow {W W' : World} {n₀ : Nat} {e : TypeId} {size : Nat} {v : Value} {k : Nat} {xs : List Value} (h : W.ownsRow n₀ e size v k xs) (hb : Below W.heap.size W W') : W'.ownsRow n₀ e size v k xs := by
  obtain ⟨hl, h | ⟨g, cap, cur, hv, hB, hg, rest⟩⟩ := h
  · exact ⟨hl, .inl h⟩
  · exact ⟨hl, .inr ⟨g, cap, cur, hv, hB, (hb.block g (Array.getElem?_eq_some_iff.1 hg).1).trans hg, rest⟩⟩
theorem own_one {B : Nat} {w : World} {e : TypeId} {size : Nat} {v : Value} {n : Nat} {xs : List Value} (h : w.ownsRow B e size v n xs) : v.cells = #[v] ∧ v.oneCell' = true := by
  obtain ⟨hl, ⟨rfl, _⟩ | ⟨g, cap, cur, rfl, _⟩⟩ := h
  · exact ⟨rfl, rfl⟩
  · exact ⟨rfl, rfl⟩
theorem own_blk_eq {v : Value} {b : Nat} (h : v.ownBlock = some b) : blk v = some b := by
  unfold Value.ownBlock at h
  unfold blk
  split at h
  · exact h
  · cases h
theorem own_set {B g k : Nat} {w : World} {e : TypeId} {size : Nat} {v u : Value} {n : Nat} {xs : List Value} (h : w.ownsRow B e size v n xs) (hne : v.ownBlock ≠ some g) : (w.setCell ⟨g, k, none⟩ u).ownsRow B e size v n xs :=
  (bt_set (S := fun b => b = g) g k u w rfl).own h (fun b hb e => hne (by rw [hb, e]))
theorem cells_set {cs : List Value} {v u : Value} {w : World} {g k : Nat} (h : isCells cs v w) (hne : cs = [] ∨ blk v ≠ some g) : isCells cs v (w.setCell ⟨g, k, none⟩ u) :=
  (bt_set (S := fun b => b = g) g k u w rfl).cells h (hne.imp id (fun h b hb e => h (by rw [hb, e])))
/-- But for one row. -/
abbrev GB (r : Option Nat) (w w' : World) : Prop := w.grownBy w' r
theorem gb_pre (r : Option Nat) : Pre (GB r) where
  refl w := ⟨rfl, rfl, rfl, Nat.le_refl _, fun _ _ _ => rfl⟩
  trans a b c h1 h2 := ⟨h2.os.trans h1.os, h2.tape.trans h1.tape, h2.output.trans h1.output, Nat.le_trans h1.size h2.size, fun i hi hne => (h2.block i (Nat.lt_of_lt_of_le hi h1.size) hne).trans (h1.block i hi hne)⟩
  grow w w' h := ⟨h.os, h.tape, h.output, h.size, fun b hb _ => h.block b hb⟩
  drew w := ⟨rfl, rfl, rfl, Nat.le_refl _, fun _ _ _ => rfl⟩
theorem gb_bt {r : Option Nat} {S : Nat → Prop} {w w' : World} (h : w.grownBy w' r) (hS : ∀ b, r = some b → S b) : Bt S w w' := ⟨h.os, h.tape, h.output, h.size, fun b hb hne => h.block b hb (fun e => hne (hS b e.symm))⟩
end Go.Proofs.YtkjghoomdefbbaaGreatDoor
namespace Go
open Go.RowKit Go.Proofs.YtkjghoomdefbbaaGreatDoor
set_option linter.unusedVariables false
set_option linter.unusedSimpArgs false
theorem World.grownBy.cell_ {r : Option Nat} {w w' : World} (h : w.grownBy w' r) {b k : Nat} {v : Value} (hc : w.cell? ⟨b, k, none⟩ = some v) (hlt : b < w.heap.size) (hne : r ≠ some b) : w'.cell? ⟨b, k, none⟩ = some v := (World.cell?_of_block (a := ⟨b, k, none⟩) (h.block b hlt (fun e => hne e.symm))).trans hc
theorem World.grownBy.frozen_ {r : Option Nat} {w w' : World} (h : w.grownBy w' r) {b k : Nat} (hlt : b < w.heap.size) (hne : r ≠ some b) : w'.frozen? ⟨b, k, none⟩ = w.frozen? ⟨b, k, none⟩ := World.frozen?_of_block (a := ⟨b, k, none⟩) (h.block b hlt (fun e => hne e.symm))
theorem World.grownBy.cells {r : Option Nat} {w w' : World} (h : w.grownBy w' r) {cs : List Value} {v : Value} (hc : isCells cs v w) (hne : cs = [] ∨ ∀ s, r = some s → blk v ≠ some s) : isCells cs v w' :=
  (gb_bt (S := fun b => r = some b) h (fun b e => e)).cells hc (hne.imp id (fun hh b hb e => hh b e hb))
end Go
namespace Go.Proofs.YtkjghoomdefbbaaGreatDoor
open Go.RowKit
set_option linter.unusedVariables false
set_option linter.unusedSimpArgs false
attribute [local irreducible] setN
theorem stable_enN (N : Nat) (E : En) : Stable (isEnN N E) := fun v w w' ⟨vp, vm, e, hp, hm, np, nm⟩ hb => ⟨vp, vm, e, stable_cells _ _ _ _ hp hb, stable_cells _ _ _ _ hm hb, np, nm⟩
theorem new_ne {N : Nat} {r : Option Nat} (hr : ∀ s, r = some s → s < N) {v : Value} (h : NewB N v) : ∀ s, r = some s → blk v ≠ some s := fun s e h2 => by have := h s h2; have := hr s e; omega
theorem enN_R {N : Nat} {r : Option Nat} (hr : ∀ s, r = some s → s < N) (E : En) : StableR (GB r) (isEnN N E) := fun v w w' ⟨vp, vm, e, hp, hm, np, nm⟩ hb => ⟨vp, vm, e, hb.cells hp (.inr (new_ne hr np)), hb.cells hm (.inr (new_ne hr nm)), np, nm⟩
theorem twin_at (N : Nat) (E : En) (v : Value) (w : World) (hv : isEn E v w) (hF : FitE E) (hN : N ≤ w.heap.size) : Calls Tryz.prog 75 #[v] w fun e w' => ∃ v', e = .returned v' ∧ isEnN N E v' w' ∧ Below w.heap.size w w' :=
  (twin_any E v w hv hF).mono (by rintro e w' ⟨v', rfl, ⟨vp, vm, e, hp, hm, np, nm⟩, hb⟩; exact ⟨v', rfl, ⟨vp, vm, e, hp, hm, np.low hN, nm.low hN⟩, hb⟩)
/-- A slice of just this entry, in a new block, with new rows. -/
def isEn1 (N : Nat) (E : En) : VP := fun v w => ∃ b vp vm, v = .slice (some ⟨b, 0, none⟩) 1 1 ∧ N ≤ b ∧ b < w.heap.size ∧ (∀ (j : Nat) (x : Value), (enL E vp vm)[j]? = some x → w.cell? ⟨b, j, none⟩ = some x) ∧ isCells (E.val.plus.map intC) vp w ∧ isCells (E.val.minus.map intC) vm w ∧ NewB N vp ∧ NewB N vm
theorem stable_en1 (N : Nat) (E : En) : Stable (isEn1 N E) := fun v w w' ⟨b, vp, vm, e, h1, h2, h3, hp, hm, np, nm⟩ hb => ⟨b, vp, vm, e, h1, Nat.lt_of_lt_of_le h2 hb.size, fun j x hx => (hb.cell (p := ⟨b, j, none⟩) h2).trans (h3 j x hx), stable_cells _ _ _ _ hp hb, stable_cells _ _ _ _ hm hb, np, nm⟩
theorem en1_R {N : Nat} {r : Option Nat} (hr : ∀ s, r = some s → s < N) (E : En) : StableR (GB r) (isEn1 N E) := fun v w w' ⟨b, vp, vm, e, h1, h2, h3, hp, hm, np, nm⟩ hb => ⟨b, vp, vm, e, h1, Nat.lt_of_lt_of_le h2 hb.size, fun j x hx => hb.cell_ (h3 j x hx) h2 (fun e => by have := hr b e; omega), hb.cells hp (.inr (new_ne hr np)), hb.cells hm (.inr (new_ne hr nm)), np, nm⟩
theorem ones_en {E : En} {vp vm : Value} (hp : vp.oneCell' = true) (hm : vm.oneCell' = true) : ∀ u ∈ enL E vp vm, u.oneCell' = true := by
  intro u hu
  simp only [enL, List.mem_cons, List.not_mem_nil, or_false] at hu
  rcases hu with rfl | rfl | rfl | rfl | rfl | rfl | rfl | rfl | rfl
  all_goals first | rfl | assumption
section
variable {ops : Array Oper} {base : World} {a0 : Act} {Q : Exit → Act → World → Prop} {kn : Nat → VP} {i : Nat} {V : VP}
theorem fill_en (E : En) (vp vm : Value) (z : Array Value) (hz : z.size = 9) : Instr.fill (fun i => some (i * 9, 9)) z [(0, .agg #[.string ⟨E.key.toArray⟩, .int .i64 E.val.kind, .int .i64 E.val.time, .int .i64 E.val.node, .bool E.val.dead, .string ⟨E.val.text.toArray⟩, vp, vm, .int .u64 (E.val.flags.toNat : Int)])] = some #[.string ⟨E.key.toArray⟩, .int .i64 E.val.kind, .int .i64 E.val.time, .int .i64 E.val.node, .bool E.val.dead, .string ⟨E.val.text.toArray⟩, vp, vm, .int .u64 (E.val.flags.toNat : Int)] := by
  obtain ⟨l⟩ := z
  match l, hz with
  | [_, _, _, _, _, _, _, _, _], _ => simp [Instr.fill, Value.cells]
theorem step_ent1 (N : Nat) (x : Operand) (E : En) (hop : (ops[i]?).map (·.op) = some (.buildSlice 22 1 #[(0, x)])) (hw : Wanted ops a0 kn i) (h0 : Knows ops a0 kn i x (isEnN N E)) (hN : N ≤ base.heap.size) : FStep Tryz.prog ops base a0 Q kn i (isEn1 N E) :=
  step_mk (stable_en1 _ _) hw fun o ho a w hk hb hd => by
    obtain ⟨vp, vm, e0, hp, hm, np, nm⟩ := h0 a w hk hd
    obtain ⟨ie, hie, hz, hsz⟩ : ∃ ie, Tryz.prog.info? 48 = some ie ∧ ie.zero = some (.agg #[.string ⟨#[]⟩, .int .i64 0, .int .i64 0, .int .i64 0, .bool false, .string ⟨#[]⟩, .slice none 0 0, .slice none 0 0, .int .u64 0]) ∧ ie.size = 9 := by
      have := Tryz.infoEn
      obtain ⟨ie, h1, h2⟩ := Option.map_eq_some_iff.1 this
      simp only [Prod.mk.injEq] at h2
      exact ⟨ie, h1, h2.1, h2.2⟩
    have hf : Instr.fill (fun i => some (i * ie.size, ie.size)) ((Array.range (1 * ie.size)).map ((Value.agg #[.string ⟨#[]⟩, .int .i64 0, .int .i64 0, .int .i64 0, .bool false, .string ⟨#[]⟩, .slice none 0 0, .slice none 0 0, .int .u64 0]).cells[· % (Value.agg #[.string ⟨#[]⟩, .int .i64 0, .int .i64 0, .int .i64 0, .bool false, .string ⟨#[]⟩, .slice none 0 0, .slice none 0 0, .int .u64 0]).cells.size]!)) ((#[(0, x)] : Array (Nat × Operand)).map fun (i, x) => (i, a.eval x)).toList = some #[.string ⟨E.key.toArray⟩, .int .i64 E.val.kind, .int .i64 E.val.time, .int .i64 E.val.node, .bool E.val.dead, .string ⟨E.val.text.toArray⟩, vp, vm, .int .u64 (E.val.flags.toNat : Int)] := by
      have e1 : ((#[(0, x)] : Array (Nat × Operand)).map fun (i, x) => (i, a.eval x)).toList = [(0, .agg #[.string ⟨E.key.toArray⟩, .int .i64 E.val.kind, .int .i64 E.val.time, .int .i64 E.val.node, .bool E.val.dead, .string ⟨E.val.text.toArray⟩, vp, vm, .int .u64 (E.val.flags.toNat : Int)])] := by simp [e0]
      rw [e1, hsz]
      exact fill_en E vp vm _ (by simp)
    refine wp_buildSlice 22 48 1 _ (op_of hop ho) _ ie (.agg #[.string ⟨#[]⟩, .int .i64 0, .int .i64 0, .int .i64 0, .bool false, .string ⟨#[]⟩, .slice none 0 0, .slice none 0 0, .int .u64 0]) Tryz.underlying22 hie hz (by rw [hsz]; omega) (by rw [hsz]; omega) hf ?_
    have hbl := lit_below w (.cells #[.string ⟨E.key.toArray⟩, .int .i64 E.val.kind, .int .i64 E.val.time, .int .i64 E.val.node, .bool E.val.dead, .string ⟨E.val.text.toArray⟩, vp, vm, .int .u64 (E.val.flags.toNat : Int)] 48)
    refine ⟨_, rfl, ⟨w.heap.size, vp, vm, rfl, Nat.le_trans hN hb.size, by simp, fun j v hv => ?_, stable_cells _ _ _ _ hp hbl, stable_cells _ _ _ _ hm hbl, np, nm⟩, hbl⟩
    rw [World.cell?_alloc_new]
    simpa [enL] using hv
/-- The row with one more. -/
def isApp (B N : Nat) (r : Option Nat) (E : En) (n : Nat) (xs : List Value) : VP := fun v w => ∃ vp vm, w.ownsRow B 48 9 v (n + 1) (xs ++ enL E vp vm) ∧ isCells (E.val.plus.map intC) vp w ∧ isCells (E.val.minus.map intC) vm w ∧ NewB N vp ∧ NewB N vm ∧ (v.ownBlock = r ∨ NewB N v) ∧ (∀ b, v.ownBlock = some b → (E.val.plus.map intC = [] ∨ blk vp ≠ some b) ∧ (E.val.minus.map intC = [] ∨ blk vm ≠ some b))
theorem cells_lt {cs : List Value} {v : Value} {w : World} (h : isCells cs v w) : cs = [] ∨ ∀ b, blk v = some b → b < w.heap.size := by
  rcases h with ⟨_, h⟩ | ⟨_, _, _, h⟩ | ⟨b, off, cap, e, hlt, hc⟩
  · exact .inl h
  · exact .inl h
  · exact .inr (fun b' hb => by rw [e] at hb; injection hb with hb; have : b = b' := hb; omega)
theorem ostep_app {k0 : Nat} {ups : List Nat} (B N : Nat) (r : Option Nat) (E : En) (vs : Value) (n : Nat) (xs : List Value) (x y : Operand) (hop : (ops[i]?).map (fun o => (o.op, o.guard)) = some (.call { callee := .builtin .append, args := #[x, y], argTypes := #[22, 22] }, none)) (hx : Knows ops a0 kn i x (isVal vs)) (hy : Knows ops a0 kn i y (isEn1 N E)) (hn : n ≤ 1000) (hB : B ≤ base.heap.size) (hre : vs.ownBlock = r) (hrN : ∀ s, r = some s → s < N) (hNb : N ≤ base.heap.size) (hdst : ((ops[i]?).bind (·.dst)).isSome = true) : OStep (GB r) i ups (fun w => w.ownsRow B 48 9 vs n xs) Tryz.prog ops base a0 Q k0 kn i (isApp B N r E n xs) := by
  refine ⟨⟨fun _ => ?_, fun h => absurd rfl h⟩, fun o ho a w hk0 hb h0 hd => ?_⟩
  · rintro v w w' ⟨vp, vm, h1, h2, h3, h4, h5, h6, h7⟩ hb
    exact ⟨vp, vm, own_grow h1 hb, stable_cells _ _ _ _ h2 hb, stable_cells _ _ _ _ h3 hb, h4, h5, h6, h7⟩
  · have hkf := hk0.f
    have hown := h0 (.inl rfl)
    rw [ho] at hop hdst
    simp only [Option.map_some, Option.some.injEq, Prod.mk.injEq] at hop
    obtain ⟨ho1, ho2⟩ := hop
    have hd' : FDeps ops kn i a w := fun o' ho' e he hbd => rdone_f (hd o' ho' e he hbd)
    have e1 : a.eval x = vs := hx a w hkf hd'
    obtain ⟨b, vp, vm, e2, hNb1, hblt, hcell, hp, hm, np, nm⟩ := hy a w hkf hd'
    obtain ⟨ie, hie, hz, hsz⟩ : ∃ ie, Tryz.prog.info? 48 = some ie ∧ ie.zero = some (.agg #[.string ⟨#[]⟩, .int .i64 0, .int .i64 0, .int .i64 0, .bool false, .string ⟨#[]⟩, .slice none 0 0, .slice none 0 0, .int .u64 0]) ∧ ie.size = 9 := by
      have := Tryz.infoEn
      obtain ⟨ie, h1, h2⟩ := Option.map_eq_some_iff.1 this
      simp only [Prod.mk.injEq] at h2
      exact ⟨ie, h1, h2.1, h2.2⟩
    have hbytes : ie.bytes ≤ 100000 := by
      have : (Tryz.prog.info? 48).all (fun i => decide (i.bytes ≤ 100000)) = true := by kernel_rfl
      rw [hie] at this
      simpa using this
    obtain ⟨v', w', hrun, how, hgr, _, hob⟩ := run_append_own_at (P := Tryz.prog) w B 22 o.type 48 ie (.agg #[.string ⟨#[]⟩, .int .i64 0, .int .i64 0, .int .i64 0, .bool false, .string ⟨#[]⟩, .slice none 0 0, .slice none 0 0, .int .u64 0]) 9 ie.bytes Tryz.underlying22 hie hz hsz rfl rfl (by decide) vs n xs hown ⟨b, 0, none⟩ 1 1 (enL E vp vm) rfl (fun j u hu => by
      have := hcell j u hu
      by_cases e0 : j = 0
      · subst e0; simpa [Addr.add] using this
      · simpa [Addr.add, e0] using this) (ones_en hp.one hm.one) (by unfold maxLen; omega) (by have : (n + 1) * ie.bytes ≤ 1001 * 100000 := Nat.mul_le_mul (by omega) hbytes; omega) (Nat.le_trans hB hb.size)
    rw [hre] at hgr hob
    unfold wpOp
    simp only [ho]
    rw [show Region.wanted o (yielded ops a.tmps) = true by simp [Region.wanted, ho2]]
    refine .inl ?_
    unfold Oper.wp execOp
    rw [ho1]
    simp only [resolve, Sem.run_bind, Sem.run_pure, Result.andThen_ok, invoke, builtin, List.map_toArray, List.map_cons, List.map_nil, e1, e2, hrun, Oper.upon]
    refine ⟨v', rfl, fun hn => by simp [hn] at hdst, ⟨vp, vm, how, hgr.cells hp (.inr (new_ne hrN np)), hgr.cells hm (.inr (new_ne hrN nm)), np, nm, ?_, ?_⟩, hgr, fun h => absurd rfl h⟩
    · rcases hob with h | h
      · exact .inl h
      · refine .inr (fun b' hb' => ?_)
        have : b' = w.heap.size := by
          have h2 := own_blk_eq h
          rw [hb'] at h2
          injection h2
        have := hb.size
        omega
    · intro b' hb'
      rcases hob with h | h
      · rw [h] at hb'
        exact ⟨.inr (new_ne hrN np b' hb'), .inr (new_ne hrN nm b' hb')⟩
      · rw [h] at hb'
        injection hb' with hb'
        refine ⟨(cells_lt hp).imp id (fun h3 e => ?_), (cells_lt hm).imp id (fun h3 e => ?_)⟩
        · have := h3 _ e; omega
        · have := h3 _ e; omega
end
noncomputable def chappOps : Array Oper := regionOfR Tryz.f47 5
set_option maxRecDepth 100000 in
set_option maxHeartbeats 2000000 in
theorem chapp_region (Q : Exit → Act → World → Prop) (a0 : Act) (w0 : World) (hsz : a0.tmps.size = 36) (g h B n : Nat) (l : List Value) (E : En) (vs ep em : Value) (xs : List Value) (e1 : a0.tmps.getD 3 undef = .pointer (some ⟨g, 0, none⟩)) (e2 : a0.tmps.getD 5 undef = .pointer (some ⟨h, 0, none⟩))
    (HG : Blk w0 g l) (hl : l[1]? = some vs) (hE : Blk w0 h [.string ⟨E.key.toArray⟩, .int .i64 E.val.kind, .int .i64 E.val.time, .int .i64 E.val.node, .bool E.val.dead, .string ⟨E.val.text.toArray⟩, ep, em, .int .u64 (E.val.flags.toNat : Int)]) (hp : isCells (E.val.plus.map intC) ep w0) (hm : isCells (E.val.minus.map intC) em w0) (hF : FitE E) (hown : w0.ownsRow B 48 9 vs n xs) (hn : n ≤ 1000) (hB : B ≤ w0.heap.size)
    (hap : ∀ s, vs.ownBlock = some s → s ≠ g ∧ s ≠ h ∧ (E.val.plus.map intC = [] ∨ blk ep ≠ some s) ∧ (E.val.minus.map intC = [] ∨ blk em ≠ some s))
    (hQ : ∀ (y : Nat → Value) (v vp vm : Value) (w : World), w.ownsRow B 48 9 v (n + 1) (xs ++ enL E vp vm) → isCells (E.val.plus.map intC) vp w → isCells (E.val.minus.map intC) vm w → NewB w0.heap.size vp → NewB w0.heap.size vm → (v.ownBlock = vs.ownBlock ∨ NewB w0.heap.size v) → (∀ b, v.ownBlock = some b → (E.val.plus.map intC = [] ∨ blk vp ≠ some b) ∧ (E.val.minus.map intC = [] ∨ blk vm ≠ some b)) → Blk w g (l.set 1 v) → Bt (fun b => b = g ∨ vs.ownBlock = some b) w0 w →
      Q .normal { tmps := [21, 22, 23, 24, 25, 26, 27, 28, 29, 30, 31, 32, 33].foldl (fun t s => t.setIfInBounds s (y s)) a0.tmps, defers := a0.defers } w) :
    (Code.region 5 chappOps true).wp Tryz.prog Q a0 w0 := by
  obtain ⟨r, hr0⟩ : ∃ r, vs.ownBlock = r := ⟨_, rfl⟩
  have hcell : w0.cell? ⟨g, 1, none⟩ = some vs := HG.cells.2 _ _ hl
  have hg := HG.lt
  have hgr : r ≠ some g := by intro e; exact (hap g (hr0.trans e)).1 rfl
  have hhr : r ≠ some h := by intro e; exact (hap h (hr0.trans e)).2.1 rfl
  have opr : E.val.plus.map intC = [] ∨ ∀ s, r = some s → blk ep ≠ some s := by
    cases r with
    | none => exact .inr (fun s e => by cases e)
    | some s => exact (hap s hr0).2.2.1.imp id (fun h s' e => by cases e; exact h)
  have omr : E.val.minus.map intC = [] ∨ ∀ s, r = some s → blk em ≠ some s := by
    cases r with
    | none => exact .inr (fun s e => by cases e)
    | some s => exact (hap s hr0).2.2.2.imp id (fun h s' e => by cases e; exact h)
  have hre : vs.ownBlock = r := hr0
  have hrN : ∀ s, r = some s → s < w0.heap.size := fun s e => (hown.lt s (hr0.trans e)).2
  have hR := gb_pre r
  refine wp_region_one hR 9 [] (fun w => w.ownsRow B 48 9 vs n xs) (by kernel_rfl) (fun _ _ h hb => own_grow h hb) (fun _ h => own_grow h ((Below.refl _ _).drew)) 13 mixed (by rw [hsz]; kernel_rfl) (by kernel_rfl) hown ?_
  rw [show chappOps.size - 13 = 1 by kernel_rfl]
  refine ⟨isVal (.pointer (some ⟨g, 0, none⟩)), OStep.of hR (by decide) (stabR_val' _ _) (by kernel_rfl) (by intro w hr; exact step_move (.tmp 3) (by kernel_rfl) (wanted_none (by kernel_rfl)) (stable_val _) (knows_old 3 (.pointer (some ⟨g, 0, none⟩)) (by kernel_rfl) e1)), ?_⟩
  refine ⟨isVal (.pointer (some ⟨g, 0, none⟩)), OStep.of hR (by decide) (stabR_val' _ _) (by kernel_rfl) (by intro w hr; exact step_move (.tmp 3) (by kernel_rfl) (wanted_none (by kernel_rfl)) (stable_val _) (knows_old 3 (.pointer (some ⟨g, 0, none⟩)) (by kernel_rfl) e1)), ?_⟩
  refine ⟨isVal (.pointer (some ⟨g, 0, none⟩)), OStep.of hR (by decide) (stabR_val' _ _) (by kernel_rfl) (by intro w hr; exact step_nilA (.tmp 22) ⟨g, 0, none⟩ (by kernel_rfl) (wanted_none (by kernel_rfl)) (knows_new (V := isVal (.pointer (some ⟨g, 0, none⟩))) 22 1 (by kernel_rfl) (by kernel_rfl) (by kernel_rfl))), ?_⟩
  refine ⟨isVal (.pointer (some ⟨g, 0, none⟩)), OStep.of hR (by decide) (stabR_val' _ _) (by kernel_rfl) (by intro w hr; exact step_field 78 (.tmp 23) 0 ⟨g, 0, none⟩ ⟨g, 0, none⟩ (by kernel_rfl) (wanted_none (by kernel_rfl)) (knows_new (V := isVal (.pointer (some ⟨g, 0, none⟩))) 23 2 (by kernel_rfl) (by kernel_rfl) (by kernel_rfl)) (f_ch_0_0 (g))), ?_⟩
  refine ⟨isVal (.pointer (some ⟨g, 1, none⟩)), OStep.of hR (by decide) (stabR_val' _ _) (by kernel_rfl) (by intro w hr; exact step_field 25 (.tmp 24) 1 ⟨g, 0, none⟩ ⟨g, 1, none⟩ (by kernel_rfl) (wanted_none (by kernel_rfl)) (knows_new (V := isVal (.pointer (some ⟨g, 0, none⟩))) 24 3 (by kernel_rfl) (by kernel_rfl) (by kernel_rfl)) (f_ar_0_1 (g))), ?_⟩
  refine ⟨isVal vs, OStep.of hR (by decide) (stabR_val' _ _) (by kernel_rfl) (by intro w hr; exact step_read 22 (.tmp 25) ⟨g, 1, none⟩ vs (by kernel_rfl) (wanted_none (by kernel_rfl)) (knows_new (V := isVal (.pointer (some ⟨g, 1, none⟩))) 25 4 (by kernel_rfl) (by kernel_rfl) (by kernel_rfl)) ((hr.cell_ hcell hg hgr)) ((Nat.lt_of_lt_of_le hg hr.size)) (agg_noS)), ?_⟩
  refine ⟨isVal (.agg #[.string ⟨E.key.toArray⟩, .int .i64 E.val.kind, .int .i64 E.val.time, .int .i64 E.val.node, .bool E.val.dead, .string ⟨E.val.text.toArray⟩, ep, em, .int .u64 (E.val.flags.toNat : Int)]), OStep.of hR (by decide) (stabR_val' _ _) (by kernel_rfl) (by intro w hr; exact step_loadA 48 (.tmp 5) (h) (0) [.string ⟨E.key.toArray⟩, .int .i64 E.val.kind, .int .i64 E.val.time, .int .i64 E.val.node, .bool E.val.dead, .string ⟨E.val.text.toArray⟩, ep, em, .int .u64 (E.val.flags.toNat : Int)] (by kernel_rfl) (wanted_none (by kernel_rfl)) (knows_old 5 (.pointer (some ⟨h, 0, none⟩)) (by kernel_rfl) e2) size_en agg_en (⟨Nat.lt_of_lt_of_le hE.lt hr.size, fun j x hx => by rw [Nat.zero_add]; exact hr.cell_ (hE.cells.2 j x hx) hE.lt hhr⟩)), ?_⟩
  refine ⟨(isEnN w0.heap.size E), OStep.of hR (by decide) (enN_R hrN _) (by kernel_rfl) (by intro w hr; exact step_call 75 #[.tmp 27] #[48] #[.agg #[.string ⟨E.key.toArray⟩, .int .i64 E.val.kind, .int .i64 E.val.time, .int .i64 E.val.node, .bool E.val.dead, .string ⟨E.val.text.toArray⟩, ep, em, .int .u64 (E.val.flags.toNat : Int)]] (by kernel_rfl) (wanted_none (by kernel_rfl)) (stable_enN _ _) (args1 (.tmp 27) (.agg #[.string ⟨E.key.toArray⟩, .int .i64 E.val.kind, .int .i64 E.val.time, .int .i64 E.val.node, .bool E.val.dead, .string ⟨E.val.text.toArray⟩, ep, em, .int .u64 (E.val.flags.toNat : Int)]) (knows_new (V := isVal (.agg #[.string ⟨E.key.toArray⟩, .int .i64 E.val.kind, .int .i64 E.val.time, .int .i64 E.val.node, .bool E.val.dead, .string ⟨E.val.text.toArray⟩, ep, em, .int .u64 (E.val.flags.toNat : Int)])) 27 6 (by kernel_rfl) (by kernel_rfl) (by kernel_rfl))) (enters_of Tryz.func75 (by kernel_rfl) rfl) (by intro w' hb; exact twin_at w0.heap.size E _ w' (en_mk (hr.cells hp opr) (hr.cells hm omr) hb) hF (Nat.le_trans hr.size hb.size))), ?_⟩
  refine ⟨(isEn1 w0.heap.size E), OStep.of hR (by decide) (en1_R hrN _) (by kernel_rfl) (by intro w hr; exact step_ent1 w0.heap.size (.tmp 28) E (by kernel_rfl) (wanted_none (by kernel_rfl)) (knows_new (V := (isEnN w0.heap.size E)) 28 7 (by kernel_rfl) (by kernel_rfl) (by kernel_rfl)) (hr.size)), ?_⟩
  refine ⟨isApp B w0.heap.size r E n xs, ostep_app B w0.heap.size r E vs n xs (.tmp 26) (.tmp 29) (by kernel_rfl) (knows_new (V := isVal vs) 26 5 (by kernel_rfl) (by kernel_rfl) (by kernel_rfl)) (knows_new (V := (isEn1 w0.heap.size E)) 29 8 (by kernel_rfl) (by kernel_rfl) (by kernel_rfl)) hn hB hre hrN (Nat.le_refl _) (by kernel_rfl), ?_⟩
  refine ⟨isVal (.pointer (some ⟨g, 0, none⟩)), OStep.of hR (by decide) (stabR_val' _ _) (by kernel_rfl) (by intro w hr; exact step_nilA (.tmp 21) ⟨g, 0, none⟩ (by kernel_rfl) (wanted_none (by kernel_rfl)) (knows_new (V := isVal (.pointer (some ⟨g, 0, none⟩))) 21 0 (by kernel_rfl) (by kernel_rfl) (by kernel_rfl))), ?_⟩
  refine ⟨isVal (.pointer (some ⟨g, 0, none⟩)), OStep.of hR (by decide) (stabR_val' _ _) (by kernel_rfl) (by intro w hr; exact step_field 78 (.tmp 31) 0 ⟨g, 0, none⟩ ⟨g, 0, none⟩ (by kernel_rfl) (wanted_none (by kernel_rfl)) (knows_new (V := isVal (.pointer (some ⟨g, 0, none⟩))) 31 10 (by kernel_rfl) (by kernel_rfl) (by kernel_rfl)) (f_ch_0_0 (g))), ?_⟩
  refine ⟨isVal (.pointer (some ⟨g, 1, none⟩)), OStep.of hR (by decide) (stabR_val' _ _) (by kernel_rfl) (by intro w hr; exact step_field 25 (.tmp 32) 1 ⟨g, 0, none⟩ ⟨g, 1, none⟩ (by kernel_rfl) (wanted_none (by kernel_rfl)) (knows_new (V := isVal (.pointer (some ⟨g, 0, none⟩))) 32 11 (by kernel_rfl) (by kernel_rfl) (by kernel_rfl)) (f_ar_0_1 (g))), ?_⟩
  intro a w hk0 hb hd
  have da := fdone_of (rdone_f (hd 9 (by decide))) (t := 30) (V := isApp B w0.heap.size r E n xs) (by kernel_rfl) (by kernel_rfl)
  have dp := fdone_of (rdone_f (hd 12 (by decide))) (t := 33) (V := isVal (.pointer (some ⟨g, 1, none⟩))) (by kernel_rfl) (by kernel_rfl)
  generalize hv : a.tmps.getD 30 undef = v at da
  obtain ⟨vp, vm, h1, h2, h3, h4, h5, h6, h7⟩ := da
  have hgw : g < w.heap.size := Nat.lt_of_lt_of_le hg hb.size
  have hvg : v.ownBlock ≠ some g := by
    rcases h6 with h6 | h6
    · rw [h6]; exact hgr
    · intro e; have := h6 g (own_blk_eq e); omega
  have ng : ∀ {cs : List Value} {u : Value}, NewB w0.heap.size u → cs = [] ∨ blk u ≠ some g := fun h => .inr (h.ne hg)
  have HG' : Blk w g l := ⟨⟨hgw, fun j x hx => hb.cell_ (HG.cells.2 j x hx) hg hgr⟩, fun j => (hb.frozen_ hg hgr).trans (HG.free j)⟩
  refine tail_store 22 (.tmp 33) (.tmp 30) ⟨g, 1, none⟩ v vs (by kernel_rfl) (by kernel_rfl) dp hv (by kernel_rfl) (own_one h1).1 (own_one h1).2 (HG'.cells.2 _ _ hl) (HG'.free 1) ?_
  obtain ⟨y, ey⟩ := kept_ex hk0.f [some 21, some 22, some 23, some 24, some 25, some 26, some 27, some 28, some 29, some 30, some 31, some 32, some 33, none] [21, 22, 23, 24, 25, 26, 27, 28, 29, 30, 31, 32, 33] (by kernel_rfl) (by decide)
  rw [ey]
  have hll : 1 < l.length := (List.getElem?_eq_some_iff.1 hl).1
  exact hQ y v vp vm _ (own_set h1 hvg) (cells_set h2 (ng h4)) (cells_set h3 (ng h5)) h4 h5 (h6.imp (fun e => e.trans hr0.symm) id) h7 (HG'.set 1 v hll) ((gb_bt hb (fun b e => .inr (hr0.trans e))).trans (bt_set g 1 v w (.inl rfl)))
noncomputable def jnappOps : Array Oper := regionOfR Tryz.f48 9
set_option maxRecDepth 100000 in
set_option maxHeartbeats 2000000 in
theorem jnapp_region (Q : Exit → Act → World → Prop) (a0 : Act) (w0 : World) (hsz : a0.tmps.size = 83) (g h B n : Nat) (l : List Value) (E : En) (vs ep em : Value) (xs : List Value) (e1 : a0.tmps.getD 0 undef = .pointer (some ⟨g, 0, none⟩)) (e2 : a0.tmps.getD 3 undef = .pointer (some ⟨h, 0, none⟩))
    (HG : Blk w0 g l) (hl : l[1]? = some vs) (hE : Blk w0 h [.string ⟨E.key.toArray⟩, .int .i64 E.val.kind, .int .i64 E.val.time, .int .i64 E.val.node, .bool E.val.dead, .string ⟨E.val.text.toArray⟩, ep, em, .int .u64 (E.val.flags.toNat : Int)]) (hp : isCells (E.val.plus.map intC) ep w0) (hm : isCells (E.val.minus.map intC) em w0) (hF : FitE E) (hown : w0.ownsRow B 48 9 vs n xs) (hn : n ≤ 1000) (hB : B ≤ w0.heap.size)
    (hap : ∀ s, vs.ownBlock = some s → s ≠ g ∧ s ≠ h ∧ (E.val.plus.map intC = [] ∨ blk ep ≠ some s) ∧ (E.val.minus.map intC = [] ∨ blk em ≠ some s))
    (hQ : ∀ (y : Nat → Value) (v vp vm : Value) (w : World), w.ownsRow B 48 9 v (n + 1) (xs ++ enL E vp vm) → isCells (E.val.plus.map intC) vp w → isCells (E.val.minus.map intC) vm w → NewB w0.heap.size vp → NewB w0.heap.size vm → (v.ownBlock = vs.ownBlock ∨ NewB w0.heap.size v) → (∀ b, v.ownBlock = some b → (E.val.plus.map intC = [] ∨ blk vp ≠ some b) ∧ (E.val.minus.map intC = [] ∨ blk vm ≠ some b)) → Blk w g (l.set 1 v) → Bt (fun b => b = g ∨ vs.ownBlock = some b) w0 w →
      Q .normal { tmps := [70, 71, 72, 73, 74, 75, 76, 77, 78, 79, 80, 81, 82].foldl (fun t s => t.setIfInBounds s (y s)) a0.tmps, defers := a0.defers } w) :
    (Code.region 9 jnappOps true).wp Tryz.prog Q a0 w0 := by
  obtain ⟨r, hr0⟩ : ∃ r, vs.ownBlock = r := ⟨_, rfl⟩
  have hcell : w0.cell? ⟨g, 1, none⟩ = some vs := HG.cells.2 _ _ hl
  have hg := HG.lt
  have hgr : r ≠ some g := by intro e; exact (hap g (hr0.trans e)).1 rfl
  have hhr : r ≠ some h := by intro e; exact (hap h (hr0.trans e)).2.1 rfl
  have opr : E.val.plus.map intC = [] ∨ ∀ s, r = some s → blk ep ≠ some s := by
    cases r with
    | none => exact .inr (fun s e => by cases e)
    | some s => exact (hap s hr0).2.2.1.imp id (fun h s' e => by cases e; exact h)
  have omr : E.val.minus.map intC = [] ∨ ∀ s, r = some s → blk em ≠ some s := by
    cases r with
    | none => exact .inr (fun s e => by cases e)
    | some s => exact (hap s hr0).2.2.2.imp id (fun h s' e => by cases e; exact h)
  have hre : vs.ownBlock = r := hr0
  have hrN : ∀ s, r = some s → s < w0.heap.size := fun s e => (hown.lt s (hr0.trans e)).2
  have hR := gb_pre r
  refine wp_region_one hR 9 [] (fun w => w.ownsRow B 48 9 vs n xs) (by kernel_rfl) (fun _ _ h hb => own_grow h hb) (fun _ h => own_grow h ((Below.refl _ _).drew)) 13 mixed (by rw [hsz]; kernel_rfl) (by kernel_rfl) hown ?_
  rw [show jnappOps.size - 13 = 1 by kernel_rfl]
  refine ⟨isVal (.pointer (some ⟨g, 0, none⟩)), OStep.of hR (by decide) (stabR_val' _ _) (by kernel_rfl) (by intro w hr; exact step_move (.tmp 0) (by kernel_rfl) (wanted_none (by kernel_rfl)) (stable_val _) (knows_old 0 (.pointer (some ⟨g, 0, none⟩)) (by kernel_rfl) e1)), ?_⟩
  refine ⟨isVal (.pointer (some ⟨g, 0, none⟩)), OStep.of hR (by decide) (stabR_val' _ _) (by kernel_rfl) (by intro w hr; exact step_move (.tmp 0) (by kernel_rfl) (wanted_none (by kernel_rfl)) (stable_val _) (knows_old 0 (.pointer (some ⟨g, 0, none⟩)) (by kernel_rfl) e1)), ?_⟩
  refine ⟨isVal (.pointer (some ⟨g, 0, none⟩)), OStep.of hR (by decide) (stabR_val' _ _) (by kernel_rfl) (by intro w hr; exact step_nilA (.tmp 71) ⟨g, 0, none⟩ (by kernel_rfl) (wanted_none (by kernel_rfl)) (knows_new (V := isVal (.pointer (some ⟨g, 0, none⟩))) 71 1 (by kernel_rfl) (by kernel_rfl) (by kernel_rfl))), ?_⟩
  refine ⟨isVal (.pointer (some ⟨g, 0, none⟩)), OStep.of hR (by decide) (stabR_val' _ _) (by kernel_rfl) (by intro w hr; exact step_field 78 (.tmp 72) 0 ⟨g, 0, none⟩ ⟨g, 0, none⟩ (by kernel_rfl) (wanted_none (by kernel_rfl)) (knows_new (V := isVal (.pointer (some ⟨g, 0, none⟩))) 72 2 (by kernel_rfl) (by kernel_rfl) (by kernel_rfl)) (f_ch_0_0 (g))), ?_⟩
  refine ⟨isVal (.pointer (some ⟨g, 1, none⟩)), OStep.of hR (by decide) (stabR_val' _ _) (by kernel_rfl) (by intro w hr; exact step_field 25 (.tmp 73) 1 ⟨g, 0, none⟩ ⟨g, 1, none⟩ (by kernel_rfl) (wanted_none (by kernel_rfl)) (knows_new (V := isVal (.pointer (some ⟨g, 0, none⟩))) 73 3 (by kernel_rfl) (by kernel_rfl) (by kernel_rfl)) (f_ar_0_1 (g))), ?_⟩
  refine ⟨isVal vs, OStep.of hR (by decide) (stabR_val' _ _) (by kernel_rfl) (by intro w hr; exact step_read 22 (.tmp 74) ⟨g, 1, none⟩ vs (by kernel_rfl) (wanted_none (by kernel_rfl)) (knows_new (V := isVal (.pointer (some ⟨g, 1, none⟩))) 74 4 (by kernel_rfl) (by kernel_rfl) (by kernel_rfl)) ((hr.cell_ hcell hg hgr)) ((Nat.lt_of_lt_of_le hg hr.size)) (agg_noS)), ?_⟩
  refine ⟨isVal (.agg #[.string ⟨E.key.toArray⟩, .int .i64 E.val.kind, .int .i64 E.val.time, .int .i64 E.val.node, .bool E.val.dead, .string ⟨E.val.text.toArray⟩, ep, em, .int .u64 (E.val.flags.toNat : Int)]), OStep.of hR (by decide) (stabR_val' _ _) (by kernel_rfl) (by intro w hr; exact step_loadA 48 (.tmp 3) (h) (0) [.string ⟨E.key.toArray⟩, .int .i64 E.val.kind, .int .i64 E.val.time, .int .i64 E.val.node, .bool E.val.dead, .string ⟨E.val.text.toArray⟩, ep, em, .int .u64 (E.val.flags.toNat : Int)] (by kernel_rfl) (wanted_none (by kernel_rfl)) (knows_old 3 (.pointer (some ⟨h, 0, none⟩)) (by kernel_rfl) e2) size_en agg_en (⟨Nat.lt_of_lt_of_le hE.lt hr.size, fun j x hx => by rw [Nat.zero_add]; exact hr.cell_ (hE.cells.2 j x hx) hE.lt hhr⟩)), ?_⟩
  refine ⟨(isEnN w0.heap.size E), OStep.of hR (by decide) (enN_R hrN _) (by kernel_rfl) (by intro w hr; exact step_call 75 #[.tmp 76] #[48] #[.agg #[.string ⟨E.key.toArray⟩, .int .i64 E.val.kind, .int .i64 E.val.time, .int .i64 E.val.node, .bool E.val.dead, .string ⟨E.val.text.toArray⟩, ep, em, .int .u64 (E.val.flags.toNat : Int)]] (by kernel_rfl) (wanted_none (by kernel_rfl)) (stable_enN _ _) (args1 (.tmp 76) (.agg #[.string ⟨E.key.toArray⟩, .int .i64 E.val.kind, .int .i64 E.val.time, .int .i64 E.val.node, .bool E.val.dead, .string ⟨E.val.text.toArray⟩, ep, em, .int .u64 (E.val.flags.toNat : Int)]) (knows_new (V := isVal (.agg #[.string ⟨E.key.toArray⟩, .int .i64 E.val.kind, .int .i64 E.val.time, .int .i64 E.val.node, .bool E.val.dead, .string ⟨E.val.text.toArray⟩, ep, em, .int .u64 (E.val.flags.toNat : Int)])) 76 6 (by kernel_rfl) (by kernel_rfl) (by kernel_rfl))) (enters_of Tryz.func75 (by kernel_rfl) rfl) (by intro w' hb; exact twin_at w0.heap.size E _ w' (en_mk (hr.cells hp opr) (hr.cells hm omr) hb) hF (Nat.le_trans hr.size hb.size))), ?_⟩
  refine ⟨(isEn1 w0.heap.size E), OStep.of hR (by decide) (en1_R hrN _) (by kernel_rfl) (by intro w hr; exact step_ent1 w0.heap.size (.tmp 77) E (by kernel_rfl) (wanted_none (by kernel_rfl)) (knows_new (V := (isEnN w0.heap.size E)) 77 7 (by kernel_rfl) (by kernel_rfl) (by kernel_rfl)) (hr.size)), ?_⟩
  refine ⟨isApp B w0.heap.size r E n xs, ostep_app B w0.heap.size r E vs n xs (.tmp 75) (.tmp 78) (by kernel_rfl) (knows_new (V := isVal vs) 75 5 (by kernel_rfl) (by kernel_rfl) (by kernel_rfl)) (knows_new (V := (isEn1 w0.heap.size E)) 78 8 (by kernel_rfl) (by kernel_rfl) (by kernel_rfl)) hn hB hre hrN (Nat.le_refl _) (by kernel_rfl), ?_⟩
  refine ⟨isVal (.pointer (some ⟨g, 0, none⟩)), OStep.of hR (by decide) (stabR_val' _ _) (by kernel_rfl) (by intro w hr; exact step_nilA (.tmp 70) ⟨g, 0, none⟩ (by kernel_rfl) (wanted_none (by kernel_rfl)) (knows_new (V := isVal (.pointer (some ⟨g, 0, none⟩))) 70 0 (by kernel_rfl) (by kernel_rfl) (by kernel_rfl))), ?_⟩
  refine ⟨isVal (.pointer (some ⟨g, 0, none⟩)), OStep.of hR (by decide) (stabR_val' _ _) (by kernel_rfl) (by intro w hr; exact step_field 78 (.tmp 80) 0 ⟨g, 0, none⟩ ⟨g, 0, none⟩ (by kernel_rfl) (wanted_none (by kernel_rfl)) (knows_new (V := isVal (.pointer (some ⟨g, 0, none⟩))) 80 10 (by kernel_rfl) (by kernel_rfl) (by kernel_rfl)) (f_ch_0_0 (g))), ?_⟩
  refine ⟨isVal (.pointer (some ⟨g, 1, none⟩)), OStep.of hR (by decide) (stabR_val' _ _) (by kernel_rfl) (by intro w hr; exact step_field 25 (.tmp 81) 1 ⟨g, 0, none⟩ ⟨g, 1, none⟩ (by kernel_rfl) (wanted_none (by kernel_rfl)) (knows_new (V := isVal (.pointer (some ⟨g, 0, none⟩))) 81 11 (by kernel_rfl) (by kernel_rfl) (by kernel_rfl)) (f_ar_0_1 (g))), ?_⟩
  intro a w hk0 hb hd
  have da := fdone_of (rdone_f (hd 9 (by decide))) (t := 79) (V := isApp B w0.heap.size r E n xs) (by kernel_rfl) (by kernel_rfl)
  have dp := fdone_of (rdone_f (hd 12 (by decide))) (t := 82) (V := isVal (.pointer (some ⟨g, 1, none⟩))) (by kernel_rfl) (by kernel_rfl)
  generalize hv : a.tmps.getD 79 undef = v at da
  obtain ⟨vp, vm, h1, h2, h3, h4, h5, h6, h7⟩ := da
  have hgw : g < w.heap.size := Nat.lt_of_lt_of_le hg hb.size
  have hvg : v.ownBlock ≠ some g := by
    rcases h6 with h6 | h6
    · rw [h6]; exact hgr
    · intro e; have := h6 g (own_blk_eq e); omega
  have ng : ∀ {cs : List Value} {u : Value}, NewB w0.heap.size u → cs = [] ∨ blk u ≠ some g := fun h => .inr (h.ne hg)
  have HG' : Blk w g l := ⟨⟨hgw, fun j x hx => hb.cell_ (HG.cells.2 j x hx) hg hgr⟩, fun j => (hb.frozen_ hg hgr).trans (HG.free j)⟩
  refine tail_store 22 (.tmp 82) (.tmp 79) ⟨g, 1, none⟩ v vs (by kernel_rfl) (by kernel_rfl) dp hv (by kernel_rfl) (own_one h1).1 (own_one h1).2 (HG'.cells.2 _ _ hl) (HG'.free 1) ?_
  obtain ⟨y, ey⟩ := kept_ex hk0.f [some 70, some 71, some 72, some 73, some 74, some 75, some 76, some 77, some 78, some 79, some 80, some 81, some 82, none] [70, 71, 72, 73, 74, 75, 76, 77, 78, 79, 80, 81, 82] (by kernel_rfl) (by decide)
  rw [ey]
  have hll : 1 < l.length := (List.getElem?_eq_some_iff.1 hl).1
  exact hQ y v vp vm _ (own_set h1 hvg) (cells_set h2 (ng h4)) (cells_set h3 (ng h5)) h4 h5 (h6.imp (fun e => e.trans hr0.symm) id) h7 (HG'.set 1 v hll) ((gb_bt hb (fun b e => .inr (hr0.trans e))).trans (bt_set g 1 v w (.inl rfl)))
end Go.Proofs.YtkjghoomdefbbaaGreatDoor
end
section
namespace Go.Proofs.YtkjghoomdefbbaaGreatDoor
open Go.RowKit
set_option linter.unusedVariables false
set_option linter.unusedSimpArgs false
attribute [local irreducible] setN

/-- The first k places are as they should be. -/
def IdxTo (l : List En) (idx : List Int) (k : Nat) : Prop := ∀ i p, i < k → idx[i]? = some p → (0 ≤ p ∧ p < l.length) ∧ ∀ j q, i = j + 1 → idx[j]? = some q → lessE (slotAt l q) (slotAt l p) = true
theorem idxTo_succ {l : List En} {idx : List Int} {k : Nat} (h : IdxTo l idx k) {p : Int} (hp : idx[k]? = some p) (hr : 0 ≤ p ∧ p < l.length) (hl : ∀ j q, k = j + 1 → idx[j]? = some q → lessE (slotAt l q) (slotAt l p) = true) : IdxTo l idx (k + 1) := by
  intro i p' hi hp'
  by_cases e : i = k
  · subst e; rw [hp] at hp'; injection hp' with hp'; subst hp'; exact ⟨hr, hl⟩
  · exact h i p' (by omega) hp'
theorem idxTo_asc {l : List En} {idx : List Int} (h : IdxTo l idx idx.length) : Asc (idx.map (slotAt l)) := by
  unfold Asc
  rw [List.pairwise_iff_getElem]
  have key : ∀ d i (h1 : i + d + 1 < idx.length), lessE (slotAt l (idx[i]'(by omega))) (slotAt l (idx[i + d + 1]'h1)) = true := by
    intro d
    induction d with
    | zero => intro i h1; exact (h (i + 1) _ h1 (List.getElem?_eq_getElem h1)).2 i _ rfl (List.getElem?_eq_getElem (by omega))
    | succ d ih =>
      intro i h1
      have a := ih i (by omega)
      have b := (h (i + (d + 1) + 1) _ h1 (List.getElem?_eq_getElem h1)).2 (i + d + 1) _ (by omega) (List.getElem?_eq_getElem (by omega))
      exact lessE_trans _ _ _ a b
  intro i j hi hj hij
  simp only [List.getElem_map]
  have := key (j - i - 1) i (by simp at hj; omega)
  have e : i + (j - i - 1) + 1 = j := by omega
  simp only [e] at this
  exact this
theorem idxB_true {l : List En} {idx : List Int} (hl : idx.length = l.length) (h : IdxTo l idx idx.length) : idxB l idx = true := by
  unfold idxB
  simp only [Bool.and_eq_true, decide_eq_true_eq, List.all_eq_true]
  refine ⟨hl, fun p hp => ?_, idxTo_asc h⟩
  obtain ⟨i, hi⟩ := List.getElem?_of_mem hp
  exact (h i p (List.getElem?_eq_some_iff.1 hi).1 hi).1
theorem idxB_len {l : List En} {idx : List Int} (hl : idx.length ≠ l.length) : idxB l idx = false := by unfold idxB; simp [hl]
theorem idxB_rng {l : List En} {idx : List Int} {p : Int} (hp : p ∈ idx) (h : p < 0 ∨ (l.length : Int) ≤ p) : idxB l idx = false := by
  cases hb : idxB l idx with
  | false => rfl
  | true =>
    unfold idxB at hb
    simp only [Bool.and_eq_true, decide_eq_true_eq, List.all_eq_true] at hb
    have := hb.2.1 p hp
    omega
theorem idxB_less {l : List En} {idx : List Int} {j : Nat} {p q : Int} (hj : idx[j]? = some q) (hi : idx[j + 1]? = some p) (h : lessE (slotAt l q) (slotAt l p) = false) : idxB l idx = false := by
  cases hb : idxB l idx with
  | false => rfl
  | true =>
    unfold idxB at hb
    simp only [Bool.and_eq_true, decide_eq_true_eq, List.all_eq_true] at hb
    have h2 := hb.2.2
    unfold Asc at h2
    rw [List.pairwise_iff_getElem] at h2
    have l1 := (List.getElem?_eq_some_iff.1 hj).1
    have l2 := (List.getElem?_eq_some_iff.1 hi).1
    have := h2 j (j + 1) (by simpa using l1) (by simpa using l2) (by omega)
    simp only [List.getElem_map, (List.getElem?_eq_some_iff.1 hj).2, (List.getElem?_eq_some_iff.1 hi).2] at this
    rw [h] at this
    cases this
theorem cells_get {l : List Int} {v : Value} {w : World} (h : isCells (l.map intC) v w) (hl : l ≠ []) : ∃ b off cap, v = .slice (some ⟨b, off, none⟩) l.length cap ∧ b < w.heap.size ∧ ∀ (j : Nat) (x : Int), l[j]? = some x → w.cell? ⟨b, off + j, none⟩ = some (.int .i64 x) := by
  rcases h with ⟨_, h⟩ | ⟨_, _, _, h⟩ | ⟨b, off, cap, e, hb, hc⟩
  · simp at h; exact absurd h hl
  · simp at h; exact absurd h hl
  · exact ⟨b, off, cap, by rw [e, List.length_map], hb, fun j x hx => hc j (intC x) (by rw [List.getElem?_map, hx]; rfl)⟩
set_option maxRecDepth 100000 in
set_option maxHeartbeats 2000000 in
theorem isidx_any (A : Ar) (v : Value) (w : World) (hv : isAr A v w) (hF : FitA A) : Calls Tryz.prog 52 #[v] w fun e w' => e = .returned (.bool (idxB A.slots A.index)) ∧ Below w.heap.size w w' := by
  obtain ⟨vs, vi, rfl, hs, hi⟩ := hv
  have f1 := hF.slots
  have f2 := hF.index
  by_cases hl : A.index.length = A.slots.length
  · by_cases he : A.index = []
    · obtain ⟨sa, cs, rfl⟩ := hs.len
      obtain ⟨ia, ci, rfl⟩ := hi.len
      obtain ⟨hB, V⟩ := abox w A _ _ hs hi w.heap.size rfl
      have hlen : A.index.length = 0 := by rw [he]; rfl
      have hE := Kept.mk (show idxB A.slots A.index = true from idxB_true hl (fun i p h1 h2 => by rw [he] at h2; simp at h2))
      have hl0 : A.slots.length = 0 := by omega
      rw [List.length_map, hlen, hl0] at *
      generalize idxB A.slots A.index = z at *
      obtain rfl := hE.out
      have k0 : _ := (V.out.open_)
      clear hs hi hE k0
      have K1 : (w.alloc (.cells #[.int .i64 A.cap, .slice sa 0 cs, .slice ia 0 ci] 25)).cell? ⟨w.heap.size, 1, none⟩ = some (.slice sa 0 cs) := by rw [World.cell?_alloc_new]; rfl
      have K2 : (w.alloc (.cells #[.int .i64 A.cap, .slice sa 0 cs, .slice ia 0 ci] 25)).cell? ⟨w.heap.size, 2, none⟩ = some (.slice ia 0 ci) := by rw [World.cell?_alloc_new]; rfl
      clear hl hlen hl0 f1 f2 he hF V
      go_enter Tryz.func52, Tryz.ntmps52
      go_wp2
      go_loopw [15] (fun i wr => i = .int .i64 0 ∧ Kept (Below w.heap.size w wr)) (fun i _ => 0)
      case atStart => exact ⟨rfl, ⟨lit_below _ _⟩⟩
      case round =>
        obtain ⟨rfl, B⟩ := hrel
        go_wp2
        go_ret
        exact ⟨rfl, B.out⟩
    · obtain ⟨bi, oi, ci, rfl, hbi, hci⟩ := cells_get hi he
      have hpos : 0 < A.index.length := List.length_pos_iff.2 he
      obtain ⟨bs, os, cs, rfl, hbs, hcs⟩ : ∃ b off cap, vs = .slice (some ⟨b, off, none⟩) A.slots.length cap ∧ b < w.heap.size ∧ ∀ (j : Nat) (E : En), A.slots[j]? = some E → EnAt w b (off + j * 9) E := by
        rcases hs.cases_ with ⟨_, _, _, h⟩ | h
        · rw [h] at hl; simp at hl; exact absurd hl he
        · exact h
      clear hs hi
      have HL := Kept.mk hl
      have HCI := Kept.mk hci
      have HCS := Kept.mk hcs
      generalize hn : A.index.length = n at *
      rw [← hl]
      clear hci hcs hl
      have HB := Kept.mk (Blk.new w 25 [.int .i64 A.cap, .slice (some ⟨bs, os, none⟩) n cs, .slice (some ⟨bi, oi, none⟩) n ci] w.heap.size rfl)
      have hB := Kept.mk (lit_below w (.cells #[.int .i64 A.cap, .slice (some ⟨bs, os, none⟩) n cs, .slice (some ⟨bi, oi, none⟩) n ci] 25))
      have k1 := HB.out.cells.2 1 _ rfl
      have k2 := HB.out.cells.2 2 _ rfl
      have HN := Kept.mk hn
      clear hn
      go_enter Tryz.func52, Tryz.ntmps52
      go_wp2
      generalize (w.alloc (.cells #[.int .i64 A.cap, .slice (some ⟨bs, os, none⟩) n cs, .slice (some ⟨bi, oi, none⟩) n ci] 25)) = W0 at *
      clear k1 k2
      go_loopw [15] (fun i wr => ∃ k : Nat, k ≤ n ∧ i = .int .i64 (k : Int) ∧ Kept (Below w.heap.size w wr) ∧ Kept (Blk wr w.heap.size [.int .i64 A.cap, .slice (some ⟨bs, os, none⟩) n cs, .slice (some ⟨bi, oi, none⟩) n ci]) ∧ Kept (IdxTo A.slots A.index k)) (fun i _ => n - (intOf i).toNat)
      case atStart => exact ⟨0, Nat.zero_le _, rfl, hB, HB, ⟨fun i p h => absurd h (Nat.not_lt_zero _)⟩⟩
      case round =>
        clear hB HB
        obtain ⟨k, hk, rfl, B, HB, I⟩ := hrel
        by_cases hlt : k < n
        · have hlt' : (k : Int) < (n : Int) := by omega
          obtain ⟨p, hp⟩ : ∃ p, A.index[k]? = some p := ⟨_, List.getElem?_eq_getElem (by rw [HN.out]; exact hlt)⟩
          have kp := (B.out.cell (p := ⟨bi, oi + k, none⟩) hbi).trans (HCI.out k p hp)
          have k1 := HB.out.cells.2 1 _ rfl
          have HP := Kept.mk hp
          clear hp
          by_cases h0 : p < 0
          · have hE := Kept.mk (idxB_rng (l := A.slots) (List.mem_of_getElem? HP.out) (.inl h0))
            have h0b : decide (p < 0) = true := decide_eq_true h0
            go_wp2
            go_ret
            exact ⟨by rw [hE.out]; rfl, B.out⟩
          · by_cases h1 : (n : Int) ≤ p
            · have hE := Kept.mk (idxB_rng (l := A.slots) (List.mem_of_getElem? HP.out) (.inr (by rw [← HL.out]; exact h1)))
              go_wp2
              go_ret
              exact ⟨by rw [hE.out]; rfl, B.out⟩
            · obtain ⟨q, rfl⟩ : ∃ q : Nat, p = (q : Int) := ⟨p.toNat, by omega⟩
              have hqn : q < n := by omega
              have hqn' : ¬ (n : Int) ≤ (q : Int) := h1
              clear h0 h1
              obtain ⟨Y, hY⟩ : ∃ Y, A.slots[q]? = some Y := ⟨_, List.getElem?_eq_getElem (by have := HL.out; omega)⟩
              have HY := Kept.mk hY
              clear hY
              by_cases hk0 : k = 0
              · subst hk0
                rw [Nat.add_zero] at kp
                have HI : Kept (IdxTo A.slots A.index (0 + 1)) := ⟨idxTo_succ I.out HP.out ⟨by omega, by rw [← HL.out]; omega⟩ (fun j q' e _ => by omega)⟩
                go_wp2_with fail
                go_region
                all_goals go_wp2
                all_goals go_roundw
                case rel => exact ⟨0 + 1, by omega, by go_num, ⟨B.out.drew⟩, ⟨HB.out.keep ((Below.refl _ _).drew)⟩, HI⟩
                case measure => simp [intOf]; omega
              · obtain ⟨m, rfl⟩ : ∃ m, k = m + 1 := ⟨k - 1, by omega⟩
                obtain ⟨p', hp'⟩ : ∃ p, A.index[m]? = some p := ⟨_, List.getElem?_eq_getElem (by rw [HN.out]; omega)⟩
                have hr := (I.out m p' (by omega) hp').1
                obtain ⟨p, rfl⟩ : ∃ p : Nat, p' = (p : Int) := ⟨p'.toNat, by omega⟩
                have hpn : p < n := by have := HL.out; omega
                obtain ⟨X, hX⟩ : ∃ X, A.slots[p]? = some X := ⟨_, List.getElem?_eq_getElem (by have := HL.out; omega)⟩
                have kq := (B.out.cell (p := ⟨bi, oi + m, none⟩) hbi).trans (HCI.out m _ hp')
                obtain ⟨xp, xm, hxc, hxp, hxm⟩ := (HCS.out p X hX).keep B.out hbs
                obtain ⟨yp, ym, hyc, hyp, hym⟩ := (HCS.out q Y HY.out).keep B.out hbs
                obtain ⟨z, hz⟩ : ∃ z, lessE X Y = z := ⟨_, rfl⟩
                have KQ := Kept.mk kq
                have KX := Kept.mk (And.intro hxc (And.intro hyc (And.intro hxp (And.intro hxm (And.intro hyp (And.intro hym (And.intro hz (And.intro hX hp'))))))))
                clear kq hxc hxp hxm hyc hyp hym hz hX hp' hr
                have hbi' := Nat.lt_of_lt_of_le hbi B.out.size
                have hbs' := Nat.lt_of_lt_of_le hbs B.out.size
                generalize hkk : m + 1 = kk at *
                go_wp2_with fail
                refine isidx_region _ _ _ rfl w.heap.size bs os cs bi oi ci n kk m p q A.cap z X Y xp xm yp ym rfl rfl rfl HB.out hkk.symm (by omega) (by omega) hpn hqn KQ.out hbi' hbs' KX.out.1 KX.out.2.1 KX.out.2.2.1 KX.out.2.2.2.1 KX.out.2.2.2.2.1 KX.out.2.2.2.2.2.1 KX.out.2.2.2.2.2.2.1 ?_
                clear kp k1
                intro f9 W9 d49 hb9
                simp only [List.foldl_cons, List.foldl_nil, d49]
                generalize f9 29 = y29
                generalize f9 30 = y30
                generalize f9 31 = y31
                generalize f9 32 = y32
                generalize f9 33 = y33
                generalize f9 34 = y34
                generalize f9 35 = y35
                generalize f9 36 = y36
                generalize f9 37 = y37
                generalize f9 38 = y38
                generalize f9 39 = y39
                generalize f9 40 = y40
                generalize f9 41 = y41
                generalize f9 42 = y42
                generalize f9 43 = y43
                generalize f9 44 = y44
                generalize f9 45 = y45
                generalize f9 46 = y46
                generalize f9 47 = y47
                generalize f9 48 = y48
                clear d49
                simp only [List.setIfInBounds_toArray, List.set_cons_succ, List.set_cons_zero]
                have sx : slotAt A.slots (p : Int) = X := slotAt_some KX.out.2.2.2.2.2.2.2.1
                have sy : slotAt A.slots (q : Int) = Y := slotAt_some HY.out
                have hless := KX.out.2.2.2.2.2.2.1
                have hpm := KX.out.2.2.2.2.2.2.2.2
                cases z with
                | false =>
                  have hE := Kept.mk (idxB_less (l := A.slots) hpm (by rw [hkk]; exact HP.out) (by rw [sx, sy]; exact hless))
                  have B2 := Kept.mk (B.out.trans (hb9.mono B.out.size))
                  clear hless hpm sx sy
                  go_wp2
                  go_ret
                  exact ⟨by rw [hE.out]; rfl, B2.out⟩
                | true =>
                  have B2 := Kept.mk (B.out.trans (hb9.mono B.out.size))
                  have HB2 := Kept.mk (HB.out.keep hb9)
                  have HI : Kept (IdxTo A.slots A.index (kk + 1)) := ⟨idxTo_succ I.out HP.out ⟨by omega, by rw [← HL.out]; omega⟩ (fun j q' e h => by
                    obtain rfl : j = m := by omega
                    rw [hpm] at h; injection h with h; rw [← h, sx, sy]; exact hless)⟩
                  clear hless hpm sx sy
                  go_wp2
                  go_roundw
                  case rel => exact ⟨kk + 1, by omega, by go_num, B2, HB2, HI⟩
                  case measure => simp [intOf]; omega
        · have hlt' : ¬ (k : Int) < (n : Int) := by omega
          have hE := Kept.mk (idxB_true (l := A.slots) (idx := A.index) (by rw [HN.out]; exact HL.out) (by rw [HN.out, show n = k by omega]; exact I.out))
          go_wp2
          go_ret
          exact ⟨by rw [hE.out]; rfl, B.out⟩
  · obtain ⟨sa, cs, rfl⟩ := hs.len
    obtain ⟨ia, ci, rfl⟩ := hi.len
    rw [List.length_map]
    have hE := Kept.mk (idxB_len hl)
    have hB := Kept.mk (lit_below w (.cells #[.int .i64 A.cap, .slice sa A.slots.length cs, .slice ia A.index.length ci] 25))
    have HB := Kept.mk (Blk.new w 25 [.int .i64 A.cap, .slice sa A.slots.length cs, .slice ia A.index.length ci] w.heap.size rfl)
    have k1 := HB.out.cells.2 1 _ rfl
    have k2 := HB.out.cells.2 2 _ rfl
    clear hs hi
    generalize A.index.length = n at *
    generalize A.slots.length = m at *
    have hl1 : ((n : Int) == (m : Int)) = false := by simp; omega
    have hl2 : ((n : Int) != (m : Int)) = true := by simp; omega
    go_enter Tryz.func52, Tryz.ntmps52
    go_wp2
    go_ret
    exact ⟨by rw [hE.out]; rfl, hB.out⟩
theorem chk_A1 {A : Ar} (h : okA A = true) : chkA A = 0 := by unfold chkA; rw [if_pos h]
theorem chk_A0 {A : Ar} (h : okA A = false) : chkA A = 2 := by unfold chkA; rw [h]; rfl
set_option maxRecDepth 100000 in
set_option maxHeartbeats 2000000 in
theorem acheck_any (A : Ar) (v : Value) (w : World) (hv : isAr A v w) (hF : FitA A) : Calls Tryz.prog 27 #[v] w fun e w' => e = .returned (.int .i64 (chkA A)) ∧ Below w.heap.size w w' := by
  obtain ⟨vs, vi, rfl, hs, hi⟩ := hv
  obtain ⟨hB, Va⟩ := abox w A vs vi hs hi w.heap.size rfl
  clear hs hi
  obtain ⟨qa, ra, xa, sa, ia, ka0, ka1, ka2⟩ := Va.out.open_
  clear xa sa ia
  have HC := Kept.mk (show okA A = (roomB A.cap && (decide ((A.slots.length : Int) ≤ A.cap) && (A.slots.all okE && idxB A.slots A.index))) from rfl)
  go_enter Tryz.func27, Tryz.ntmps27
  go_wp2_with fail
  refine (room_any A.cap _).mono ?_
  rintro e W1 ⟨rfl, hb⟩
  replace hB := Kept.mk (hB.out.trans (hb.mono hB.out.size))
  replace Va := Kept.mk (Va.out.keep hb)
  clear hb ka0 ka1 ka2
  cases hr : roomB A.cap with
  | false =>
    have hE := Kept.mk (chk_A0 (A := A) (by rw [HC.out, hr]; rfl))
    clear HC
    go_wp2
    go_ret
    exact ⟨by rw [hE.out]; rfl, hB.out⟩
  | true =>
    rw [hr, Bool.true_and] at HC
    obtain ⟨qb, rb, xb, sb, ib, kb0, kb1, kb2⟩ := Va.out.open_
    obtain ⟨ba, bc, rfl⟩ := sb.len
    have SB := Kept.mk sb
    have f1 := hF.slots
    clear xb ib sb
    by_cases hl : (A.slots.length : Int) ≤ A.cap
    · rw [decide_eq_true hl, Bool.true_and] at HC
      have hl' : ¬ A.cap < (A.slots.length : Int) := by omega
      go_wp2_with fail
      refine (ents_any A.slots _ _ SB.out hF.ents hF.slots).mono ?_
      rintro e W2 ⟨rfl, hb⟩
      replace hB := Kept.mk (hB.out.trans (hb.mono hB.out.size))
      replace Va := Kept.mk (Va.out.keep hb)
      clear hb kb0 kb1 kb2 SB
      cases hq : A.slots.all okE with
      | false =>
        have hE := Kept.mk (chk_A0 (A := A) (by rw [HC.out, hq]; rfl))
        clear HC
        go_wp2
        go_ret
        exact ⟨by rw [hE.out]; rfl, hB.out⟩
      | true =>
        rw [hq, Bool.true_and] at HC
        obtain ⟨qd, rd, xd, sd, id, kd0, kd1, kd2⟩ := Va.out.open_
        have XD := Kept.mk xd
        clear xd sd id
        go_wp2_with fail
        refine (isidx_any A _ _ XD.out hF).mono ?_
        rintro e W3 ⟨rfl, hb⟩
        replace hB := Kept.mk (hB.out.trans (hb.mono hB.out.size))
        clear hb kd0 kd1 kd2 XD Va
        cases hx : idxB A.slots A.index with
        | false =>
          have hE := Kept.mk (chk_A0 (A := A) (by rw [HC.out, hx]))
          clear HC
          go_wp2
          go_ret
          exact ⟨by rw [hE.out]; rfl, hB.out⟩
        | true =>
          have hE := Kept.mk (chk_A1 (A := A) (by rw [HC.out, hx]))
          clear HC
          go_wp2
          go_ret
          exact ⟨by rw [hE.out]; rfl, hB.out⟩
    · rw [decide_eq_false hl, Bool.false_and] at HC
      have hl' : A.cap < (A.slots.length : Int) := by omega
      have hE := Kept.mk (chk_A0 HC.out)
      clear HC
      go_wp2
      go_ret
      exact ⟨by rw [hE.out]; rfl, hB.out⟩
end Go.Proofs.YtkjghoomdefbbaaGreatDoor
end
section
namespace Go.Proofs.YtkjghoomdefbbaaGreatDoor
open Go.RowKit
set_option linter.unusedVariables false
set_option linter.unusedSimpArgs false
attribute [local irreducible] setN

def ordI (X Y : En) : Int := if lessE X Y = true then -1 else if lessE Y X = true then 1 else 0
theorem ordI_neg (X Y : En) : decide (ordI X Y < 0) = lessE X Y := by
  unfold ordI
  cases lessE X Y <;> cases lessE Y X <;> rfl
theorem ordI_zero (X Y : En) (h : lessE X Y = false) : (ordI X Y == 0) = nameB X Y := by
  unfold ordI
  rw [h]
  cases h2 : lessE Y X with
  | true =>
    cases hn : nameB X Y with
    | true => rw [less_name Y X (name_symm hn)] at h2; cases h2
    | false => rfl
  | false => rw [less_none X Y h h2]; rfl
theorem lss_int {P : Program} (t : TypeId) (k : IntKind) (x y : Int) (b : Bool) (h : decide (x < y) = b) (w : World) : (binOp .lss t (.int k x) (.int k y)).run P w = .ok (.bool b) w := by subst h; simp [go_sem]
section
variable {P : Program} {ops : Array Oper} {base : World} {a0 : Act} {Q : Exit → Act → World → Prop} {kn : Nat → VP} {i : Nat} {V : VP}
/-- A function value is called. -/
theorem step_callV (x : Operand) (f : FuncId) (cb : Array Value) (xs : Array Operand) (ts : Array TypeId) (vs : Array Value) (hop : (ops[i]?).map (·.op) = some (.call { callee := .value x, args := xs, argTypes := ts })) (hw : Wanted ops a0 kn i) (hst : Stable V)
    (hv : Knows ops a0 kn i x (isVal (.func (.func f) #[] cb))) (hx : ∀ a w, FKept ops a0 a → FDeps ops kn i a w → xs.map a.eval = vs) (hent : Enters P f)
    (hc : ∀ w, Below base.heap.size base w → Calls P f (vs ++ cb) w fun e w' => ∃ v, e = .returned v ∧ V v w' ∧ Below w.heap.size w w') : FStep P ops base a0 Q kn i V :=
  step_mk hst hw fun o ho a w hk hb hd => by
    unfold Oper.wp execOp
    rw [op_of hop ho]
    have e1 : xs.map a.eval = vs := hx a w hk hd
    have e2 : a.eval x = .func (.func f) #[] cb := hv a w hk hd
    simp only [resolve, e1, e2, Deferred.ofValue, Sem.run_bind, Sem.run_pure, Result.andThen_ok, invoke, Array.append_empty, Array.empty_append]
    rw [hent]
    simp only [Oper.upon]
    refine (hc w hb).mono ?_
    rintro e w' ⟨v, rfl, hv, hbw⟩
    exact ⟨v, rfl, hv, hbw⟩
end
set_option maxRecDepth 100000 in
set_option maxHeartbeats 2000000 in
theorem order_any (X Y : En) (v u : Value) (w : World) (hv : isEn X v w) (hu : isEn Y u w) : Calls Tryz.prog 85 #[v, u] w fun e w' => e = .returned (.int .i64 (ordI X Y)) ∧ Below w.heap.size w w' := by
  obtain ⟨pa, ma, rfl, hpa, hma⟩ := hv
  obtain ⟨pb, mb, rfl, hpb, hmb⟩ := hu
  obtain ⟨hB, Va⟩ := ebox w X pa ma hpa hma (w.heap.size) (by simp)
  obtain ⟨hBn, Vb⟩ := ebox (w.alloc (.cells #[.string ⟨X.key.toArray⟩, .int .i64 X.val.kind, .int .i64 X.val.time, .int .i64 X.val.node, .bool X.val.dead, .string ⟨X.val.text.toArray⟩, pa, ma, .int .u64 (X.val.flags.toNat : Int)] 48)) Y pb mb (stable_cells _ _ _ _ hpb hB.out) (stable_cells _ _ _ _ hmb hB.out) (w.heap.size + 1) (by simp)
  replace Va := Kept.mk (Va.out.keep hBn.out)
  replace hB := Kept.mk (hB.out.trans (hBn.out.mono hB.out.size))
  clear hBn
  clear hpa hma hpb hmb
  obtain ⟨qa, ra, xa, ya, ka0, ka1, ka2, ka3, ka4, ka5, ka6, ka7, ka8⟩ := Va.out.open_
  have Xa := Kept.mk xa
  have Ya := Kept.mk ya
  clear xa ya
  obtain ⟨qb, rb, xb, yb, kb0, kb1, kb2, kb3, kb4, kb5, kb6, kb7, kb8⟩ := Vb.out.open_
  have Xb := Kept.mk xb
  have Yb := Kept.mk yb
  clear xb yb
  go_enter Tryz.func85, Tryz.ntmps85
  go_wp2_with fail
  ((with_reducible refine (eless_any X Y _ _ _ Xa.out Xb.out).mono ?_); rintro e W1 ⟨rfl, hb1⟩)
  clear Xa Ya ka0 ka1 ka2 ka3 ka4 ka5 ka6 ka7 ka8
  clear Xb Yb kb0 kb1 kb2 kb3 kb4 kb5 kb6 kb7 kb8
  replace hB := Kept.mk (hB.out.trans ((hb1).mono hB.out.size))
  replace Va := Kept.mk (Va.out.keep (hb1))
  replace Vb := Kept.mk (Vb.out.keep (hb1))
  clear hb1
  cases h1 : lessE X Y with
  | true =>
    have hE := Kept.mk (show ordI X Y = -1 by unfold ordI; rw [h1]; rfl)
    go_wp2
    go_ret
    exact ⟨by rw [hE.out]; rfl, hB.out⟩
  | false =>
    obtain ⟨qa, ra, xa, ya, ka0, ka1, ka2, ka3, ka4, ka5, ka6, ka7, ka8⟩ := Va.out.open_
    have Xa := Kept.mk xa
    have Ya := Kept.mk ya
    clear xa ya
    obtain ⟨qb, rb, xb, yb, kb0, kb1, kb2, kb3, kb4, kb5, kb6, kb7, kb8⟩ := Vb.out.open_
    have Xb := Kept.mk xb
    have Yb := Kept.mk yb
    clear xb yb
    go_wp2_with fail
    ((with_reducible refine (eless_any Y X _ _ _ Xb.out Xa.out).mono ?_); rintro e W2 ⟨rfl, hb1⟩)
    clear Xa Ya ka0 ka1 ka2 ka3 ka4 ka5 ka6 ka7 ka8
    clear Xb Yb kb0 kb1 kb2 kb3 kb4 kb5 kb6 kb7 kb8
    replace hB := Kept.mk (hB.out.trans ((hb1).mono hB.out.size))
    replace Va := Kept.mk (Va.out.keep (hb1))
    replace Vb := Kept.mk (Vb.out.keep (hb1))
    clear hb1
    cases h2 : lessE Y X with
    | true =>
      have hE := Kept.mk (show ordI X Y = 1 by unfold ordI; rw [h1, h2]; rfl)
      go_wp2
      go_ret
      exact ⟨by rw [hE.out]; rfl, hB.out⟩
    | false =>
      have hE := Kept.mk (show ordI X Y = 0 by unfold ordI; rw [h1, h2]; rfl)
      go_wp2
      go_ret
      exact ⟨by rw [hE.out]; rfl, hB.out⟩
theorem order_val (A B : En) (z : Int) (v u : Value) (w : World) (hv : isEn A v w) (hu : isEn B u w) (hz : ordI A B = z) : Calls Tryz.prog 85 #[v, u] w fun e w' => ∃ x, e = .returned x ∧ isVal (.int .i64 z) x w' ∧ Below w.heap.size w w' :=
  (order_any A B v u w hv hu).mono (by rintro e w' ⟨rfl, h⟩; exact ⟨_, rfl, by rw [hz]; rfl, h⟩)
noncomputable def cmpOps : Array Oper := regionOf Tryz.f84 1
set_option maxRecDepth 100000 in
set_option maxHeartbeats 2000000 in
theorem cmp_region (Q : Exit → Act → World → Prop) (a0 : Act) (w0 : World) (hsz : a0.tmps.size = 13) (g h bs os cs n q : Nat) (z : Int) (X Y : En) (xp xm yp ym : Value) (e2 : a0.tmps.getD 2 undef = .pointer (some ⟨g, 0, none⟩)) (e0 : a0.tmps.getD 0 undef = .int .i64 (q : Int)) (e4 : a0.tmps.getD 4 undef = .pointer (some ⟨h, 0, none⟩)) (hcell : w0.cell? ⟨g, 1, none⟩ = some (.slice (some ⟨bs, os, none⟩) n cs)) (hg : g < w0.heap.size) (hq : q < n) (hbs : bs < w0.heap.size) (hh : h < w0.heap.size) (hxc : ∀ (j : Nat) (x : Value), [.string ⟨X.key.toArray⟩, .int .i64 X.val.kind, .int .i64 X.val.time, .int .i64 X.val.node, .bool X.val.dead, .string ⟨X.val.text.toArray⟩, xp, xm, .int .u64 (X.val.flags.toNat : Int)][j]? = some x → w0.cell? ⟨bs, os + q * 9 + j, none⟩ = some x) (hyc : ∀ (j : Nat) (x : Value), [.string ⟨Y.key.toArray⟩, .int .i64 Y.val.kind, .int .i64 Y.val.time, .int .i64 Y.val.node, .bool Y.val.dead, .string ⟨Y.val.text.toArray⟩, yp, ym, .int .u64 (Y.val.flags.toNat : Int)][j]? = some x → w0.cell? ⟨h, j, none⟩ = some x) (hxp : isCells (X.val.plus.map intC) xp w0) (hxm : isCells (X.val.minus.map intC) xm w0) (hyp : isCells (Y.val.plus.map intC) yp w0) (hym : isCells (Y.val.minus.map intC) ym w0) (hz : ordI X Y = z)
    (hQ : ∀ (g : Nat → Value) (w : World), g 5 = .int .i64 z → Below w0.heap.size w0 w → Q .normal { tmps := [6, 7, 8, 9, 10, 11, 12, 5].foldl (fun t s => t.setIfInBounds s (g s)) a0.tmps, defers := a0.defers } w) :
    (Code.region 1 cmpOps true).wp Tryz.prog Q a0 w0 := by
  refine wp_region_flow mixed (by rw [hsz]; kernel_rfl) ?_
  rw [show cmpOps.size = 8 by kernel_rfl]
  refine ⟨isVal (.pointer (some ⟨g, 1, none⟩)), step_field 25 (.tmp 2) 1 ⟨g, 0, none⟩ ⟨g, 1, none⟩ (by kernel_rfl) (wanted_none (by kernel_rfl)) (knows_old 2 (.pointer (some ⟨g, 0, none⟩)) (by kernel_rfl) e2) (f_ar_0_1 (g)), ?_⟩
  refine ⟨isVal (.slice (some ⟨bs, os, none⟩) n cs), step_read 22 (.tmp 6) ⟨g, 1, none⟩ (.slice (some ⟨bs, os, none⟩) n cs) (by kernel_rfl) (wanted_none (by kernel_rfl)) (knows_new (V := isVal (.pointer (some ⟨g, 1, none⟩))) 6 0 (by kernel_rfl) (by kernel_rfl) (by kernel_rfl)) (hcell) (hg) (agg_noS), ?_⟩
  refine ⟨isVal (.int .i64 (q : Int)), step_move (.tmp 0) (by kernel_rfl) (wanted_none (by kernel_rfl)) (stable_val _) (knows_old 0 (.int .i64 (q : Int)) (by kernel_rfl) e0), ?_⟩
  refine ⟨isVal (.pointer (some ⟨bs, os + q * 9, none⟩)), step_placeE 22 48 (.tmp 7) (.tmp 8) bs (os) (n) (cs) (q) (os + q * 9) (by kernel_rfl) (wanted_none (by kernel_rfl)) (knows_new (V := isVal (.slice (some ⟨bs, os, none⟩) n cs)) 7 1 (by kernel_rfl) (by kernel_rfl) (by kernel_rfl)) (knows_new (V := isVal (.int .i64 (q : Int))) 8 2 (by kernel_rfl) (by kernel_rfl) (by kernel_rfl)) Tryz.underlying22 (by kernel_rfl) (⟨hq, rfl⟩), ?_⟩
  refine ⟨isVal (.agg #[.string ⟨X.key.toArray⟩, .int .i64 X.val.kind, .int .i64 X.val.time, .int .i64 X.val.node, .bool X.val.dead, .string ⟨X.val.text.toArray⟩, xp, xm, .int .u64 (X.val.flags.toNat : Int)]), step_loadA 48 (.tmp 9) (bs) (os + q * 9) [.string ⟨X.key.toArray⟩, .int .i64 X.val.kind, .int .i64 X.val.time, .int .i64 X.val.node, .bool X.val.dead, .string ⟨X.val.text.toArray⟩, xp, xm, .int .u64 (X.val.flags.toNat : Int)] (by kernel_rfl) (wanted_none (by kernel_rfl)) (knows_new (V := isVal (.pointer (some ⟨bs, os + q * 9, none⟩))) 9 3 (by kernel_rfl) (by kernel_rfl) (by kernel_rfl)) size_en agg_en (⟨hbs, hxc⟩), ?_⟩
  refine ⟨isVal (.agg #[.string ⟨Y.key.toArray⟩, .int .i64 Y.val.kind, .int .i64 Y.val.time, .int .i64 Y.val.node, .bool Y.val.dead, .string ⟨Y.val.text.toArray⟩, yp, ym, .int .u64 (Y.val.flags.toNat : Int)]), step_loadA 48 (.tmp 4) (h) (0) [.string ⟨Y.key.toArray⟩, .int .i64 Y.val.kind, .int .i64 Y.val.time, .int .i64 Y.val.node, .bool Y.val.dead, .string ⟨Y.val.text.toArray⟩, yp, ym, .int .u64 (Y.val.flags.toNat : Int)] (by kernel_rfl) (wanted_none (by kernel_rfl)) (knows_old 4 (.pointer (some ⟨h, 0, none⟩)) (by kernel_rfl) e4) size_en agg_en (⟨hh, by simpa using hyc⟩), ?_⟩
  refine ⟨isVal (.int .i64 z), step_call 85 #[.tmp 10, .tmp 11] #[48, 48] #[.agg #[.string ⟨X.key.toArray⟩, .int .i64 X.val.kind, .int .i64 X.val.time, .int .i64 X.val.node, .bool X.val.dead, .string ⟨X.val.text.toArray⟩, xp, xm, .int .u64 (X.val.flags.toNat : Int)], .agg #[.string ⟨Y.key.toArray⟩, .int .i64 Y.val.kind, .int .i64 Y.val.time, .int .i64 Y.val.node, .bool Y.val.dead, .string ⟨Y.val.text.toArray⟩, yp, ym, .int .u64 (Y.val.flags.toNat : Int)]] (by kernel_rfl) (wanted_none (by kernel_rfl)) (stable_val _) (args2 (.tmp 10) (.tmp 11) (.agg #[.string ⟨X.key.toArray⟩, .int .i64 X.val.kind, .int .i64 X.val.time, .int .i64 X.val.node, .bool X.val.dead, .string ⟨X.val.text.toArray⟩, xp, xm, .int .u64 (X.val.flags.toNat : Int)]) (.agg #[.string ⟨Y.key.toArray⟩, .int .i64 Y.val.kind, .int .i64 Y.val.time, .int .i64 Y.val.node, .bool Y.val.dead, .string ⟨Y.val.text.toArray⟩, yp, ym, .int .u64 (Y.val.flags.toNat : Int)]) (knows_new (V := isVal (.agg #[.string ⟨X.key.toArray⟩, .int .i64 X.val.kind, .int .i64 X.val.time, .int .i64 X.val.node, .bool X.val.dead, .string ⟨X.val.text.toArray⟩, xp, xm, .int .u64 (X.val.flags.toNat : Int)])) 10 4 (by kernel_rfl) (by kernel_rfl) (by kernel_rfl)) (knows_new (V := isVal (.agg #[.string ⟨Y.key.toArray⟩, .int .i64 Y.val.kind, .int .i64 Y.val.time, .int .i64 Y.val.node, .bool Y.val.dead, .string ⟨Y.val.text.toArray⟩, yp, ym, .int .u64 (Y.val.flags.toNat : Int)])) 11 5 (by kernel_rfl) (by kernel_rfl) (by kernel_rfl))) (enters_of Tryz.func85 (by kernel_rfl) rfl) (by intro w' hb; exact order_val X Y z _ _ w' (en_mk hxp hxm hb) (en_mk hyp hym hb) hz), ?_⟩
  refine ⟨isVal (.int .i64 z), step_assign (.tmp 12) (by kernel_rfl) (wanted_none (by kernel_rfl)) (stable_val _) (knows_new (V := isVal (.int .i64 z)) 12 6 (by kernel_rfl) (by kernel_rfl) (by kernel_rfl)), ?_⟩
  intro a w hkp hb hd
  rw [kept_of hkp [some 6, some 7, some 8, some 9, some 10, some 11, some 12, some 5] [6, 7, 8, 9, 10, 11, 12, 5] (by kernel_rfl) (by decide)]
  have d5 := fdone_of (hd 7 (by rw [show cmpOps.size = 8 by kernel_rfl]; decide)) (t := 5) (V := isVal (.int .i64 z)) (by kernel_rfl) (by kernel_rfl)
  exact hQ (fun s => a.tmps.getD s undef) w d5 hb
set_option maxRecDepth 100000 in
set_option maxHeartbeats 2000000 in
theorem cmp_any (A : Ar) (g q : Nat) (X Y : En) (v : Value) (w : World) (HX : A.slots[q]? = some X) (HV : VarA w g A) (hv : isEn Y v w) : Calls Tryz.prog 84 #[.int .i64 (q : Int), v, .pointer (some ⟨g, 0, none⟩)] w fun e w' => e = .returned (.int .i64 (ordI X Y)) ∧ Below w.heap.size w w' := by
  obtain ⟨yp, ym, rfl, hyp, hym⟩ := hv
  obtain ⟨vs, vi, _, hs, _, _, hc1, _⟩ := HV.open_
  obtain ⟨bs, os, cs, rfl, hbs, xp, xm, hxc, hxp, hxm⟩ := hs.get HX
  have hq := (List.getElem?_eq_some_iff.1 HX).1
  have hb := lit_below w (.cells #[.string ⟨Y.key.toArray⟩, .int .i64 Y.val.kind, .int .i64 Y.val.time, .int .i64 Y.val.node, .bool Y.val.dead, .string ⟨Y.val.text.toArray⟩, yp, ym, .int .u64 (Y.val.flags.toNat : Int)] 48)
  have HB := Blk.new w 48 [.string ⟨Y.key.toArray⟩, .int .i64 Y.val.kind, .int .i64 Y.val.time, .int .i64 Y.val.node, .bool Y.val.dead, .string ⟨Y.val.text.toArray⟩, yp, ym, .int .u64 (Y.val.flags.toNat : Int)] w.heap.size rfl
  have hg := HV.lt
  have K := Kept.mk (And.intro ((hb.cell (p := ⟨g, 1, none⟩) hg).trans hc1) (And.intro (fun j x hx => (hb.cell (p := ⟨bs, os + q * 9 + j, none⟩) hbs).trans (hxc j x hx) : ∀ (j : Nat) (x : Value), [.string ⟨X.key.toArray⟩, .int .i64 X.val.kind, .int .i64 X.val.time, .int .i64 X.val.node, .bool X.val.dead, .string ⟨X.val.text.toArray⟩, xp, xm, .int .u64 (X.val.flags.toNat : Int)][j]? = some x → _) (And.intro (stable_cells _ _ _ _ hxp hb) (And.intro (stable_cells _ _ _ _ hxm hb) (And.intro (stable_cells _ _ _ _ hyp hb) (stable_cells _ _ _ _ hym hb))))))
  have hb' := Kept.mk hb
  have HB' := Kept.mk HB
  clear hs hc1 hxc hxp hxm hyp hym hb HB HV HX
  have hs2 : w.heap.size ≤ (w.alloc (.cells #[.string ⟨Y.key.toArray⟩, .int .i64 Y.val.kind, .int .i64 Y.val.time, .int .i64 Y.val.node, .bool Y.val.dead, .string ⟨Y.val.text.toArray⟩, yp, ym, .int .u64 (Y.val.flags.toNat : Int)] 48)).heap.size := hb'.out.size
  generalize hz : ordI X Y = z
  have HZ := Kept.mk hz
  clear hz
  generalize A.slots.length = n at *
  go_enter Tryz.func84, Tryz.ntmps84
  go_wp2_with fail
  generalize (w.alloc (.cells #[.string ⟨Y.key.toArray⟩, .int .i64 Y.val.kind, .int .i64 Y.val.time, .int .i64 Y.val.node, .bool Y.val.dead, .string ⟨Y.val.text.toArray⟩, yp, ym, .int .u64 (Y.val.flags.toNat : Int)] 48)) = W0 at *
  refine cmp_region _ _ _ rfl g w.heap.size bs os cs n q z X Y xp xm yp ym rfl rfl rfl K.out.1 (by omega) hq (by omega) HB'.out.lt K.out.2.1 HB'.out.cells.2 K.out.2.2.1 K.out.2.2.2.1 K.out.2.2.2.2.1 K.out.2.2.2.2.2 HZ.out ?_
  intro f9 W9 d5 hb9
  simp only [List.foldl_cons, List.foldl_nil, d5]
  generalize f9 6 = y6
  generalize f9 7 = y7
  generalize f9 8 = y8
  generalize f9 9 = y9
  generalize f9 10 = y10
  generalize f9 11 = y11
  generalize f9 12 = y12
  clear d5
  simp only [List.setIfInBounds_toArray, List.set_cons_succ, List.set_cons_zero]
  have B2 := Kept.mk (hb'.out.trans (hb9.mono hb'.out.size))
  go_wp2
  go_ret
  exact ⟨rfl, B2.out⟩
theorem cmp_val (A : Ar) (g q : Nat) (X Y : En) (z : Int) (v : Value) (w : World) (HX : A.slots[q]? = some X) (HV : VarA w g A) (hv : isEn Y v w) (hz : ordI X Y = z) : Calls Tryz.prog 84 (#[.int .i64 (q : Int), v] ++ #[.pointer (some ⟨g, 0, none⟩)]) w fun e w' => ∃ x, e = .returned x ∧ isVal (.int .i64 z) x w' ∧ Below w.heap.size w w' :=
  (cmp_any A g q X Y v w HX HV hv).mono (by rintro e w' ⟨rfl, h⟩; exact ⟨_, rfl, by rw [hz]; rfl, h⟩)
noncomputable def bs5Ops : Array Oper := regionOf Tryz.f83 5
set_option maxRecDepth 100000 in
set_option maxHeartbeats 2000000 in
theorem bs5_region (Q : Exit → Act → World → Prop) (a0 : Act) (w0 : World) (hsz : a0.tmps.size = 49) (A : Ar) (g h bi oi ci n m q : Nat) (z : Int) (X Y : En) (yp ym : Value) (e0 : a0.tmps.getD 0 undef = (.slice (some ⟨bi, oi, none⟩) n ci)) (e2 : a0.tmps.getD 2 undef = (.func (.func 84) #[] #[.pointer (some ⟨g, 0, none⟩)])) (e4 : a0.tmps.getD 4 undef = .pointer (some ⟨h, 0, none⟩)) (e11 : a0.tmps.getD 11 undef = .int .i64 (m : Int)) (hm : m < n) (hci : w0.cell? ⟨bi, oi + m, none⟩ = some (.int .i64 (q : Int))) (hbi : bi < w0.heap.size) (hh : h < w0.heap.size) (hyc : ∀ (j : Nat) (x : Value), [.string ⟨Y.key.toArray⟩, .int .i64 Y.val.kind, .int .i64 Y.val.time, .int .i64 Y.val.node, .bool Y.val.dead, .string ⟨Y.val.text.toArray⟩, yp, ym, .int .u64 (Y.val.flags.toNat : Int)][j]? = some x → w0.cell? ⟨h, j, none⟩ = some x) (hyp : isCells (Y.val.plus.map intC) yp w0) (hym : isCells (Y.val.minus.map intC) ym w0) (HX : A.slots[q]? = some X) (HV : VarA w0 g A) (hz : ordI X Y = z)
    (hQ : ∀ (g : Nat → Value) (w : World), g 31 = .bool (decide (z < 0)) → Below w0.heap.size w0 w → Q .normal { tmps := [24, 25, 26, 27, 28, 29, 30, 31].foldl (fun t s => t.setIfInBounds s (g s)) a0.tmps, defers := a0.defers } w) :
    (Code.region 5 bs5Ops true).wp Tryz.prog Q a0 w0 := by
  refine wp_region_flow mixed (by rw [hsz]; kernel_rfl) ?_
  rw [show bs5Ops.size = 8 by kernel_rfl]
  refine ⟨isVal (.func (.func 84) #[] #[.pointer (some ⟨g, 0, none⟩)]), step_move (.tmp 2) (by kernel_rfl) (wanted_none (by kernel_rfl)) (stable_val _) (knows_old 2 (.func (.func 84) #[] #[.pointer (some ⟨g, 0, none⟩)]) (by kernel_rfl) e2), ?_⟩
  refine ⟨isVal (.slice (some ⟨bi, oi, none⟩) n ci), step_move (.tmp 0) (by kernel_rfl) (wanted_none (by kernel_rfl)) (stable_val _) (knows_old 0 (.slice (some ⟨bi, oi, none⟩) n ci) (by kernel_rfl) e0), ?_⟩
  refine ⟨isVal (.int .i64 (m : Int)), step_move (.tmp 11) (by kernel_rfl) (wanted_none (by kernel_rfl)) (stable_val _) (knows_old 11 (.int .i64 (m : Int)) (by kernel_rfl) e11), ?_⟩
  refine ⟨isVal (.pointer (some ⟨bi, oi + m, none⟩)), step_place 23 3 (.tmp 25) (.tmp 26) bi (oi) (n) (ci) (m) (by kernel_rfl) (wanted_none (by kernel_rfl)) (knows_new (V := isVal (.slice (some ⟨bi, oi, none⟩) n ci)) 25 1 (by kernel_rfl) (by kernel_rfl) (by kernel_rfl)) (knows_new (V := isVal (.int .i64 (m : Int))) 26 2 (by kernel_rfl) (by kernel_rfl) (by kernel_rfl)) Tryz.underlying23 (by kernel_rfl) (hm), ?_⟩
  refine ⟨isVal (.int .i64 (q : Int)), step_read 3 (.tmp 27) ⟨bi, oi + m, none⟩ (.int .i64 (q : Int)) (by kernel_rfl) (wanted_none (by kernel_rfl)) (knows_new (V := isVal (.pointer (some ⟨bi, oi + m, none⟩))) 27 3 (by kernel_rfl) (by kernel_rfl) (by kernel_rfl)) (hci) (hbi) (agg_noZ), ?_⟩
  refine ⟨isVal (.agg #[.string ⟨Y.key.toArray⟩, .int .i64 Y.val.kind, .int .i64 Y.val.time, .int .i64 Y.val.node, .bool Y.val.dead, .string ⟨Y.val.text.toArray⟩, yp, ym, .int .u64 (Y.val.flags.toNat : Int)]), step_loadA 48 (.tmp 4) (h) (0) [.string ⟨Y.key.toArray⟩, .int .i64 Y.val.kind, .int .i64 Y.val.time, .int .i64 Y.val.node, .bool Y.val.dead, .string ⟨Y.val.text.toArray⟩, yp, ym, .int .u64 (Y.val.flags.toNat : Int)] (by kernel_rfl) (wanted_none (by kernel_rfl)) (knows_old 4 (.pointer (some ⟨h, 0, none⟩)) (by kernel_rfl) e4) size_en agg_en (⟨hh, by simpa using hyc⟩), ?_⟩
  refine ⟨isVal (.int .i64 z), step_callV (.tmp 24) 84 #[.pointer (some ⟨g, 0, none⟩)] #[.tmp 28, .tmp 29] #[3, 48] #[(.int .i64 (q : Int)), (.agg #[.string ⟨Y.key.toArray⟩, .int .i64 Y.val.kind, .int .i64 Y.val.time, .int .i64 Y.val.node, .bool Y.val.dead, .string ⟨Y.val.text.toArray⟩, yp, ym, .int .u64 (Y.val.flags.toNat : Int)])] (by kernel_rfl) (wanted_none (by kernel_rfl)) (stable_val _) (knows_new (V := isVal (.func (.func 84) #[] #[.pointer (some ⟨g, 0, none⟩)])) 24 0 (by kernel_rfl) (by kernel_rfl) (by kernel_rfl)) (args2 (.tmp 28) (.tmp 29) (.int .i64 (q : Int)) (.agg #[.string ⟨Y.key.toArray⟩, .int .i64 Y.val.kind, .int .i64 Y.val.time, .int .i64 Y.val.node, .bool Y.val.dead, .string ⟨Y.val.text.toArray⟩, yp, ym, .int .u64 (Y.val.flags.toNat : Int)]) (knows_new (V := isVal (.int .i64 (q : Int))) 28 4 (by kernel_rfl) (by kernel_rfl) (by kernel_rfl)) (knows_new (V := isVal (.agg #[.string ⟨Y.key.toArray⟩, .int .i64 Y.val.kind, .int .i64 Y.val.time, .int .i64 Y.val.node, .bool Y.val.dead, .string ⟨Y.val.text.toArray⟩, yp, ym, .int .u64 (Y.val.flags.toNat : Int)])) 29 5 (by kernel_rfl) (by kernel_rfl) (by kernel_rfl))) (enters_of Tryz.func84 (by kernel_rfl) rfl) (by intro w' hb; exact cmp_val A (g) q X Y z _ w' HX (HV.keep hb) (en_mk hyp hym hb) hz), ?_⟩
  refine ⟨isVal (.bool (decide (z < 0))), step_bin .lss 3 3 (.tmp 30) (.const (.int .i64 0)) (.int .i64 z) (.int .i64 0) (.bool (decide (z < 0))) (by kernel_rfl) (wanted_none (by kernel_rfl)) (knows_new (V := isVal (.int .i64 z)) 30 6 (by kernel_rfl) (by kernel_rfl) (by kernel_rfl)) (knows_const _) (fun _ => rfl) (lss_int _ _ _ _ _ rfl), ?_⟩
  intro a w hkp hb hd
  rw [kept_of hkp [some 24, some 25, some 26, some 27, some 28, some 29, some 30, some 31] [24, 25, 26, 27, 28, 29, 30, 31] (by kernel_rfl) (by decide)]
  have d31 := fdone_of (hd 7 (by rw [show bs5Ops.size = 8 by kernel_rfl]; decide)) (t := 31) (V := isVal (.bool (decide (z < 0)))) (by kernel_rfl) (by kernel_rfl)
  exact hQ (fun s => a.tmps.getD s undef) w d31 hb
noncomputable def bs8Ops : Array Oper := regionOf Tryz.f83 8
set_option maxRecDepth 100000 in
set_option maxHeartbeats 2000000 in
theorem bs8_region (Q : Exit → Act → World → Prop) (a0 : Act) (w0 : World) (hsz : a0.tmps.size = 49) (A : Ar) (g h bi oi ci n m q : Nat) (z : Int) (X Y : En) (yp ym : Value) (e0 : a0.tmps.getD 0 undef = (.slice (some ⟨bi, oi, none⟩) n ci)) (e2 : a0.tmps.getD 2 undef = (.func (.func 84) #[] #[.pointer (some ⟨g, 0, none⟩)])) (e4 : a0.tmps.getD 4 undef = .pointer (some ⟨h, 0, none⟩)) (e9 : a0.tmps.getD 9 undef = .int .i64 (m : Int)) (e8 : a0.tmps.getD 8 undef = .int .i64 (n : Int)) (hm : m < n) (hci : w0.cell? ⟨bi, oi + m, none⟩ = some (.int .i64 (q : Int))) (hbi : bi < w0.heap.size) (hh : h < w0.heap.size) (hyc : ∀ (j : Nat) (x : Value), [.string ⟨Y.key.toArray⟩, .int .i64 Y.val.kind, .int .i64 Y.val.time, .int .i64 Y.val.node, .bool Y.val.dead, .string ⟨Y.val.text.toArray⟩, yp, ym, .int .u64 (Y.val.flags.toNat : Int)][j]? = some x → w0.cell? ⟨h, j, none⟩ = some x) (hyp : isCells (Y.val.plus.map intC) yp w0) (hym : isCells (Y.val.minus.map intC) ym w0) (HX : A.slots[q]? = some X) (HV : VarA w0 g A) (hz : ordI X Y = z)
    (hQ : ∀ (g : Nat → Value) (w : World), g 6 = .int .i64 (m : Int) → g 7 = .bool (z == 0) → Below w0.heap.size w0 w → Q .normal { tmps := [35, 36, 37, 38, 39, 40, 41, 42, 43, 44, 45, 46, 47, 48, 6, 7].foldl (fun t s => t.setIfInBounds s (g s)) a0.tmps, defers := a0.defers } w) :
    (Code.region 8 bs8Ops true).wp Tryz.prog Q a0 w0 := by
  refine wp_region_flow mixed (by rw [hsz]; kernel_rfl) ?_
  rw [show bs8Ops.size = 16 by kernel_rfl]
  refine ⟨isVal (.int .i64 (m : Int)), step_move (.tmp 9) (by kernel_rfl) (wanted_none (by kernel_rfl)) (stable_val _) (knows_old 9 (.int .i64 (m : Int)) (by kernel_rfl) e9), ?_⟩
  refine ⟨isVal (.int .i64 (m : Int)), step_move (.tmp 9) (by kernel_rfl) (wanted_none (by kernel_rfl)) (stable_val _) (knows_old 9 (.int .i64 (m : Int)) (by kernel_rfl) e9), ?_⟩
  refine ⟨isVal (.int .i64 (n : Int)), step_move (.tmp 8) (by kernel_rfl) (wanted_none (by kernel_rfl)) (stable_val _) (knows_old 8 (.int .i64 (n : Int)) (by kernel_rfl) e8), ?_⟩
  refine ⟨isVal (.bool true), step_bin .lss 3 3 (.tmp 36) (.tmp 37) (.int .i64 (m : Int)) (.int .i64 (n : Int)) (.bool true) (by kernel_rfl) (wanted_none (by kernel_rfl)) (knows_new (V := isVal (.int .i64 (m : Int))) 36 1 (by kernel_rfl) (by kernel_rfl) (by kernel_rfl)) (knows_new (V := isVal (.int .i64 (n : Int))) 37 2 (by kernel_rfl) (by kernel_rfl) (by kernel_rfl)) (fun _ => rfl) (lss_int _ _ _ _ _ (by simp; omega)), ?_⟩
  refine ⟨isVal (.bool true), step_move (.tmp 38) (by kernel_rfl) (wanted_none (by kernel_rfl)) (stable_val _) (knows_new (V := isVal (.bool true)) 38 3 (by kernel_rfl) (by kernel_rfl) (by kernel_rfl)), ?_⟩
  refine ⟨isVal (.func (.func 84) #[] #[.pointer (some ⟨g, 0, none⟩)]), step_move (.tmp 2) (by kernel_rfl) (wanted_some 4 39 true (by kernel_rfl) (by kernel_rfl) (by kernel_rfl) (by kernel_rfl)) (stable_val _) (knows_old 2 (.func (.func 84) #[] #[.pointer (some ⟨g, 0, none⟩)]) (by kernel_rfl) e2), ?_⟩
  refine ⟨isVal (.slice (some ⟨bi, oi, none⟩) n ci), step_move (.tmp 0) (by kernel_rfl) (wanted_some 4 39 true (by kernel_rfl) (by kernel_rfl) (by kernel_rfl) (by kernel_rfl)) (stable_val _) (knows_old 0 (.slice (some ⟨bi, oi, none⟩) n ci) (by kernel_rfl) e0), ?_⟩
  refine ⟨isVal (.int .i64 (m : Int)), step_move (.tmp 9) (by kernel_rfl) (wanted_some 4 39 true (by kernel_rfl) (by kernel_rfl) (by kernel_rfl) (by kernel_rfl)) (stable_val _) (knows_old 9 (.int .i64 (m : Int)) (by kernel_rfl) e9), ?_⟩
  refine ⟨isVal (.pointer (some ⟨bi, oi + m, none⟩)), step_place 23 3 (.tmp 41) (.tmp 42) bi (oi) (n) (ci) (m) (by kernel_rfl) (wanted_some 4 39 true (by kernel_rfl) (by kernel_rfl) (by kernel_rfl) (by kernel_rfl)) (knows_new (V := isVal (.slice (some ⟨bi, oi, none⟩) n ci)) 41 6 (by kernel_rfl) (by kernel_rfl) (by kernel_rfl)) (knows_new (V := isVal (.int .i64 (m : Int))) 42 7 (by kernel_rfl) (by kernel_rfl) (by kernel_rfl)) Tryz.underlying23 (by kernel_rfl) (hm), ?_⟩
  refine ⟨isVal (.int .i64 (q : Int)), step_read 3 (.tmp 43) ⟨bi, oi + m, none⟩ (.int .i64 (q : Int)) (by kernel_rfl) (wanted_some 4 39 true (by kernel_rfl) (by kernel_rfl) (by kernel_rfl) (by kernel_rfl)) (knows_new (V := isVal (.pointer (some ⟨bi, oi + m, none⟩))) 43 8 (by kernel_rfl) (by kernel_rfl) (by kernel_rfl)) (hci) (hbi) (agg_noZ), ?_⟩
  refine ⟨isVal (.agg #[.string ⟨Y.key.toArray⟩, .int .i64 Y.val.kind, .int .i64 Y.val.time, .int .i64 Y.val.node, .bool Y.val.dead, .string ⟨Y.val.text.toArray⟩, yp, ym, .int .u64 (Y.val.flags.toNat : Int)]), step_loadA 48 (.tmp 4) (h) (0) [.string ⟨Y.key.toArray⟩, .int .i64 Y.val.kind, .int .i64 Y.val.time, .int .i64 Y.val.node, .bool Y.val.dead, .string ⟨Y.val.text.toArray⟩, yp, ym, .int .u64 (Y.val.flags.toNat : Int)] (by kernel_rfl) (wanted_some 4 39 true (by kernel_rfl) (by kernel_rfl) (by kernel_rfl) (by kernel_rfl)) (knows_old 4 (.pointer (some ⟨h, 0, none⟩)) (by kernel_rfl) e4) size_en agg_en (⟨hh, by simpa using hyc⟩), ?_⟩
  refine ⟨isVal (.int .i64 z), step_callV (.tmp 40) 84 #[.pointer (some ⟨g, 0, none⟩)] #[.tmp 44, .tmp 45] #[3, 48] #[(.int .i64 (q : Int)), (.agg #[.string ⟨Y.key.toArray⟩, .int .i64 Y.val.kind, .int .i64 Y.val.time, .int .i64 Y.val.node, .bool Y.val.dead, .string ⟨Y.val.text.toArray⟩, yp, ym, .int .u64 (Y.val.flags.toNat : Int)])] (by kernel_rfl) (wanted_some 4 39 true (by kernel_rfl) (by kernel_rfl) (by kernel_rfl) (by kernel_rfl)) (stable_val _) (knows_new (V := isVal (.func (.func 84) #[] #[.pointer (some ⟨g, 0, none⟩)])) 40 5 (by kernel_rfl) (by kernel_rfl) (by kernel_rfl)) (args2 (.tmp 44) (.tmp 45) (.int .i64 (q : Int)) (.agg #[.string ⟨Y.key.toArray⟩, .int .i64 Y.val.kind, .int .i64 Y.val.time, .int .i64 Y.val.node, .bool Y.val.dead, .string ⟨Y.val.text.toArray⟩, yp, ym, .int .u64 (Y.val.flags.toNat : Int)]) (knows_new (V := isVal (.int .i64 (q : Int))) 44 9 (by kernel_rfl) (by kernel_rfl) (by kernel_rfl)) (knows_new (V := isVal (.agg #[.string ⟨Y.key.toArray⟩, .int .i64 Y.val.kind, .int .i64 Y.val.time, .int .i64 Y.val.node, .bool Y.val.dead, .string ⟨Y.val.text.toArray⟩, yp, ym, .int .u64 (Y.val.flags.toNat : Int)])) 45 10 (by kernel_rfl) (by kernel_rfl) (by kernel_rfl))) (enters_of Tryz.func84 (by kernel_rfl) rfl) (by intro w' hb; exact cmp_val A (g) q X Y z _ w' HX (HV.keep hb) (en_mk hyp hym hb) hz), ?_⟩
  refine ⟨isVal (.bool (z == 0)), step_bin .eql 3 3 (.tmp 46) (.const (.int .i64 0)) (.int .i64 z) (.int .i64 0) (.bool (z == 0)) (by kernel_rfl) (wanted_some 4 39 true (by kernel_rfl) (by kernel_rfl) (by kernel_rfl) (by kernel_rfl)) (knows_new (V := isVal (.int .i64 z)) 46 11 (by kernel_rfl) (by kernel_rfl) (by kernel_rfl)) (knows_const _) (fun _ => rfl) (eql_int _ _ _ _ _ rfl), ?_⟩
  refine ⟨isVal (.bool (z == 0)), step_pick (.tmp 39) (.tmp 47) (.const (.bool false)) true (by kernel_rfl) (wanted_none (by kernel_rfl)) (stable_val _) (knows_new (V := isVal (.bool true)) 39 4 (by kernel_rfl) (by kernel_rfl) (by kernel_rfl)) (knows_new (V := isVal (.bool (z == 0))) 47 12 (by kernel_rfl) (by kernel_rfl) (by kernel_rfl)), ?_⟩
  refine ⟨isVal (.int .i64 (m : Int)), step_assign (.tmp 35) (by kernel_rfl) (wanted_none (by kernel_rfl)) (stable_val _) (knows_new (V := isVal (.int .i64 (m : Int))) 35 0 (by kernel_rfl) (by kernel_rfl) (by kernel_rfl)), ?_⟩
  refine ⟨isVal (.bool (z == 0)), step_assign (.tmp 48) (by kernel_rfl) (wanted_none (by kernel_rfl)) (stable_val _) (knows_new (V := isVal (.bool (z == 0))) 48 13 (by kernel_rfl) (by kernel_rfl) (by kernel_rfl)), ?_⟩
  intro a w hkp hb hd
  rw [kept_of hkp [some 35, some 36, some 37, some 38, some 39, some 40, some 41, some 42, some 43, some 44, some 45, some 46, some 47, some 48, some 6, some 7] [35, 36, 37, 38, 39, 40, 41, 42, 43, 44, 45, 46, 47, 48, 6, 7] (by kernel_rfl) (by decide)]
  have d6 := fdone_of (hd 14 (by rw [show bs8Ops.size = 16 by kernel_rfl]; decide)) (t := 6) (V := isVal (.int .i64 (m : Int))) (by kernel_rfl) (by kernel_rfl)
  have d7 := fdone_of (hd 15 (by rw [show bs8Ops.size = 16 by kernel_rfl]; decide)) (t := 7) (V := isVal (.bool (z == 0))) (by kernel_rfl) (by kernel_rfl)
  exact hQ (fun s => a.tmps.getD s undef) w d6 d7 hb
noncomputable def bs9Ops : Array Oper := regionOf Tryz.f83 8
set_option maxRecDepth 100000 in
set_option maxHeartbeats 2000000 in
theorem bs9_region (Q : Exit → Act → World → Prop) (a0 : Act) (w0 : World) (hsz : a0.tmps.size = 49) (n m : Nat) (e9 : a0.tmps.getD 9 undef = .int .i64 (m : Int)) (e8 : a0.tmps.getD 8 undef = .int .i64 (n : Int)) (hm : n ≤ m)
    (hQ : ∀ (g : Nat → Value) (w : World), g 6 = .int .i64 (m : Int) → g 7 = .bool false → Below w0.heap.size w0 w → Q .normal { tmps := [35, 36, 37, 38, 39, 40, 41, 42, 43, 44, 45, 46, 47, 48, 6, 7].foldl (fun t s => t.setIfInBounds s (g s)) a0.tmps, defers := a0.defers } w) :
    (Code.region 8 bs9Ops true).wp Tryz.prog Q a0 w0 := by
  refine wp_region_flow mixed (by rw [hsz]; kernel_rfl) ?_
  rw [show bs9Ops.size = 16 by kernel_rfl]
  refine ⟨isVal (.int .i64 (m : Int)), step_move (.tmp 9) (by kernel_rfl) (wanted_none (by kernel_rfl)) (stable_val _) (knows_old 9 (.int .i64 (m : Int)) (by kernel_rfl) e9), ?_⟩
  refine ⟨isVal (.int .i64 (m : Int)), step_move (.tmp 9) (by kernel_rfl) (wanted_none (by kernel_rfl)) (stable_val _) (knows_old 9 (.int .i64 (m : Int)) (by kernel_rfl) e9), ?_⟩
  refine ⟨isVal (.int .i64 (n : Int)), step_move (.tmp 8) (by kernel_rfl) (wanted_none (by kernel_rfl)) (stable_val _) (knows_old 8 (.int .i64 (n : Int)) (by kernel_rfl) e8), ?_⟩
  refine ⟨isVal (.bool false), step_bin .lss 3 3 (.tmp 36) (.tmp 37) (.int .i64 (m : Int)) (.int .i64 (n : Int)) (.bool false) (by kernel_rfl) (wanted_none (by kernel_rfl)) (knows_new (V := isVal (.int .i64 (m : Int))) 36 1 (by kernel_rfl) (by kernel_rfl) (by kernel_rfl)) (knows_new (V := isVal (.int .i64 (n : Int))) 37 2 (by kernel_rfl) (by kernel_rfl) (by kernel_rfl)) (fun _ => rfl) (lss_int _ _ _ _ _ (by simp; omega)), ?_⟩
  refine ⟨isVal (.bool false), step_move (.tmp 38) (by kernel_rfl) (wanted_none (by kernel_rfl)) (stable_val _) (knows_new (V := isVal (.bool false)) 38 3 (by kernel_rfl) (by kernel_rfl) (by kernel_rfl)), ?_⟩
  refine ⟨_, step_skip 4 39 true false (by kernel_rfl) (by kernel_rfl) (by kernel_rfl) (by kernel_rfl) rfl, ?_⟩
  refine ⟨_, step_skip 4 39 true false (by kernel_rfl) (by kernel_rfl) (by kernel_rfl) (by kernel_rfl) rfl, ?_⟩
  refine ⟨_, step_skip 4 39 true false (by kernel_rfl) (by kernel_rfl) (by kernel_rfl) (by kernel_rfl) rfl, ?_⟩
  refine ⟨_, step_skip 4 39 true false (by kernel_rfl) (by kernel_rfl) (by kernel_rfl) (by kernel_rfl) rfl, ?_⟩
  refine ⟨_, step_skip 4 39 true false (by kernel_rfl) (by kernel_rfl) (by kernel_rfl) (by kernel_rfl) rfl, ?_⟩
  refine ⟨_, step_skip 4 39 true false (by kernel_rfl) (by kernel_rfl) (by kernel_rfl) (by kernel_rfl) rfl, ?_⟩
  refine ⟨_, step_skip 4 39 true false (by kernel_rfl) (by kernel_rfl) (by kernel_rfl) (by kernel_rfl) rfl, ?_⟩
  refine ⟨_, step_skip 4 39 true false (by kernel_rfl) (by kernel_rfl) (by kernel_rfl) (by kernel_rfl) rfl, ?_⟩
  refine ⟨isVal (.bool false), step_pick (.tmp 39) (.tmp 47) (.const (.bool false)) false (by kernel_rfl) (wanted_none (by kernel_rfl)) (stable_val _) (knows_new (V := isVal (.bool false)) 39 4 (by kernel_rfl) (by kernel_rfl) (by kernel_rfl)) (knows_const _), ?_⟩
  refine ⟨isVal (.int .i64 (m : Int)), step_assign (.tmp 35) (by kernel_rfl) (wanted_none (by kernel_rfl)) (stable_val _) (knows_new (V := isVal (.int .i64 (m : Int))) 35 0 (by kernel_rfl) (by kernel_rfl) (by kernel_rfl)), ?_⟩
  refine ⟨isVal (.bool false), step_assign (.tmp 48) (by kernel_rfl) (wanted_none (by kernel_rfl)) (stable_val _) (knows_new (V := isVal (.bool false)) 48 13 (by kernel_rfl) (by kernel_rfl) (by kernel_rfl)), ?_⟩
  intro a w hkp hb hd
  rw [kept_of hkp [some 35, some 36, some 37, some 38, some 39, some 40, some 41, some 42, some 43, some 44, some 45, some 46, some 47, some 48, some 6, some 7] [35, 36, 37, 38, 39, 40, 41, 42, 43, 44, 45, 46, 47, 48, 6, 7] (by kernel_rfl) (by decide)]
  have d6 := fdone_of (hd 14 (by rw [show bs9Ops.size = 16 by kernel_rfl]; decide)) (t := 6) (V := isVal (.int .i64 (m : Int))) (by kernel_rfl) (by kernel_rfl)
  have d7 := fdone_of (hd 15 (by rw [show bs9Ops.size = 16 by kernel_rfl]; decide)) (t := 7) (V := isVal (.bool false)) (by kernel_rfl) (by kernel_rfl)
  exact hQ (fun s => a.tmps.getD s undef) w d6 d7 hb
end Go.Proofs.YtkjghoomdefbbaaGreatDoor
end
section
namespace Go.Proofs.YtkjghoomdefbbaaGreatDoor
open Go.RowKit
set_option linter.unusedVariables false
set_option linter.unusedSimpArgs false
attribute [local irreducible] setN

theorem pos_eq {l : List En} {x : En} (hl : Asc l) {k : Nat} (hk : k ≤ l.length) (h1 : ∀ t y, t < k → l[t]? = some y → lessE y x = true) (h2 : ∀ t y, k ≤ t → l[t]? = some y → lessE y x = false) : posN l x = k := by
  have hp := pos_le l x
  by_cases e : posN l x < k
  · have := h1 _ _ e (List.getElem?_eq_getElem (by omega))
    have := (pos_before hl _ _ (List.getElem?_eq_getElem (by omega))).1 this
    omega
  · by_cases e2 : k < posN l x
    · have h3 := (pos_before (x := x) hl k _ (List.getElem?_eq_getElem (by omega))).2 e2
      rw [h2 k _ (Nat.le_refl _) (List.getElem?_eq_getElem (by omega))] at h3
      cases h3
    · omega
theorem hit_at {l : List En} {x y : En} {k : Nat} (hp : posN l x = k) (hy : l[k]? = some y) : hitB l x = nameB y x := by unfold hitB; rw [hp, hy]
theorem hit_end {l : List En} {x : En} {k : Nat} (hp : posN l x = k) (hy : l.length ≤ k) : hitB l x = false := by unfold hitB; rw [hp, List.getElem?_eq_none hy]
theorem ord_get {A : Ar} {k : Nat} {q : Nat} {X : En} (hi : A.index[k]? = some (q : Int)) (hX : A.slots[q]? = some X) : (ordA A)[k]? = some X := by
  unfold ordA; rw [List.getElem?_map, hi, Option.map_some, slotAt_some hX]
set_option maxRecDepth 100000 in
set_option maxHeartbeats 2000000 in
theorem bsearch_any (A : Ar) (g : Nat) (Y : En) (vi u : Value) (w : World) (hok : OkA A) (HV : VarA w g A) (hi : isCells (A.index.map intC) vi w) (hu : isEn Y u w) : Calls Tryz.prog 83 #[vi, u, .func (.func 84) #[] #[.pointer (some ⟨g, 0, none⟩)]] w fun e w' => e = .returned (.tuple #[.int .i64 (posN (ordA A) Y : Int), .bool (hitB (ordA A) Y)]) ∧ Below w.heap.size w w' := by
  by_cases he : A.index = []
  · obtain ⟨ia, ci, rfl⟩ := hi.len
    have hl : (ordA A).length = 0 := by unfold ordA; rw [he]; rfl
    have hp : posN (ordA A) Y = 0 := by have := pos_le (ordA A) Y; omega
    have hh : hitB (ordA A) Y = false := hit_end hp (by omega)
    rw [hp, hh, List.length_map, he, List.length_nil]
    obtain ⟨yp, ym, rfl, hyp, hym⟩ := hu
    have hb0 := lit_below w (.cells #[.string ⟨Y.key.toArray⟩, .int .i64 Y.val.kind, .int .i64 Y.val.time, .int .i64 Y.val.node, .bool Y.val.dead, .string ⟨Y.val.text.toArray⟩, yp, ym, .int .u64 (Y.val.flags.toNat : Int)] 48)
    have hB := Kept.mk hb0
    have HB := Kept.mk (Blk.new w 48 [.string ⟨Y.key.toArray⟩, .int .i64 Y.val.kind, .int .i64 Y.val.time, .int .i64 Y.val.node, .bool Y.val.dead, .string ⟨Y.val.text.toArray⟩, yp, ym, .int .u64 (Y.val.flags.toNat : Int)] w.heap.size rfl)
    have KY := Kept.mk (And.intro (stable_cells _ _ _ _ hyp hb0) (stable_cells _ _ _ _ hym hb0))
    replace HV := Kept.mk (HV.keep hb0)
    clear hyp hym
    clear hi hp hh hl
    go_enter Tryz.func83, Tryz.ntmps83
    go_wp2_with fail
    generalize (w.alloc (.cells #[.string ⟨Y.key.toArray⟩, .int .i64 Y.val.kind, .int .i64 Y.val.time, .int .i64 Y.val.node, .bool Y.val.dead, .string ⟨Y.val.text.toArray⟩, yp, ym, .int .u64 (Y.val.flags.toNat : Int)] 48)) = W0 at *
    go_loopw [9, 10] (fun s9 s10 wr => s9 = .int .i64 0 ∧ s10 = .int .i64 0 ∧ Kept (Below w.heap.size w wr)) (fun _ _ _ => 0)
    case atStart => exact ⟨rfl, rfl, hB⟩
    case round =>
      obtain ⟨rfl, rfl, B⟩ := hrel
      go_wp2_with fail
      refine bs9_region _ _ _ rfl 0 0 rfl rfl (by omega) ?_
      intro f9 W9 d6 d7 hb9
      simp only [List.foldl_cons, List.foldl_nil, d6, d7]
      generalize f9 35 = y35
      generalize f9 36 = y36
      generalize f9 37 = y37
      generalize f9 38 = y38
      generalize f9 39 = y39
      generalize f9 40 = y40
      generalize f9 41 = y41
      generalize f9 42 = y42
      generalize f9 43 = y43
      generalize f9 44 = y44
      generalize f9 45 = y45
      generalize f9 46 = y46
      generalize f9 47 = y47
      generalize f9 48 = y48
      clear d6 d7
      simp only [List.setIfInBounds_toArray, List.set_cons_succ, List.set_cons_zero]
      have B2 := Kept.mk (B.out.trans (hb9.mono B.out.size))
      go_wp2
      go_ret2
      exact ⟨rfl, B2.out⟩
  · obtain ⟨bi, oi, ci, rfl, hbi, hci⟩ := cells_get hi he
    have HO := Kept.mk hok
    have HI := Kept.mk hci
    have hn : A.index.length ≤ 8 := by have := hok.len; have := hok.fits; have := hok.room; omega
    clear hi hci hok
    generalize hN : A.index.length = n at *
    have HN := Kept.mk hN
    obtain ⟨P, hP⟩ : ∃ P, posN (ordA A) Y = P := ⟨_, rfl⟩
    obtain ⟨Z, hZ⟩ : ∃ Z, hitB (ordA A) Y = Z := ⟨_, rfl⟩
    rw [hP, hZ]
    have HP := Kept.mk (And.intro hP hZ)
    clear hP hZ hN he
    obtain ⟨yp, ym, rfl, hyp, hym⟩ := hu
    have hb0 := lit_below w (.cells #[.string ⟨Y.key.toArray⟩, .int .i64 Y.val.kind, .int .i64 Y.val.time, .int .i64 Y.val.node, .bool Y.val.dead, .string ⟨Y.val.text.toArray⟩, yp, ym, .int .u64 (Y.val.flags.toNat : Int)] 48)
    have hB := Kept.mk hb0
    have HB := Kept.mk (Blk.new w 48 [.string ⟨Y.key.toArray⟩, .int .i64 Y.val.kind, .int .i64 Y.val.time, .int .i64 Y.val.node, .bool Y.val.dead, .string ⟨Y.val.text.toArray⟩, yp, ym, .int .u64 (Y.val.flags.toNat : Int)] w.heap.size rfl)
    have KY := Kept.mk (And.intro (stable_cells _ _ _ _ hyp hb0) (stable_cells _ _ _ _ hym hb0))
    replace HV := Kept.mk (HV.keep hb0)
    clear hyp hym
    have hsz := hB.out.size
    go_enter Tryz.func83, Tryz.ntmps83
    go_wp2_with fail
    generalize (w.alloc (.cells #[.string ⟨Y.key.toArray⟩, .int .i64 Y.val.kind, .int .i64 Y.val.time, .int .i64 Y.val.node, .bool Y.val.dead, .string ⟨Y.val.text.toArray⟩, yp, ym, .int .u64 (Y.val.flags.toNat : Int)] 48)) = W0 at *
    go_loopw [9, 10] (fun s9 s10 wr => ∃ lo hi : Nat, lo ≤ hi ∧ hi ≤ n ∧ s9 = .int .i64 (lo : Int) ∧ s10 = .int .i64 (hi : Int) ∧ Kept (Below W0.heap.size W0 wr) ∧ Kept (∀ t y, t < lo → (ordA A)[t]? = some y → lessE y Y = true) ∧ Kept (∀ t y, hi ≤ t → (ordA A)[t]? = some y → lessE y Y = false)) (fun s9 s10 _ => (intOf s10).toNat - (intOf s9).toNat)
    case atStart => exact ⟨0, n, Nat.zero_le _, Nat.le_refl _, rfl, rfl, ⟨Below.refl _ _⟩, ⟨fun t y h => absurd h (Nat.not_lt_zero _)⟩, ⟨fun t y h1 h2 => by
      have h3 := (List.getElem?_eq_some_iff.1 h2).1
      rw [ord_length HO.out, ← HO.out.len, HN.out] at h3
      omega⟩⟩
    case round =>
      obtain ⟨lo, hi, hlh, hhn, rfl, rfl, B, L1, L2⟩ := hrel
      have HVr := Kept.mk (HV.out.keep B.out)
      have HBr := Kept.mk (HB.out.keep B.out)
      have KYr := Kept.mk (And.intro (stable_cells _ _ _ _ KY.out.1 B.out) (stable_cells _ _ _ _ KY.out.2 B.out))
      have hszr := B.out.size
      by_cases hlt : lo < hi
      · obtain ⟨m, hm⟩ : ∃ m, (lo + hi) / 2 = m := ⟨_, rfl⟩
        have hm' : ((lo : Int) + (hi : Int)) / 2 = (m : Int) := by omega
        have hmn : m < n := by omega
        have hlm : lo ≤ m ∧ m < hi := by omega
        obtain ⟨p, hp⟩ : ∃ p, A.index[m]? = some p := ⟨_, List.getElem?_eq_getElem (by rw [HN.out]; exact hmn)⟩
        have hr := HO.out.rng p (List.mem_of_getElem? hp)
        obtain ⟨q, rfl⟩ : ∃ q : Nat, p = (q : Int) := ⟨p.toNat, by omega⟩
        obtain ⟨X, hX⟩ : ∃ X, A.slots[q]? = some X := ⟨_, List.getElem?_eq_getElem (by omega)⟩
        have hO := ord_get hp hX
        have kq := ((hB.out.trans (B.out.mono hsz)).cell (p := ⟨bi, oi + m, none⟩) hbi).trans (HI.out m _ hp)
        obtain ⟨z, hz⟩ : ∃ z, ordI X Y = z := ⟨_, rfl⟩
        have hd := ordI_neg X Y
        rw [hz] at hd
        have KX := Kept.mk (And.intro hX (And.intro hO (And.intro kq (And.intro hz hd))))
        clear hX hO kq hz hd hr hp hm
        have hlt' : (lo : Int) < (hi : Int) := by omega
        go_wp2_with fail
        refine bs5_region _ _ _ rfl A g w.heap.size bi oi ci n m q z X Y yp ym rfl rfl rfl rfl hmn KX.out.2.2.1 (by omega) HBr.out.lt HBr.out.cells.2 KYr.out.1 KYr.out.2 KX.out.1 HVr.out KX.out.2.2.2.1 ?_
        intro f9 W9 d31 hb9
        simp only [List.foldl_cons, List.foldl_nil, d31]
        generalize f9 24 = y24
        generalize f9 25 = y25
        generalize f9 26 = y26
        generalize f9 27 = y27
        generalize f9 28 = y28
        generalize f9 29 = y29
        generalize f9 30 = y30
        clear d31
        simp only [List.setIfInBounds_toArray, List.set_cons_succ, List.set_cons_zero]
        have B2 := Kept.mk (B.out.trans (hb9.mono B.out.size))
        rw [KX.out.2.2.2.2]
        cases hl : lessE X Y with
        | true =>
          have L1' : Kept (∀ t y, t < m + 1 → (ordA A)[t]? = some y → lessE y Y = true) := ⟨fun t y ht hy => (pos_before HO.out.asc t y hy).2 (by
            have := (pos_before HO.out.asc m X KX.out.2.1).1 hl; omega)⟩
          clear hl
          go_wp2
          go_roundw
          case rel => exact ⟨m + 1, hi, by omega, hhn, by go_num, rfl, B2, L1', L2⟩
          case measure => simp [intOf]; omega
        | false =>
          have L2' : Kept (∀ t y, m ≤ t → (ordA A)[t]? = some y → lessE y Y = false) := ⟨fun t y ht hy => by
            cases h : lessE y Y with
            | false => rfl
            | true =>
              have h1 := (pos_before HO.out.asc t y hy).1 h
              have h2 := (pos_before (x := Y) HO.out.asc m X KX.out.2.1).2 (by omega)
              rw [hl] at h2; cases h2⟩
          clear hl
          go_wp2
          go_roundw
          case rel => exact ⟨lo, m, by omega, by omega, rfl, by go_num, B2, L1, L2'⟩
          case measure => simp [intOf]; omega
      · obtain rfl : hi = lo := by omega
        have hpp := pos_eq HO.out.asc (k := hi) (x := Y) (by rw [ord_length HO.out, ← HO.out.len, HN.out]; exact hhn) L1.out L2.out
        have e1 : P = hi := HP.out.1.symm.trans hpp
        by_cases hin : hi < n
        · obtain ⟨p, hp⟩ : ∃ p, A.index[hi]? = some p := ⟨_, List.getElem?_eq_getElem (by rw [HN.out]; exact hin)⟩
          have hr := HO.out.rng p (List.mem_of_getElem? hp)
          obtain ⟨q, rfl⟩ : ∃ q : Nat, p = (q : Int) := ⟨p.toNat, by omega⟩
          obtain ⟨X, hX⟩ : ∃ X, A.slots[q]? = some X := ⟨_, List.getElem?_eq_getElem (by omega)⟩
          have hO := ord_get hp hX
          have kq := ((hB.out.trans (B.out.mono hsz)).cell (p := ⟨bi, oi + hi, none⟩) hbi).trans (HI.out hi _ hp)
          obtain ⟨z, hz⟩ : ∃ z, ordI X Y = z := ⟨_, rfl⟩
          have e2 : Z = (z == 0) := by
            rw [← hz, ordI_zero X Y (L2.out hi X (Nat.le_refl _) hO), ← HP.out.2]
            exact hit_at hpp hO
          have KX := Kept.mk (And.intro hX (And.intro hO (And.intro kq hz)))
          have KE := Kept.mk (And.intro e1 e2)
          clear hX hO kq hz hr hp e1 e2 hpp
          go_wp2_with fail
          refine bs8_region _ _ _ rfl A g w.heap.size bi oi ci n hi q z X Y yp ym rfl rfl rfl rfl rfl hin KX.out.2.2.1 (by omega) HBr.out.lt HBr.out.cells.2 KYr.out.1 KYr.out.2 KX.out.1 HVr.out KX.out.2.2.2 ?_
          intro f9 W9 d6 d7 hb9
          simp only [List.foldl_cons, List.foldl_nil, d6, d7]
          generalize f9 35 = y35
          generalize f9 36 = y36
          generalize f9 37 = y37
          generalize f9 38 = y38
          generalize f9 39 = y39
          generalize f9 40 = y40
          generalize f9 41 = y41
          generalize f9 42 = y42
          generalize f9 43 = y43
          generalize f9 44 = y44
          generalize f9 45 = y45
          generalize f9 46 = y46
          generalize f9 47 = y47
          generalize f9 48 = y48
          clear d6 d7
          simp only [List.setIfInBounds_toArray, List.set_cons_succ, List.set_cons_zero]
          have B2 := Kept.mk (hB.out.trans ((B.out.trans (hb9.mono B.out.size)).mono hsz))
          generalize (z == 0) = zz at *
          go_wp2
          go_ret2
          exact ⟨by rw [KE.out.1, KE.out.2]; rfl, B2.out⟩
        · have e2 : Z = false := by rw [← HP.out.2]; exact hit_end hpp (by rw [ord_length HO.out, ← HO.out.len, HN.out]; omega)
          have KE := Kept.mk (And.intro e1 e2)
          clear e1 e2 hpp
          go_wp2_with fail
          refine bs9_region _ _ _ rfl n hi rfl rfl (by omega) ?_
          intro f9 W9 d6 d7 hb9
          simp only [List.foldl_cons, List.foldl_nil, d6, d7]
          generalize f9 35 = y35
          generalize f9 36 = y36
          generalize f9 37 = y37
          generalize f9 38 = y38
          generalize f9 39 = y39
          generalize f9 40 = y40
          generalize f9 41 = y41
          generalize f9 42 = y42
          generalize f9 43 = y43
          generalize f9 44 = y44
          generalize f9 45 = y45
          generalize f9 46 = y46
          generalize f9 47 = y47
          generalize f9 48 = y48
          clear d6 d7
          simp only [List.setIfInBounds_toArray, List.set_cons_succ, List.set_cons_zero]
          have B2 := Kept.mk (hB.out.trans ((B.out.trans (hb9.mono B.out.size)).mono hsz))
          go_wp2
          go_ret2
          exact ⟨by rw [KE.out.1, KE.out.2]; rfl, B2.out⟩
set_option maxRecDepth 100000 in
set_option maxHeartbeats 2000000 in
theorem search_any (A : Ar) (Y : En) (v u : Value) (w : World) (hok : OkA A) (hv : isAr A v w) (hu : isEn Y u w) : Calls Tryz.prog 54 #[v, u] w fun e w' => e = .returned (.tuple #[.int .i64 (posN (ordA A) Y : Int), .bool (hitB (ordA A) Y)]) ∧ Below w.heap.size w w' := by
  obtain ⟨vs, vi, rfl, hs, hi⟩ := hv
  obtain ⟨hB, V⟩ := abox w A vs vi hs hi w.heap.size rfl
  obtain ⟨yp, ym, rfl, hyp, hym⟩ := hu
  obtain ⟨hBn, E⟩ := ebox (w.alloc (.cells #[.int .i64 A.cap, vs, vi] 25)) Y yp ym (stable_cells _ _ _ _ hyp hB.out) (stable_cells _ _ _ _ hym hB.out) (w.heap.size + 1) (by simp)
  replace V := Kept.mk (V.out.keep hBn.out)
  replace hB := Kept.mk (hB.out.trans (hBn.out.mono hB.out.size))
  clear hBn hs hi hyp hym
  obtain ⟨_, vi', _, _, hi', ka0, ka1, ka2⟩ := V.out.open_
  have HI := Kept.mk hi'
  obtain ⟨qb, rb, xb, yb, kb0, kb1, kb2, kb3, kb4, kb5, kb6, kb7, kb8⟩ := E.out.open_
  have XB := Kept.mk xb
  clear hi' xb yb
  have hcb := bsearch_any A w.heap.size Y _ _ _ hok V.out HI.out XB.out
  generalize posN (ordA A) Y = P at *
  generalize hitB (ordA A) Y = Z at *
  have HC := Kept.mk hcb
  clear hcb
  go_enter Tryz.func54, Tryz.ntmps54
  go_wp2_with fail
  refine HC.out.mono ?_
  rintro e W1 ⟨rfl, hb⟩
  replace hB := Kept.mk (hB.out.trans (hb.mono hB.out.size))
  clear hb ka0 ka1 ka2 kb0 kb1 kb2 kb3 kb4 kb5 kb6 kb7 kb8 XB HI V E HC
  go_wp2
  go_ret2
  exact ⟨rfl, hB.out⟩
def nameL (kind : Int) (key : List UInt8) : Value := .agg #[.string ⟨key.toArray⟩, .int .i64 kind, .int .i64 0, .int .i64 0, .bool false, .string ⟨#[]⟩, .slice none 0 0, .slice none 0 0, .int .u64 0]
theorem name_en (kind : Int) (key : List UInt8) (w : World) : isEn (nameE kind key) (.agg #[.string ⟨key.toArray⟩, .int .i64 kind, .int .i64 0, .int .i64 0, .bool false, .string ⟨#[]⟩, .slice none 0 0, .slice none 0 0, .int .u64 0]) w := ⟨.slice none 0 0, .slice none 0 0, rfl, .inl ⟨rfl, rfl⟩, .inl ⟨rfl, rfl⟩⟩
set_option maxRecDepth 100000 in
set_option maxHeartbeats 2000000 in
theorem find_any (A : Ar) (kind : Int) (key : List UInt8) (v : Value) (w : World) (hv : isAr A v w) (hF : FitA A) : Calls Tryz.prog 30 #[v, .int .i64 kind, .string ⟨key.toArray⟩] w fun e w' => e = .returned (.int .i64 (findI A (nameE kind key))) ∧ Below w.heap.size w w' := by
  obtain ⟨vs, vi, rfl, hs, hi⟩ := hv
  obtain ⟨hB, V⟩ := abox w A vs vi hs hi w.heap.size rfl
  clear hs hi
  obtain ⟨_, _, xa, _, _, ka0, ka1, ka2⟩ := V.out.open_
  have XA := Kept.mk xa
  clear xa
  go_enter Tryz.func30, Tryz.ntmps30
  go_wp2_with fail
  refine (acheck_any A _ _ XA.out hF).mono ?_
  rintro e W1 ⟨rfl, hb⟩
  replace hB := Kept.mk (hB.out.trans (hb.mono hB.out.size))
  replace V := Kept.mk (V.out.keep hb)
  clear hb ka0 ka1 ka2 XA
  cases hok : okA A with
  | false =>
    have hE := Kept.mk (show findI A (nameE kind key) = -1 by unfold findI; rw [hok]; rfl)
    rw [chk_A0 hok]
    go_wp2
    go_ret
    exact ⟨by rw [hE.out]; rfl, hB.out⟩
  | true =>
    rw [chk_A1 hok]
    have HO := Kept.mk (okA_iff.1 hok)
    have HE := Kept.mk (show findI A (nameE kind key) = if hitB (ordA A) (nameE kind key) = true then placeI A (nameE kind key) else -1 by unfold findI; rw [if_pos hok])
    clear hok
    obtain ⟨_, _, xa, _, _, ka0, ka1, ka2⟩ := V.out.open_
    have XA := Kept.mk xa
    clear xa
    go_wp2_with fail
    refine (search_any A (nameE kind key) _ _ _ HO.out XA.out (name_en kind key _)).mono ?_
    rintro e W2 ⟨rfl, hb⟩
    replace hB := Kept.mk (hB.out.trans (hb.mono hB.out.size))
    replace V := Kept.mk (V.out.keep hb)
    clear hb ka0 ka1 ka2 XA
    cases hh : hitB (ordA A) (nameE kind key) with
    | false =>
      have hE := Kept.mk (show findI A (nameE kind key) = -1 by rw [HE.out, hh]; rfl)
      go_wp2
      go_ret
      exact ⟨by rw [hE.out]; rfl, hB.out⟩
    | true =>
      have hE := Kept.mk (show findI A (nameE kind key) = placeI A (nameE kind key) by rw [HE.out, hh]; rfl)
      obtain ⟨h1, h2, _, _⟩ := place_spec HO.out hh
      obtain ⟨_, vi2, _, _, hi2, ka0, ka1, ka2⟩ := V.out.open_
      have hlt := (List.getElem?_eq_some_iff.1 h2).1
      obtain ⟨bi, oi, ci, rfl, hbi, hci⟩ := cells_get hi2 (by intro e; rw [e] at hlt; simp at hlt)
      have kc := hci _ _ h2
      clear hi2 hci HE
      generalize A.index.length = n at *
      generalize placeI A (nameE kind key) = q at *
      generalize posN (ordA A) (nameE kind key) = p at *
      have hlt' : (p : Int) < (n : Int) := by omega
      go_wp2
      go_ret
      exact ⟨by rw [hE.out]; rfl, hB.out⟩
end Go.Proofs.YtkjghoomdefbbaaGreatDoor
end
section
namespace Go.Proofs.YtkjghoomdefbbaaGreatDoor
open Go.RowKit
set_option linter.unusedVariables false
set_option linter.unusedSimpArgs false

def flatE (ps : List (En × Value × Value)) : List Value := ps.flatMap fun q => enL q.1 q.2.1 q.2.2
theorem flatE_cons (q : En × Value × Value) (ps : List (En × Value × Value)) : flatE (q :: ps) = enL q.1 q.2.1 q.2.2 ++ flatE ps := rfl
theorem flatE_snoc (ps : List (En × Value × Value)) (q : En × Value × Value) : flatE (ps ++ [q]) = flatE ps ++ enL q.1 q.2.1 q.2.2 := by unfold flatE; simp
theorem flatE_length : ∀ ps : List (En × Value × Value), (flatE ps).length = ps.length * 9
  | [] => rfl
  | q :: ps => by rw [flatE_cons, List.length_append, flatE_length ps, List.length_cons]; show 9 + _ = _; omega
theorem flatE_get : ∀ {ps : List (En × Value × Value)} {j : Nat} {q : En × Value × Value}, ps[j]? = some q → ∀ {i : Nat} {x : Value}, (enL q.1 q.2.1 q.2.2)[i]? = some x → (flatE ps)[j * 9 + i]? = some x
  | [], j, q, h, _, _, _ => by simp at h
  | p :: ps, 0, q, h, i, x, hx => by
    simp only [List.getElem?_cons_zero, Option.some.injEq] at h
    subst h
    have := (List.getElem?_eq_some_iff.1 hx).1
    rw [flatE_cons, Nat.zero_mul, Nat.zero_add, List.getElem?_append_left this]; exact hx
  | p :: ps, j + 1, q, h, i, x, hx => by
    rw [List.getElem?_cons_succ] at h
    have e : (j + 1) * 9 + i = 9 + (j * 9 + i) := by omega
    rw [flatE_cons, e, List.getElem?_append_right (by show 9 ≤ _; omega), show 9 + (j * 9 + i) - (enL p.1 p.2.1 p.2.2).length = j * 9 + i by show 9 + (j * 9 + i) - 9 = _; omega]
    exact flatE_get h hx
def RowsOk (ps : List (En × Value × Value)) (w : World) : Prop := ∀ q ∈ ps, isCells (q.1.val.plus.map intC) q.2.1 w ∧ isCells (q.1.val.minus.map intC) q.2.2 w
def OffQ (b : Nat) (q : En × Value × Value) : Prop := (q.1.val.plus.map intC = [] ∨ blk q.2.1 ≠ some b) ∧ (q.1.val.minus.map intC = [] ∨ blk q.2.2 ≠ some b)
theorem own_low {B B' : Nat} {w : World} {e : TypeId} {size : Nat} {v : Value} {n : Nat} {xs : List Value} (h : w.ownsRow B e size v n xs) (hB : B' ≤ B) : w.ownsRow B' e size v n xs := by
  obtain ⟨hl, h | ⟨g, cap, cur, hv, hg, rest⟩⟩ := h
  · exact ⟨hl, .inl h⟩
  · exact ⟨hl, .inr ⟨g, cap, cur, hv, Nat.le_trans hB hg, rest⟩⟩
theorem own_ens {B : Nat} {w : World} {v : Value} {ps : List (En × Value × Value)} (h : w.ownsRow B 48 9 v ps.length (flatE ps)) (hr : RowsOk ps w) : isEns (ps.map (·.1)) v w := by
  obtain ⟨hl, ⟨rfl, h0⟩ | ⟨g, cap, cur, rfl, hB, hg, hn, hc, hcs, ht⟩⟩ := h
  · have : ps = [] := List.eq_nil_of_length_eq_zero h0
    subst this
    exact .inl ⟨rfl, rfl⟩
  · refine .inr (.inr ⟨g, 0, cap, by rw [List.length_map], (Array.getElem?_eq_some_iff.1 hg).1, fun j E hj => ?_⟩)
    rw [List.getElem?_map] at hj
    obtain ⟨q, hq, rfl⟩ := Option.map_eq_some_iff.1 hj
    obtain ⟨h1, h2⟩ := hr q (List.mem_of_getElem? hq)
    refine ⟨q.2.1, q.2.2, fun i x hx => ?_, h1, h2⟩
    have hx2 := flatE_get hq (i := i) (x := x) hx
    rw [← ht, List.getElem?_take] at hx2
    split at hx2
    · have e : w.cell? ⟨g, 0 + j * 9 + i, none⟩ = cur[j * 9 + i]? := by simp [World.cell?, hg]
      rw [e, ← Array.getElem?_toList]
      exact hx2
    · cases hx2
/-- What changes: a struct in block g, with rows of its own. -/
structure ChA (B : Nat) (w : World) (g : Nat) (A : Ar) (vs vi : Value) (ps : List (En × Value × Value)) : Prop where
  st : Blk w g [.int .i64 A.cap, vs, vi]
  lo : B ≤ g
  own : w.ownsRow B 48 9 vs ps.length (flatE ps)
  sl : ps.map (·.1) = A.slots
  idx : w.ownsRow B 3 1 vi A.index.length (A.index.map intC)
  rows : RowsOk ps w
  n1 : vs.ownBlock ≠ some g
  n2 : vi.ownBlock ≠ some g
  n3 : ∀ b, vs.ownBlock = some b → vi.ownBlock ≠ some b
  off : ∀ q ∈ ps, ∀ b, b = g ∨ vs.ownBlock = some b ∨ vi.ownBlock = some b → OffQ b q
  nw : ∀ q ∈ ps, NewB B q.2.1 ∧ NewB B q.2.2
theorem ChA.keep {B : Nat} {w w' : World} {g : Nat} {A : Ar} {vs vi : Value} {ps : List (En × Value × Value)} (h : ChA B w g A vs vi ps) (hb : Below w.heap.size w w') : ChA B w' g A vs vi ps :=
  ⟨h.st.keep hb, h.lo, own_grow h.own hb, h.sl, own_grow h.idx hb, fun q hq => ⟨stable_cells _ _ _ _ (h.rows q hq).1 hb, stable_cells _ _ _ _ (h.rows q hq).2 hb⟩, h.n1, h.n2, h.n3, h.off, h.nw⟩
theorem ChA.low {B B' : Nat} {w : World} {g : Nat} {A : Ar} {vs vi : Value} {ps : List (En × Value × Value)} (h : ChA B w g A vs vi ps) (hB : B' ≤ B) : ChA B' w g A vs vi ps :=
  ⟨h.st, Nat.le_trans hB h.lo, own_low h.own hB, h.sl, own_low h.idx hB, h.rows, h.n1, h.n2, h.n3, h.off, fun q hq => ⟨(h.nw q hq).1.low hB, (h.nw q hq).2.low hB⟩⟩
theorem ChA.ens {B : Nat} {w : World} {g : Nat} {A : Ar} {vs vi : Value} {ps : List (En × Value × Value)} (h : ChA B w g A vs vi ps) : isEns A.slots vs w := by
  have := own_ens h.own h.rows
  rwa [h.sl] at this
theorem ChA.ints {B : Nat} {w : World} {g : Nat} {A : Ar} {vs vi : Value} {ps : List (En × Value × Value)} (h : ChA B w g A vs vi ps) : isCells (A.index.map intC) vi w := by
  refine isOwn.cells (B := B) (e := 3) ?_
  unfold isOwn
  rw [List.length_map]
  exact h.idx
theorem ChA.ar {B : Nat} {w : World} {g : Nat} {A : Ar} {vs vi : Value} {ps : List (En × Value × Value)} (h : ChA B w g A vs vi ps) : isAr A (.agg #[.int .i64 A.cap, vs, vi]) w := ⟨vs, vi, rfl, h.ens, h.ints⟩
theorem ChA.len {B : Nat} {w : World} {g : Nat} {A : Ar} {vs vi : Value} {ps : List (En × Value × Value)} (h : ChA B w g A vs vi ps) : ps.length = A.slots.length := by rw [← h.sl, List.length_map]
/-- What was changed, as an arena, where a block older than its rows is written. -/
theorem ChA.ar_set {B : Nat} {w : World} {g : Nat} {A : Ar} {vs vi : Value} {ps : List (En × Value × Value)} (h : ChA B w g A vs vi ps) {b : Nat} (hb : b < B) (k : Nat) (l : List Value) : isAr A (.agg #[.int .i64 A.cap, vs, vi]) (setN w b k l) := by
  have bt : Bt (fun x => x = b) w (setN w b k l) := by
    have key : ∀ (l : List Value) (k : Nat) (w : World), Bt (fun x => x = b) w (setN w b k l) := by
      intro l
      induction l with
      | nil => intro k w; exact ⟨rfl, rfl, rfl, Nat.le_refl _, fun _ _ _ => rfl⟩
      | cons v r ih => intro k w; rw [setN]; exact (bt_set (S := fun x => x = b) b k v w rfl).trans (ih (k + 1) _)
    exact key l k w
  have hw : ∀ x, B ≤ x → ¬ x = b := fun x hx e => by omega
  refine ⟨vs, vi, rfl, ?_, ?_⟩
  · have := own_ens (bt.own h.own (fun x hx => hw x (h.own.lt x hx).1)) (fun q hq => ⟨bt.cells (h.rows q hq).1 (.inr (fun x hx => hw x ((h.nw q hq).1 x hx))), bt.cells (h.rows q hq).2 (.inr (fun x hx => hw x ((h.nw q hq).2 x hx)))⟩)
    rwa [h.sl] at this
  · refine isOwn.cells (B := B) (e := 3) ?_
    unfold isOwn
    rw [List.length_map]
    exact bt.own h.idx (fun x hx => hw x (h.idx.lt x hx).1)
theorem ChA.lt {B : Nat} {w : World} {g : Nat} {A : Ar} {vs vi : Value} {ps : List (En × Value × Value)} (h : ChA B w g A vs vi ps) : g < w.heap.size := h.st.lt
/-- One more slot. -/
theorem ChA.push {B : Nat} {w w' : World} {g : Nat} {A : Ar} {vs vi : Value} {ps : List (En × Value × Value)} (h : ChA B w g A vs vi ps) (E : En) (v vp vm : Value)
    (h1 : w'.ownsRow B 48 9 v (ps.length + 1) (flatE ps ++ enL E vp vm)) (h2 : isCells (E.val.plus.map intC) vp w') (h3 : isCells (E.val.minus.map intC) vm w') (h4 : NewB w.heap.size vp) (h5 : NewB w.heap.size vm) (h6 : v.ownBlock = vs.ownBlock ∨ NewB w.heap.size v) (h7 : ∀ b, v.ownBlock = some b → (E.val.plus.map intC = [] ∨ blk vp ≠ some b) ∧ (E.val.minus.map intC = [] ∨ blk vm ≠ some b)) (h8 : Blk w' g [.int .i64 A.cap, v, vi]) (h9 : Bt (fun b => b = g ∨ vs.ownBlock = some b) w w') : ChA B w' g ⟨A.cap, A.slots ++ [E], A.index⟩ v vi (ps ++ [(E, vp, vm)]) := by
  have hg := h.lt
  have new_v : ∀ b, v.ownBlock = some b → vs.ownBlock = some b ∨ w.heap.size ≤ b := fun b hb => h6.imp (fun e => by rw [← e]; exact hb) (fun e => e b (own_blk_eq hb))
  have vi_lt : ∀ b, vi.ownBlock = some b → b < w.heap.size := fun b hb => (h.idx.lt b hb).2
  have hBw : B ≤ w.heap.size := by have := h.lo; omega
  refine ⟨h8, h.lo, ?_, ?_, h9.own h.idx (fun b hb => ?_), ?_, ?_, h.n2, ?_, ?_, fun q hq => (List.mem_append.1 hq).elim (h.nw q) (fun hq => by rw [List.mem_singleton] at hq; subst hq; exact ⟨h4.low hBw, h5.low hBw⟩)⟩
  · rw [List.length_append, flatE_snoc]; exact h1
  · rw [List.map_append, h.sl]; rfl
  · rintro (rfl | e)
    · exact h.n2 hb
    · exact h.n3 b e hb
  · intro q hq
    rcases List.mem_append.1 hq with hq | hq
    · have o := h.off q hq
      refine ⟨h9.cells (h.rows q hq).1 ?_, h9.cells (h.rows q hq).2 ?_⟩
      · by_cases e : q.1.val.plus.map intC = []
        · exact .inl e
        · exact .inr (fun b hb hS => ((o b (by rcases hS with hS | hS; exact .inl hS; exact .inr (.inl hS))).1.resolve_left e) hb)
      · by_cases e : q.1.val.minus.map intC = []
        · exact .inl e
        · exact .inr (fun b hb hS => ((o b (by rcases hS with hS | hS; exact .inl hS; exact .inr (.inl hS))).2.resolve_left e) hb)
    · rw [List.mem_singleton] at hq
      subst hq
      exact ⟨h2, h3⟩
  · intro e
    rcases new_v g e with e | e
    · exact h.n1 e
    · omega
  · intro b hb e
    rcases new_v b hb with e2 | e2
    · exact h.n3 b e2 e
    · have := vi_lt b e; omega
  · intro q hq b hb
    rcases List.mem_append.1 hq with hq | hq
    · have o := h.off q hq
      rcases hb with hb | hb | hb
      · exact o b (.inl hb)
      · rcases new_v b hb with e | e
        · exact o b (.inr (.inl e))
        · refine ⟨(cells_lt (h.rows q hq).1).imp id (fun h3 e3 => ?_), (cells_lt (h.rows q hq).2).imp id (fun h3 e3 => ?_)⟩
          · have := h3 b e3; omega
          · have := h3 b e3; omega
      · exact o b (.inr (.inr hb))
    · rw [List.mem_singleton] at hq
      subst hq
      rcases hb with rfl | hb | hb
      · exact ⟨.inr (h4.ne hg), .inr (h5.ne hg)⟩
      · exact h7 b hb
      · exact ⟨.inr (h4.ne (vi_lt b hb)), .inr (h5.ne (vi_lt b hb))⟩
attribute [local irreducible] setN
section
variable {P : Program} {ops : Array Oper} {Q : Exit → Act → World → Prop} {i : Nat} {a : Act} {w : World} {c : Nat}
theorem tail_assignA (x : Operand) (d : Tmp) (v : Value) (hop : (ops[i]?).map (fun o => (o.op, o.guard)) = some (.assign x, none)) (hd : (ops[i]?).bind (·.dst) = some d) (hx : a.eval x = v) (h : Tail P ops Q c (i + 1) (a.put (some d) v) w) : Tail P ops Q (c + 1) i a w :=
  tail_op (fun _ _ => True) hop fun o ho e => by
    rw [ho] at hd
    simp only [Option.bind_some] at hd
    unfold Oper.wp execOp
    rw [e]
    simp only [Sem.run_pure, Oper.upon, hx, hd]
    exact h
theorem tail_box (t : TypeId) (x : Operand) (d : Tmp) (cs : Array Value) (hop : (ops[i]?).map (fun o => (o.op, o.guard)) = some (.box t x, none)) (hd : (ops[i]?).bind (·.dst) = some d) (hx : a.eval x = .agg cs) (h : Tail P ops Q c (i + 1) (a.put (some d) (.pointer (some ⟨w.heap.size, 0, none⟩))) (w.alloc (.cells cs t))) : Tail P ops Q (c + 1) i a w :=
  tail_op (fun _ _ => True) hop fun o ho e => by
    rw [ho] at hd
    simp only [Option.bind_some] at hd
    unfold Oper.wp execOp
    rw [e]
    simp [Instr.box, newVar, hx, Oper.upon, hd, Value.cells]
    exact h
end
theorem built_ar (c : Int) (p : Option Addr) (n cp : Nat) : Tryz.prog.built 25 [(0, .int .i64 c), (2, .slice p n cp)] = some #[.int .i64 c, .slice none 0 0, .slice p n cp] := by kernel_rfl
theorem built_ch (c : Int) (p : Option Addr) (n cp : Nat) : Tryz.prog.built 78 [(0, .agg #[.int .i64 c, .slice none 0 0, .slice p n cp])] = some #[.int .i64 c, .slice none 0 0, .slice p n cp] := by kernel_rfl
theorem put_kept4 {Q : Exit → Act → World → Prop} {a : Act} {d1 d2 d3 d4 : Tmp} {v1 v2 v3 v4 : Value} {t : Array Value} {ds : List Deferred} {w : World} (e : a = { tmps := t, defers := ds }) (h : Q .normal { tmps := (((t.setIfInBounds d1 v1).setIfInBounds d2 v2).setIfInBounds d3 v3).setIfInBounds d4 v4, defers := ds } w) : Q .normal ((((a.put (some d1) v1).put (some d2) v2).put (some d3) v3).put (some d4) v4) w := by
  subst e; exact h
noncomputable def chg1Ops : Array Oper := regionOf Tryz.f47 1
set_option maxRecDepth 100000 in
set_option maxHeartbeats 2000000 in
theorem chg1_region (Q : Exit → Act → World → Prop) (a0 : Act) (w0 : World) (hsz : a0.tmps.size = 36) (A : Ar) (g : Nat) (vs vi : Value) (e1 : a0.tmps.getD 1 undef = .pointer (some ⟨g, 0, none⟩)) (HG : Blk w0 g [.int .i64 A.cap, vs, vi]) (hi : isCells (A.index.map intC) vi w0) (hl : A.index.length * 8 ≤ 140737488355328)
    (hQ : ∀ (y : Nat → Value) (c : Nat) (vi' : Value) (w : World), ChA w0.heap.size w c ⟨A.cap, [], A.index⟩ (.slice none 0 0) vi' [] → Below w0.heap.size w0 w →
      Q .normal { tmps := (((([6, 7, 8, 9, 10, 11, 12, 13, 3].foldl (fun t s => t.setIfInBounds s (y s)) a0.tmps).setIfInBounds 11 (.agg #[.int .i64 A.cap, .slice none 0 0, vi'])).setIfInBounds 12 (.agg #[.int .i64 A.cap, .slice none 0 0, vi'])).setIfInBounds 13 (.pointer (some ⟨c, 0, none⟩))).setIfInBounds 3 (.pointer (some ⟨c, 0, none⟩)), defers := a0.defers } w) :
    (Code.region 1 chg1Ops true).wp Tryz.prog Q a0 w0 := by
  refine wp_region_cov 5 mixed (by rw [hsz]; kernel_rfl) (by kernel_rfl) ?_
  rw [show chg1Ops.size - 5 = 4 by kernel_rfl]
  refine ⟨isVal (.pointer (some ⟨g, 0, none⟩)), step_field 25 (.tmp 1) 0 ⟨g, 0, none⟩ ⟨g, 0, none⟩ (by kernel_rfl) (wanted_none (by kernel_rfl)) (knows_old 1 (.pointer (some ⟨g, 0, none⟩)) (by kernel_rfl) e1) (f_ar_0_0 (g)), ?_⟩
  refine ⟨isVal (.int .i64 A.cap), step_read 3 (.tmp 6) ⟨g, 0, none⟩ (.int .i64 A.cap) (by kernel_rfl) (wanted_none (by kernel_rfl)) (knows_new (V := isVal (.pointer (some ⟨g, 0, none⟩))) 6 0 (by kernel_rfl) (by kernel_rfl) (by kernel_rfl)) (HG.cells.2 0 _ rfl) (HG.lt) (agg_noZ), ?_⟩
  refine ⟨isVal (.pointer (some ⟨g, 2, none⟩)), step_field 25 (.tmp 1) 2 ⟨g, 0, none⟩ ⟨g, 2, none⟩ (by kernel_rfl) (wanted_none (by kernel_rfl)) (knows_old 1 (.pointer (some ⟨g, 0, none⟩)) (by kernel_rfl) e1) (f_ar_0_2 (g)), ?_⟩
  refine ⟨isVal vi, step_read 23 (.tmp 8) ⟨g, 2, none⟩ vi (by kernel_rfl) (wanted_none (by kernel_rfl)) (knows_new (V := isVal (.pointer (some ⟨g, 2, none⟩))) 8 2 (by kernel_rfl) (by kernel_rfl) (by kernel_rfl)) (HG.cells.2 2 _ rfl) (HG.lt) (agg_noI), ?_⟩
  refine ⟨(isOwn w0.heap.size 3 (A.index.map intC)), step_call 74 #[.tmp 9] #[23] #[vi] (by kernel_rfl) (wanted_none (by kernel_rfl)) (stable_own _ _ _) (args1 (.tmp 9) vi (knows_new (V := isVal vi) 9 3 (by kernel_rfl) (by kernel_rfl) (by kernel_rfl))) (enters_of Tryz.func74 (by kernel_rfl) rfl) (by intro w' hb; exact clone_i' w0.heap.size A.index vi w' (stable_cells _ _ _ _ hi hb) hl hb.size), ?_⟩
  intro a w hkp hb hd
  have d7 := fdone_of (hd 1 (by decide)) (t := 7) (V := isVal (.int .i64 A.cap)) (by kernel_rfl) (by kernel_rfl)
  have d10 := fdone_of (hd 4 (by decide)) (t := 10) (V := isOwn w0.heap.size 3 (A.index.map intC)) (by kernel_rfl) (by kernel_rfl)
  generalize hv : a.tmps.getD 10 undef = v at d10
  have hown : w.ownsRow w0.heap.size 3 1 v A.index.length (A.index.map intC) := by have := d10; unfold isOwn at this; rwa [List.length_map] at this
  obtain ⟨p, n, cp, hvv⟩ : ∃ p n c, v = .slice p n c := by
    obtain ⟨_, ⟨rfl, _⟩ | ⟨g', cap, cur, rfl, _⟩⟩ := hown
    · exact ⟨_, _, _, rfl⟩
    · exact ⟨_, _, _, rfl⟩
  have hs : a.tmps.size = 36 := hkp.2.1.trans hsz
  obtain ⟨y, ey⟩ := kept_ex hkp [some 6, some 7, some 8, some 9, some 10, some 11, some 12, some 13, some 3] [6, 7, 8, 9, 10, 11, 12, 13, 3] (by kernel_rfl) (by decide)
  have hlt : ∀ j, v.ownBlock = some j → w0.heap.size ≤ j ∧ j < w.heap.size := hown.lt
  subst hvv
  have b1 : Tryz.prog.built 25 ((#[(0, .tmp 7), (2, .tmp 10)] : Array (Nat × Operand)).map fun (i, x) => (i, a.eval x)).toList = some #[.int .i64 A.cap, .slice none 0 0, .slice p n cp] := by
    have e7 : a.eval (.tmp 7) = .int .i64 A.cap := d7
    have e10 : a.eval (.tmp 10) = .slice p n cp := hv
    simp only [List.map_toArray, List.map_cons, List.map_nil, e7, e10]
    exact built_ar _ _ _ _
  refine tail_build 25 #[(0, .tmp 7), (2, .tmp 10)] #[.int .i64 A.cap, .slice none 0 0, .slice p n cp] 11 (by kernel_rfl) (by kernel_rfl) b1 ?_
  have b2 : Tryz.prog.built 78 ((#[(0, .tmp 11)] : Array (Nat × Operand)).map fun (i, x) => (i, (a.put (some 11) (.agg #[.int .i64 A.cap, .slice none 0 0, .slice p n cp])).eval x)).toList = some #[.int .i64 A.cap, .slice none 0 0, .slice p n cp] := by
    have e11 : (a.put (some 11) (.agg #[.int .i64 A.cap, .slice none 0 0, .slice p n cp])).eval (.tmp 11) = .agg #[.int .i64 A.cap, .slice none 0 0, .slice p n cp] := getD_put_self (by rw [hs]; decide)
    simp only [List.map_toArray, List.map_cons, List.map_nil, e11]
    exact built_ch _ _ _ _
  refine tail_build 78 #[(0, .tmp 11)] #[.int .i64 A.cap, .slice none 0 0, .slice p n cp] 12 (by kernel_rfl) (by kernel_rfl) b2 ?_
  refine tail_box 78 (.tmp 12) 13 #[.int .i64 A.cap, .slice none 0 0, .slice p n cp] (by kernel_rfl) (by kernel_rfl) (getD_put_self (by rw [size_put, hs]; decide)) ?_
  refine tail_assignA (.tmp 13) 3 (.pointer (some ⟨w.heap.size, 0, none⟩)) (by kernel_rfl) (by kernel_rfl) (getD_put_self (by rw [size_put, size_put, hs]; decide)) ?_
  have hbl := lit_below w (.cells #[.int .i64 A.cap, .slice none 0 0, .slice p n cp] 78)
  have hch : ChA w0.heap.size (w.alloc (.cells #[.int .i64 A.cap, .slice none 0 0, .slice p n cp] 78)) w.heap.size ⟨A.cap, [], A.index⟩ (.slice none 0 0) (.slice p n cp) [] := ⟨Blk.new w 78 _ _ rfl, hb.size, World.ownsRow_nil _ _ _ _, rfl, own_grow hown hbl, (fun q hq => by cases hq), (fun h => by cases h), (fun h => by have := (hlt _ h).2; omega), (fun b h => by cases h), (fun q hq => by cases hq), (fun q hq => by cases hq)⟩
  have hq := hQ y w.heap.size (.slice p n cp) _ hch (hb.trans (hbl.mono hb.size))
  exact put_kept4 ey hq
set_option maxRecDepth 100000 in
set_option maxHeartbeats 2000000 in
theorem change_any (A : Ar) (v : Value) (w : World) (hv : isAr A v w) (hF : FitA A) : Calls Tryz.prog 47 #[v] w fun e w' => ∃ c vs vi ps, e = .returned (.pointer (some ⟨c, 0, none⟩)) ∧ ChA w.heap.size w' c A vs vi ps ∧ Below w.heap.size w w' := by
  obtain ⟨vs0, vi0, rfl, hs, hi⟩ := hv
  have hb0 := lit_below w (.cells #[.int .i64 A.cap, vs0, vi0] 25)
  have HG := Kept.mk (Blk.new w 25 [.int .i64 A.cap, vs0, vi0] w.heap.size rfl)
  have hB := Kept.mk hb0
  have HS := Kept.mk hs
  have HG0 : w.heap.size < (w.alloc (.cells #[.int .i64 A.cap, vs0, vi0] 25)).heap.size := by simp
  have HI := Kept.mk (stable_cells _ _ _ _ hi hb0)
  have f1 := hF.slots
  have f2 := hF.index
  clear hs hi hb0
  go_enter Tryz.func47, Tryz.ntmps47
  go_wp2_with fail
  generalize (w.alloc (.cells #[.int .i64 A.cap, vs0, vi0] 25)) = W0 at *
  refine chg1_region _ _ _ rfl A w.heap.size vs0 vi0 rfl HG.out HI.out (by omega) ?_
  intro y c vi' W1 hch hb1
  simp only [List.foldl_cons, List.foldl_nil]
  generalize y 6 = z6
  generalize y 7 = z7
  generalize y 8 = z8
  generalize y 9 = z9
  generalize y 10 = z10
  generalize y 11 = z11
  generalize y 12 = z12
  generalize y 13 = z13
  generalize y 3 = z3
  simp only [List.setIfInBounds_toArray, List.set_cons_succ, List.set_cons_zero]
  have hsz := hB.out.size
  obtain ⟨N0, hN0⟩ : ∃ N0, W0.heap.size = N0 := ⟨_, rfl⟩
  rw [hN0] at hch HG0
  have HCH := Kept.mk (show ∃ vs vi ps, ChA N0 W1 c ⟨A.cap, A.slots.take 0, A.index⟩ vs vi ps from ⟨_, _, _, hch⟩)
  replace HG := Kept.mk (HG.out.keep hb1)
  replace hB := Kept.mk (hB.out.trans (hb1.mono hsz))
  have hgc : w.heap.size ≠ c := by have := hch.lo; have := HG0; omega
  obtain ⟨sa, cs, e0⟩ := HS.out.len
  have K1 := HG.out.cells.2 1 _ rfl
  clear HI hb1 hch
  subst e0
  go_wp2
  clear K1
  go_loopw [17] (fun i wr => ∃ k : Nat, k ≤ A.slots.length ∧ i = .int .i64 (k : Int) ∧ Kept (Below w.heap.size w wr) ∧ Kept (Blk wr w.heap.size [.int .i64 A.cap, .slice sa A.slots.length cs, vi0]) ∧ Kept (∃ vs vi ps, ChA N0 wr c ⟨A.cap, A.slots.take k, A.index⟩ vs vi ps)) (fun i _ => A.slots.length - (intOf i).toNat)
  case atStart => exact ⟨0, Nat.zero_le _, rfl, hB, HG, HCH⟩
  case round =>
    clear hB HG HCH
    obtain ⟨k, hk, rfl, B, HG, HCH⟩ := hrel
    by_cases hlt : k < A.slots.length
    · have hlt' : (k : Int) < (A.slots.length : Int) := by omega
      obtain ⟨E, hE⟩ : ∃ E, A.slots[k]? = some E := ⟨_, List.getElem?_eq_getElem hlt⟩
      obtain ⟨bs, os, cs', hvs, hbs, hat⟩ := HS.out.get hE
      injection hvs with h1 _ h2
      subst h1 h2
      obtain ⟨ep, em, hcell, hp0, hm0⟩ := hat
      have hsw := B.out.size
      have FE := Kept.mk (hF.ents E (List.mem_of_getElem? hE))
      have OP := Kept.mk (And.intro (cells_lt hp0) (cells_lt hm0))
      have hp := stable_cells _ _ _ _ hp0 B.out
      have hm := stable_cells _ _ _ _ hm0 B.out
      have kc0 : wr.cell? ⟨bs, os + k * 9, none⟩ = _ := (B.out.cell (p := ⟨bs, os + k * 9 + 0, none⟩) hbs).trans (hcell 0 _ rfl)
      have kc1 : wr.cell? ⟨bs, os + k * 9 + 1, none⟩ = _ := (B.out.cell (p := ⟨bs, os + k * 9 + 1, none⟩) hbs).trans (hcell 1 _ rfl)
      have kc2 : wr.cell? ⟨bs, os + k * 9 + 2, none⟩ = _ := (B.out.cell (p := ⟨bs, os + k * 9 + 2, none⟩) hbs).trans (hcell 2 _ rfl)
      have kc3 : wr.cell? ⟨bs, os + k * 9 + 3, none⟩ = _ := (B.out.cell (p := ⟨bs, os + k * 9 + 3, none⟩) hbs).trans (hcell 3 _ rfl)
      have kc4 : wr.cell? ⟨bs, os + k * 9 + 4, none⟩ = _ := (B.out.cell (p := ⟨bs, os + k * 9 + 4, none⟩) hbs).trans (hcell 4 _ rfl)
      have kc5 : wr.cell? ⟨bs, os + k * 9 + 5, none⟩ = _ := (B.out.cell (p := ⟨bs, os + k * 9 + 5, none⟩) hbs).trans (hcell 5 _ rfl)
      have kc6 : wr.cell? ⟨bs, os + k * 9 + 6, none⟩ = _ := (B.out.cell (p := ⟨bs, os + k * 9 + 6, none⟩) hbs).trans (hcell 6 _ rfl)
      have kc7 : wr.cell? ⟨bs, os + k * 9 + 7, none⟩ = _ := (B.out.cell (p := ⟨bs, os + k * 9 + 7, none⟩) hbs).trans (hcell 7 _ rfl)
      have kc8 : wr.cell? ⟨bs, os + k * 9 + 8, none⟩ = _ := (B.out.cell (p := ⟨bs, os + k * 9 + 8, none⟩) hbs).trans (hcell 8 _ rfl)
      obtain ⟨K1, K2, K3, K4, K5⟩ := enew wr E ep em hp hm wr.heap.size rfl
      have HH := Kept.mk ((Blk.new wr 48 [.string ⟨#[]⟩, .int .i64 0, .int .i64 0, .int .i64 0, .bool false, .string ⟨#[]⟩, .slice none 0 0, .slice none 0 0, .int .u64 0] wr.heap.size rfl).all_ (l := [.string ⟨E.key.toArray⟩, .int .i64 E.val.kind, .int .i64 E.val.time, .int .i64 E.val.node, .bool E.val.dead, .string ⟨E.val.text.toArray⟩, ep, em, .int .u64 (E.val.flags.toNat : Int)]) rfl)
      have HE := Kept.mk hE
      have HGW : w.heap.size < wr.heap.size := HG.out.lt
      clear hcell hp0 hm0 hp hm hE
      go_wp2_with (have hz0 := K1; refine wpList_storeN 48 rfl (.tmp 5) (.tmp 20) rfl wr.heap.size [.string ⟨E.key.toArray⟩, .int .i64 E.val.kind, .int .i64 E.val.time, .int .i64 E.val.node, .bool E.val.dead, .string ⟨E.val.text.toArray⟩, ep, em, .int .u64 (E.val.flags.toNat : Int)] size_en rfl rfl K1.out rfl K2.out K5.out ?_; clear hz0 K1 K2 K5 kc0 kc1 kc2 kc3 kc4 kc5 kc6 kc7 kc8)
      have hs2 := K3.out.size
      have hw2 : wr.heap.size < (setN (wr.alloc (.cells #[.string ⟨#[]⟩, .int .i64 0, .int .i64 0, .int .i64 0, .bool false, .string ⟨#[]⟩, .slice none 0 0, .slice none 0 0, .int .u64 0] 48)) wr.heap.size 0 [.string ⟨E.key.toArray⟩, .int .i64 E.val.kind, .int .i64 E.val.time, .int .i64 E.val.node, .bool E.val.dead, .string ⟨E.val.text.toArray⟩, ep, em, .int .u64 (E.val.flags.toNat : Int)]).heap.size := HH.out.lt
      generalize (setN (wr.alloc (.cells #[.string ⟨#[]⟩, .int .i64 0, .int .i64 0, .int .i64 0, .bool false, .string ⟨#[]⟩, .slice none 0 0, .slice none 0 0, .int .u64 0] 48)) wr.heap.size 0 [.string ⟨E.key.toArray⟩, .int .i64 E.val.kind, .int .i64 E.val.time, .int .i64 E.val.node, .bool E.val.dead, .string ⟨E.val.text.toArray⟩, ep, em, .int .u64 (E.val.flags.toNat : Int)]) = W2 at *
      obtain ⟨vs, vi, ps, hch⟩ := HCH.out
      have hps : ps.length ≤ 1000 := by rw [hch.len]; simp; omega
      have hch2 := hch.keep K3.out
      have hvs : ∀ s, vs.ownBlock = some s → N0 ≤ s ∧ s < wr.heap.size := hch.own.lt
      refine chapp_region _ _ _ rfl c wr.heap.size N0 ps.length [.int .i64 A.cap, vs, vi] E vs ep em (flatE ps) rfl rfl hch2.st rfl HH.out K4.out.2.1 K4.out.2.2 FE.out hch2.own hps (by have := hch.lo; have := hch.lt; omega) (fun s hs => ?_) ?_
      · obtain ⟨l1, l2⟩ := hvs s hs
        refine ⟨fun e => hch.n1 (by rw [hs, e]), by omega, OP.out.1.imp id (fun h e => ?_), OP.out.2.imp id (fun h e => ?_)⟩
        · have := h s e; omega
        · have := h s e; omega
      intro y v vp vm W3 h1 h2 h3 h4 h5 h6 h7 h8 h9
      have hch3 := hch2.push E v vp vm h1 h2 h3 h4 h5 h6 h7 h8 h9
      have htk : A.slots.take k ++ [E] = A.slots.take (k + 1) := by rw [List.take_add_one, HE.out]; rfl
      simp only [htk] at hch3
      have B3 := Kept.mk (B.out.trans ((K3.out.mono hsw).trans (h9.below (fun b hb => by rcases hb with rfl | hb; (have := hch.lo; omega); (have := (hvs b hb).1; omega)) (by omega))))
      have HG3 := Kept.mk (h9.blk (HG.out.keep K3.out) (by rintro (e | e); exact hgc e; have := (hvs _ e).1; omega))
      have HCH3 := Kept.mk (show ∃ vs vi ps, ChA N0 W3 c ⟨A.cap, A.slots.take (k + 1), A.index⟩ vs vi ps from ⟨_, _, _, hch3⟩)
      clear h1 h2 h3 h4 h5 h6 h7 h8 h9 hch hch2 hch3 hvs K3 K4 HH
      simp only [List.foldl_cons, List.foldl_nil]
      generalize y 21 = z21'
      generalize y 22 = z22'
      generalize y 23 = z23'
      generalize y 24 = z24'
      generalize y 25 = z25'
      generalize y 26 = z26'
      generalize y 27 = z27'
      generalize y 28 = z28'
      generalize y 29 = z29'
      generalize y 30 = z30'
      generalize y 31 = z31'
      generalize y 32 = z32'
      generalize y 33 = z33'
      simp only [List.setIfInBounds_toArray, List.set_cons_succ, List.set_cons_zero]
      go_wp2
      go_roundw
      case rel => exact ⟨k + 1, by omega, by go_num, B3, HG3, HCH3⟩
      case measure => simp [intOf]; omega
    · have hlt' : ¬ (k : Int) < (A.slots.length : Int) := by omega
      obtain ⟨vs, vi, ps, hch⟩ := HCH.out
      rw [show A.slots.take k = A.slots from List.take_of_length_le (by omega)] at hch
      have HC := Kept.mk hch
      clear hch
      go_wp2
      go_ret
      exact ⟨c, rfl, ⟨vs, vi, ps, HC.out.low (by omega)⟩, B.out⟩
end Go.Proofs.YtkjghoomdefbbaaGreatDoor
end
section
namespace Go.Proofs
open Go.Shelf
def Tryz.laysIns_ren : Go.Shelf.Ren := ⟨fun | 21 => 77 | 27 => 102 | 28 => 103 | 35 => 118 | 39 => 129 | n => n, fun | 0 => 0 | 3 => 3 | 4 => 4 | 22 => 23 | n => n, fun | n => n⟩
theorem Tryz.laysIns : Go.Proofs.Lays2.n21 Tryz.prog Tryz.laysIns_ren := {
  mixed := by kernel_rfl
  f21 := Tryz.func77.trans (congrArg some (by kernel_rfl))
  f27 := Tryz.func102.trans (congrArg some (by kernel_rfl))
  f28 := Tryz.func103.trans (congrArg some (by kernel_rfl))
  f35 := Tryz.func118.trans (congrArg some (by kernel_rfl))
  f39 := Tryz.func129.trans (congrArg some (by kernel_rfl))
  t0 := Tryz.underlying0
  a0 := Tryz.isAgg0
  z0 := Tryz.sizeOf0
  v0 := Tryz.zeroValue0
  t3 := Tryz.underlying3
  a3 := Tryz.isAgg3
  z3 := Tryz.sizeOf3
  v3 := Tryz.zeroValue3
  t4 := Tryz.underlying4
  a4 := Tryz.isAgg4
  z4 := Tryz.sizeOf4
  v4 := Tryz.zeroValue4
  t22 := Tryz.underlying23
  a22 := Tryz.isAgg23
  z22 := Tryz.sizeOf23
  v22 := Tryz.zeroValue23
  i3 := by kernel_rfl }
end Go.Proofs
namespace Go.Proofs.YtkjghoomdefbbaaGreatDoor
open Go.RowKit
set_option linter.unusedVariables false
set_option linter.unusedSimpArgs false

def setL (cur : Array Value) : Nat → List Value → Array Value
  | _, [] => cur
  | o, v :: r => setL (cur.setIfInBounds o v) (o + 1) r
theorem setL_size : ∀ (vs : List Value) (o : Nat) (cur : Array Value), (setL cur o vs).size = cur.size
  | [], _, _ => rfl
  | v :: r, o, cur => by rw [setL, setL_size r]; simp
theorem setL_get : ∀ (vs : List Value) (o : Nat) (cur : Array Value) (j : Nat), (setL cur o vs)[j]? = if o ≤ j ∧ j < o + vs.length ∧ j < cur.size then vs[j - o]? else cur[j]?
  | [], o, cur, j => by rw [setL, if_neg (by simp; omega)]
  | v :: r, o, cur, j => by
    rw [setL, setL_get r (o + 1) _ j]
    simp only [Array.size_setIfInBounds, List.length_cons]
    by_cases h1 : o + 1 ≤ j ∧ j < o + 1 + r.length ∧ j < cur.size
    · rw [if_pos h1, if_pos (by omega), show j - o = (j - (o + 1)) + 1 by omega, List.getElem?_cons_succ]
    · rw [if_neg h1]
      by_cases h2 : j = o
      · subst h2
        by_cases h3 : j < cur.size
        · rw [if_pos (by omega), Nat.sub_self, List.getElem?_cons_zero, Array.getElem?_setIfInBounds_self_of_lt h3]
        · rw [if_neg (by omega), Array.getElem?_eq_none (by simp; omega), Array.getElem?_eq_none (by omega)]
      · rw [if_neg (by omega), Array.getElem?_setIfInBounds_ne (by omega)]
theorem heap_setCells {g : Nat} {e : TypeId} : ∀ (vs : List Value) (o : Nat) (w : World) (cur : Array Value), w.heap[g]? = some (.cells cur e (0, 0)) → (w.setCells g o vs).heap[g]? = some (.cells (setL cur o vs) e (0, 0))
  | [], _, _, _, h => h
  | v :: r, o, w, cur, h => by rw [World.setCells, setL]; exact heap_setCells r (o + 1) _ _ (Go.heap_setCell_same w g o cur e v h)
theorem setCells_gb (g : Nat) : ∀ (vs : List Value) (o : Nat) (w : World), w.grownBy (w.setCells g o vs) (some g)
  | [], _, w => (gb_pre (some g)).refl w
  | v :: r, o, w => by
    rw [World.setCells]
    refine (gb_pre (some g)).trans w (w.setCell ⟨g, o, none⟩ v) _ ⟨rfl, rfl, rfl, by simp, fun b _ hne => ?_⟩ (setCells_gb g r (o + 1) _)
    exact heap_setCell_other w ⟨g, o, none⟩ b v (by rintro rfl; exact hne rfl)
def insL (l : List Int) (i : Nat) (x : Int) : List Int := l.take i ++ (x :: l.drop i)
theorem insL_length (l : List Int) (i : Nat) (x : Int) (h : i ≤ l.length) : (insL l i x).length = l.length + 1 := by unfold insL; simp; omega
theorem insL_get (l : List Int) (i : Nat) (x : Int) (h : i ≤ l.length) (j : Nat) : (insL l i x)[j]? = if j < i then l[j]? else if j = i then some x else l[j - 1]? := by
  unfold insL
  by_cases h1 : j < i
  · rw [if_pos h1, List.getElem?_append_left (by simp; omega), List.getElem?_take_of_lt h1]
  · rw [if_neg h1, List.getElem?_append_right (by simp; omega)]
    have e : (l.take i).length = i := by simp; omega
    rw [e]
    by_cases h2 : j = i
    · subst h2; simp
    · rw [if_neg h2, show j - i = (j - i - 1) + 1 by omega, List.getElem?_cons_succ, List.getElem?_drop]
      congr 1; omega
theorem own_new_row {B : Nat} {w w' : World} {cur : Array Value} {cap : Nat} {cs : List Value} {g : Nat} (hg : w'.heap[g]? = some (.cells cur 3 (0, 0))) (hB : B ≤ g) (hn : cs.length ≤ cap) (hc : cap ≤ maxLen) (hs : cur.size = cap) (ht : cur.toList.take cs.length = cs) : w'.ownsRow B 3 1 (.slice (some ⟨g, 0, none⟩) cs.length cap) cs.length cs :=
  ⟨by simp, .inr ⟨g, cap, cur, rfl, hB, hg, hn, hc, by simp [hs], by simpa using ht⟩⟩
theorem own_alloc_row {B : Nat} {w : World} (cs : List Value) (cap : Nat) (z : Array Value) (hB : B ≤ w.heap.size) (hz : z.size = cap - cs.length) (hn : cs.length ≤ cap) (hc : cap ≤ maxLen) : (w.drew.alloc (.cells (cs.toArray ++ z) 3)).ownsRow B 3 1 (.slice (some ⟨w.heap.size, 0, none⟩) cs.length cap) cs.length cs :=
  own_new_row (w := w) (heap_alloc_new w.drew _) hB hn hc (by rw [Array.size_append, hz, List.size_toArray]; omega) (by simp)
theorem gb_fresh {w w' : World} (h : w.grownBy w' (some w.heap.size)) (r : Option Nat) : w.grownBy w' r := ⟨h.os, h.tape, h.output, h.size, fun b hb _ => h.block b hb (by intro e; injection e with e; omega)⟩
theorem take_eq {cur : Array Value} {cs : List Value} (hs : cs.length ≤ cur.size) (h : ∀ j, j < cs.length → cur[j]? = cs[j]?) : cur.toList.take cs.length = cs := by
  apply List.ext_getElem?
  intro j
  by_cases hj : j < cs.length
  · rw [List.getElem?_take_of_lt hj, Array.getElem?_toList, h j hj]
  · rw [List.getElem?_eq_none (by simp; omega), List.getElem?_eq_none (by omega)]
set_option maxRecDepth 100000 in
set_option maxHeartbeats 2000000 in
theorem insert_any (B : Nat) (l : List Int) (i vb : Nat) (x : Int) (v : Value) (w : World) (hown : w.ownsRow B 3 1 v l.length (l.map intC)) (hi : i ≤ l.length) (hl : l.length ≤ 100) (hB : B ≤ w.heap.size) (hvb : w.heap[vb]? = some (.cells #[intC x] 3 (0, 0))) (hne : v.ownBlock ≠ some vb) :
    Calls Tryz.prog 77 #[v, .int .i64 (i : Int), .slice (some ⟨vb, 0, none⟩) 1 1] w fun e w' => ∃ v', e = .returned v' ∧ w'.ownsRow B 3 1 v' (l.length + 1) ((insL l i x).map intC) ∧ w.grownBy w' v.ownBlock ∧ (v'.ownBlock = v.ownBlock ∨ v'.ownBlock = some w.heap.size) := by
  have hvs : ∀ (j : Nat) (u : Value), [intC x][j]? = some u → w.cell? ⟨vb, 0 + j, none⟩ = some u := by
    intro j u hu
    have : w.cell? ⟨vb, 0 + j, none⟩ = #[intC x][0 + j]? := by simp [World.cell?, hvb]
    rw [this, Nat.zero_add]
    simpa using hu
  have hone : ∀ u ∈ [intC x], u.oneCell' = true := by intro u hu; rw [List.mem_singleton] at hu; subst hu; rfl
  have hzs : ∀ k : Nat, (Builtin.zeroCells (Value.int .i64 0).cells k).size = k := fun k => by rw [size_zeroCells]; exact Nat.mul_one k
  have hlen := insL_length l i x hi
  obtain ⟨hcl, h0 | ⟨g, cap, cur, rfl, hBg, hg, hnc, hcm, hcs, ht⟩⟩ := hown
  · obtain ⟨rfl, h0⟩ := h0
    obtain rfl : l = [] := List.eq_nil_of_length_eq_zero h0
    obtain rfl : i = 0 := by simpa using hi
    refine (Any2.slices_Insert_int_end_grow Tryz.laysIns none 0 0 vb 0 1 1 [] [intC x] w (by decide) (by decide) (by decide) (by decide) rfl rfl (fun _ => rfl) (fun a h => by cases h) hvs hone).mono ?_
    rintro e w' ⟨rfl, rfl⟩
    have hge := grownCap_ge w (0 + 1) 0 (Tryz.laysIns_ren.t 3)
    have hle := grownCap_le_maxLen w (0 + 1) 0 (Tryz.laysIns_ren.t 3) (by unfold maxLen; omega)
    refine ⟨_, rfl, ?_, ⟨rfl, rfl, rfl, by simp, fun k hk _ => (lit_below w.drew _).block k hk⟩, .inr rfl⟩
    exact own_alloc_row [intC x] _ _ hB (hzs _) hge hle
  · have e1 : ∀ j : Nat, j < l.length → cur[j]? = some (intC (l.getD j 0)) := by
      intro j hj
      have h2 : (cur.toList.take (l.length * 1))[j]? = (l.map intC)[j]? := by rw [ht]
      rw [List.getElem?_take_of_lt (by omega), Array.getElem?_toList] at h2
      rw [h2, List.getElem?_map, List.getElem?_eq_getElem hj]
      simp [List.getD, List.getElem?_eq_getElem hj]
    have hcell : ∀ j : Nat, w.cell? ⟨g, 0 + j, none⟩ = cur[j]? := fun j => by simp [World.cell?, hg]
    have hcsz : cur.size = cap := by simpa using hcs
    have hsrc : ∀ (j : Nat) (u : Value), (l.map intC)[j]? = some u → w.cell? ⟨g, 0 + j, none⟩ = some u := by
      intro j u hu
      have hj := (List.getElem?_eq_some_iff.1 hu).1
      rw [List.length_map] at hj
      rw [hcell, e1 j hj, ← hu, List.getElem?_map, List.getElem?_eq_getElem hj]
      simp [List.getD, List.getElem?_eq_getElem hj]
    have hfz : ∀ j : Nat, w.frozen? ⟨g, j, none⟩ = false := fun j => by simp [World.frozen?, hg]
    have honel : ∀ u ∈ l.map intC, u.oneCell' = true := by intro u hu; obtain ⟨y, _, rfl⟩ := List.mem_map.1 hu; rfl
    have lget : ∀ j : Nat, j < l.length → l[j]? = some (l.getD j 0) := fun j hj => by simp [List.getD, List.getElem?_eq_getElem hj]
    by_cases hroom : l.length + 1 ≤ cap
    · have hsp : ∀ j : Nat, j < l.length + 1 → (w.cell? ⟨g, 0 + j, none⟩).isSome = true := fun j hj => by rw [hcell, Array.getElem?_eq_getElem (by omega)]; rfl
      by_cases hil : i = l.length
      · subst hil
        refine (Any2.slices_Insert_int_end_room Tryz.laysIns g 0 l.length cap vb 0 1 1 [intC x] w (by decide) hroom (by unfold maxLen at hcm; omega) rfl (fun j hj => by rw [Nat.zero_add]; have := hsp (l.length + j) (by omega); rwa [Nat.zero_add] at this) (fun j hj => hfz _) hvs hone).mono ?_
        rintro e w' ⟨rfl, rfl⟩
        refine ⟨_, rfl, ?_, setCells_gb g _ _ _, .inl rfl⟩
        have := own_new_row (B := B) (w := w) (cs := (insL l l.length x).map intC) (heap_setCells [intC x] (0 + l.length) w cur hg) hBg (by rw [List.length_map, hlen]; exact hroom) hcm (by rw [setL_size, hcsz]) (take_eq (by rw [List.length_map, hlen, setL_size]; omega) (fun j hj => by
          rw [List.length_map, hlen] at hj
          rw [setL_get, List.getElem?_map, insL_get l _ x hi]
          by_cases hj2 : j < l.length
          · rw [if_neg (by simp; omega), if_pos hj2, e1 j hj2, lget j hj2]; rfl
          · obtain rfl : j = l.length := by omega
            rw [if_pos (by simp; omega), if_neg (by omega), if_pos rfl]; simp))
        rwa [List.length_map, hlen] at this
      · refine (Any2.slices_Insert_int_shift Tryz.laysIns g 0 l.length cap i vb 0 1 1 (l.map intC) [intC x] w (by omega) (by decide) hroom (by unfold maxLen at hcm; omega) (by rintro rfl; exact hne rfl) (by simp) rfl hsrc hsp (fun j _ => hfz _) hvs honel hone 3 3 1 cap (by simp [World.shape?, hvb]) (by simp [World.shape?, hg, hcsz]) (by omega) (by simp [World.frozen?, hvb]) (by simp [World.frozen?, hvb])).mono ?_
        rintro e w' ⟨rfl, rfl⟩
        refine ⟨_, rfl, ?_, (gb_pre (some g)).trans _ _ _ ((gb_pre (some g)).trans _ _ _ ((gb_pre (some g)).drew w) (setCells_gb g _ _ _)) (setCells_gb g _ _ _), .inl rfl⟩
        have := own_new_row (B := B) (w := w) (cs := (insL l i x).map intC) (heap_setCells [intC x] (0 + i) _ _ (heap_setCells ((l.map intC).drop i) (0 + (i + 1)) w.drew cur hg)) hBg (by rw [List.length_map, hlen]; exact hroom) hcm (by rw [setL_size, setL_size, hcsz]) (take_eq (by rw [List.length_map, hlen, setL_size, setL_size]; omega) (fun j hj => by
          rw [List.length_map, hlen] at hj
          rw [setL_get, setL_get, List.getElem?_map, insL_get l _ x hi, setL_size]
          simp only [List.length_drop, List.length_map, List.length_singleton]
          by_cases hj2 : j < i
          · rw [if_neg (by omega), if_neg (by omega), if_pos hj2, e1 j (by omega), lget j (by omega)]; rfl
          · rw [if_neg hj2]
            by_cases hj3 : j = i
            · subst hj3
              rw [if_pos (by omega), if_pos rfl]; simp
            · rw [if_neg (by omega), if_pos (by omega), if_neg hj3, List.getElem?_drop, List.getElem?_map]
              congr 1; congr 1; omega))
        rwa [List.length_map, hlen] at this
    · by_cases hil : i = l.length
      · subst hil
        refine (Any2.slices_Insert_int_end_grow Tryz.laysIns (some ⟨g, 0, none⟩) l.length cap vb 0 1 1 (l.map intC) [intC x] w (by decide) hnc (by omega) (by omega) (by simp) rfl (fun h => by cases h) (fun a ha j u hu => by
          cases ha
          have := hsrc j u hu
          by_cases e0 : j = 0
          · subst e0; simpa [Addr.add] using this
          · simpa [Addr.add, e0] using this) hvs hone).mono ?_
        rintro e w' ⟨rfl, rfl⟩
        have hge := grownCap_ge w (l.length + 1) cap (Tryz.laysIns_ren.t 3)
        have hle := grownCap_le_maxLen w (l.length + 1) cap (Tryz.laysIns_ren.t 3) (by unfold maxLen; omega)
        refine ⟨_, rfl, ?_, ⟨rfl, rfl, rfl, by simp, fun k hk _ => (lit_below w.drew _).block k hk⟩, .inr rfl⟩
        have e2 : (l.map intC ++ [intC x]).length = l.length + 1 := by simp
        have := own_alloc_row (B := B) (w := w) (l.map intC ++ [intC x]) (grownCap w (l.length + 1) cap (Tryz.laysIns_ren.t 3)) (Builtin.zeroCells (Value.int .i64 0).cells (grownCap w (l.length + 1) cap (Tryz.laysIns_ren.t 3) - (l.length + 1))) hB (by rw [hzs, e2]) (by rw [e2]; exact hge) hle
        rw [e2] at this
        rw [show (insL l l.length x).map intC = l.map intC ++ [intC x] by simp [insL]]
        exact this
      · refine (Any2.slices_Insert_int_grow Tryz.laysIns g 0 l.length cap i vb 0 1 1 (l.map intC) [intC x] w (by omega) (by decide) hnc (by omega) (by omega) (by simp) rfl hsrc hvs honel hone).mono ?_
        rintro e w' ⟨rfl, rfl⟩
        have hge := grownCap_ge w (l.length + 1) cap (Tryz.laysIns_ren.t 3)
        have hle := grownCap_le_maxLen w (l.length + 1) cap (Tryz.laysIns_ren.t 3) (by unfold maxLen; omega)
        refine ⟨_, rfl, ?_, ?_, .inr rfl⟩
        · have hh : (w.alloc (.cells (((l.map intC).take i).toArray ++ Builtin.zeroCells (Value.int .i64 0).cells (l.length + 1 - i) ++ Builtin.zeroCells (Value.int .i64 0).cells (grownCap w (l.length + 1) cap (Tryz.laysIns_ren.t 3) - (l.length + 1))) 3)).drew.heap[w.heap.size]? = some (.cells (((l.map intC).take i).toArray ++ Builtin.zeroCells (Value.int .i64 0).cells (l.length + 1 - i) ++ Builtin.zeroCells (Value.int .i64 0).cells (grownCap w (l.length + 1) cap (Tryz.laysIns_ren.t 3) - (l.length + 1))) 3 (0, 0)) := heap_alloc_new w _
          have hh2 := heap_setCells [intC x] i _ _ hh
          have hh3 := heap_setCells ((l.map intC).drop i) (i + 1) (((w.alloc (.cells (((l.map intC).take i).toArray ++ Builtin.zeroCells (Value.int .i64 0).cells (l.length + 1 - i) ++ Builtin.zeroCells (Value.int .i64 0).cells (grownCap w (l.length + 1) cap (Tryz.laysIns_ren.t 3) - (l.length + 1))) 3)).drew.setCells w.heap.size i [intC x]).drew) _ hh2
          have hcs2 : (((l.map intC).take i).toArray ++ Builtin.zeroCells (Value.int .i64 0).cells (l.length + 1 - i) ++ Builtin.zeroCells (Value.int .i64 0).cells (grownCap w (l.length + 1) cap (Tryz.laysIns_ren.t 3) - (l.length + 1))).size = grownCap w (l.length + 1) cap (Tryz.laysIns_ren.t 3) := by rw [Array.size_append, Array.size_append, hzs, hzs]; simp; omega
          have := own_new_row (B := B) (w := w) (cs := (insL l i x).map intC) (cap := grownCap w (l.length + 1) cap (Tryz.laysIns_ren.t 3)) hh3 hB (by rw [List.length_map, hlen]; exact hge) hle (by rw [setL_size, setL_size, hcs2]) (take_eq (by rw [List.length_map, hlen, setL_size, setL_size, hcs2]; exact hge) (fun j hj => by
            rw [List.length_map, hlen] at hj
            rw [setL_get, setL_get, List.getElem?_map, insL_get l _ x hi, setL_size, hcs2]
            simp only [List.length_drop, List.length_map, List.length_singleton]
            by_cases hj2 : j < i
            · rw [if_neg (by omega), if_neg (by omega), if_pos hj2, Array.getElem?_append_left (by rw [Array.size_append, hzs]; simp; omega), Array.getElem?_append_left (by simp; omega)]
              simp only [List.getElem?_toArray]
              rw [List.getElem?_take_of_lt hj2, List.getElem?_map]
            · rw [if_neg hj2]
              by_cases hj3 : j = i
              · subst hj3
                rw [if_neg (by omega), if_pos (by omega), if_pos rfl]; simp
              · rw [if_pos (by omega), if_neg hj3, List.getElem?_drop, List.getElem?_map]
                congr 1; congr 1; omega))
          rw [List.length_map, hlen] at this
          exact this
        · refine gb_fresh ?_ _
          have P := gb_pre (some w.heap.size)
          exact P.trans _ _ _ (P.trans _ _ _ (P.trans _ _ _ (P.trans _ _ _ (World.grownBy_alloc w _ _) (P.drew _)) (setCells_gb _ _ _ _)) (P.drew _)) (setCells_gb _ _ _ _)
end Go.Proofs.YtkjghoomdefbbaaGreatDoor
end
section
namespace Go.Proofs.YtkjghoomdefbbaaGreatDoor
open Go.RowKit
set_option linter.unusedVariables false
set_option linter.unusedSimpArgs false

theorem setN_cells (g : Nat) : ∀ (l : List Value) (k : Nat) (w : World), setN w g k l = w.setCells g k l
  | [], _, _ => rfl
  | v :: r, k, w => by rw [setN, World.setCells, setN_cells g r]
theorem bt_setN {S : Nat → Prop} {g : Nat} (h : S g) : ∀ (l : List Value) (k : Nat) (w : World), Bt S w (setN w g k l)
  | [], _, w => ⟨rfl, rfl, rfl, Nat.le_refl _, fun _ _ _ => rfl⟩
  | v :: r, k, w => by rw [setN]; exact (bt_set g k v w h).trans (bt_setN h r (k + 1) _)
theorem storeCellsO {P : Program} (g o : Nat) : ∀ (l : List Value) (k : Nat) (w : World), Ones l → (∀ j, j < l.length → ∃ x, w.cell? ⟨g, o + k + j, none⟩ = some x) → Free5 w g → (storeCells ⟨g, o, none⟩ l k).run P w = .ok () (setN w g (o + k) l)
  | [], _, _, _, _, _ => rfl
  | v :: r, k, w, h1, h, hf => by
    obtain ⟨x, hx⟩ := h 0 (by simp)
    have ea : (⟨g, o, none⟩ : Addr).add k = ⟨g, o + k, none⟩ := by
      by_cases e : k = 0
      · subst e; simp [Addr.add]
      · simp [Addr.add, e]
    unfold storeCells
    rw [Sem.run_bind, ea, run_store P w _ v _ h1.1, show w.cell? ⟨g, o + k, none⟩ = some x from hx]
    simp only [hf (o + k), Bool.false_eq_true, if_false]
    rw [Result.andThen_ok, storeCellsO g o r (k + 1) _ h1.2 (fun j hj => ?_) (hf.set _ _)]
    · rfl
    · obtain ⟨x', hx'⟩ := h (j + 1) (by simp; omega)
      refine ⟨x', ?_⟩
      rw [World.cell?_setCell_other w _ _ _ (by intro hh; injection hh; omega), show o + (k + 1) + j = o + k + (j + 1) by omega]
      exact hx'
section
variable {P : Program} {ops : Array Oper} {Q : Exit → Act → World → Prop} {i : Nat} {a : Act} {w : World} {c : Nat}
theorem tail_storeO (t : TypeId) (x y : Operand) (g o : Nat) (l : List Value) (hop : (ops[i]?).map (fun o => (o.op, o.guard)) = some (.store t x y, none)) (hdst : (ops[i]?).map (·.dst) = some none) (hs : (P.info? t).map (·.size) = some l.length) (hx : a.eval x = .pointer (some ⟨g, o, none⟩)) (hy : a.eval y = .agg l.toArray)
    (h1 : Ones l) (hc : ∀ j, j < l.length → ∃ x, w.cell? ⟨g, o + j, none⟩ = some x) (hf : Free5 w g) (h : Tail P ops Q c (i + 1) a (setN w g o l)) : Tail P ops Q (c + 1) i a w :=
  tail_op (fun _ _ => True) hop fun op ho e => by
    obtain ⟨ie, hie, hz⟩ := Option.map_eq_some_iff.1 hs
    have hsz : (sizeOf t).run P w = .ok l.length w := by simp [sizeOf, typeInfo, hie, hz]
    have hst := storeCellsO (P := P) g o l 0 w h1 (by simpa using hc) hf
    rw [ho] at hdst
    simp only [Option.map_some, Option.some.injEq] at hdst
    unfold Oper.wp execOp
    rw [e]
    simp only [hx, hy, Instr.storeAt, Instr.sureAddr, Sem.run_bind, Sem.run_pure, Result.andThen_ok, storeVar, hsz]
    rw [if_neg (show ¬ ((Value.agg l.toArray).cells.size ≠ l.length) by show ¬ (l.toArray.size ≠ l.length); simp)]
    have hst2 : (storeCells ⟨g, o, none⟩ (Value.agg l.toArray).cells.toList 0).run P w = .ok () (setN w g o l) := hst
    rw [hst2]
    simp only [Result.andThen_ok, Oper.upon, hdst]
    exact h
end
theorem flatE_set : ∀ (ps : List (En × Value × Value)) (q : Nat) (p : En × Value × Value), q < ps.length → ∀ t, (flatE (ps.set q p))[t]? = if q * 9 ≤ t ∧ t < q * 9 + 9 then (enL p.1 p.2.1 p.2.2)[t - q * 9]? else (flatE ps)[t]?
  | [], q, p, h, _ => by simp at h
  | a :: ps, 0, p, h, t => by
    rw [List.set_cons_zero, flatE_cons, flatE_cons]
    by_cases ht : t < 9
    · rw [if_pos (by omega), List.getElem?_append_left (by show t < 9; exact ht)]; simp
    · rw [if_neg (by omega), List.getElem?_append_right (by show 9 ≤ t; omega), List.getElem?_append_right (by show 9 ≤ t; omega)]; rfl
  | a :: ps, q + 1, p, h, t => by
    rw [List.set_cons_succ, flatE_cons, flatE_cons]
    by_cases ht : t < 9
    · rw [if_neg (by omega), List.getElem?_append_left (by show t < 9; exact ht), List.getElem?_append_left (by show t < 9; exact ht)]
    · rw [List.getElem?_append_right (by show 9 ≤ t; omega), List.getElem?_append_right (by show 9 ≤ t; omega), flatE_set ps q p (by simpa using h)]
      show (if q * 9 ≤ t - 9 ∧ t - 9 < q * 9 + 9 then (enL p.1 p.2.1 p.2.2)[t - 9 - q * 9]? else (flatE ps)[t - 9]?) = _
      by_cases h2 : q * 9 ≤ t - 9 ∧ t - 9 < q * 9 + 9
      · rw [if_pos h2, if_pos (by omega)]; congr 1; omega
      · rw [if_neg h2, if_neg (by omega)]; rfl
attribute [local irreducible] setN
/-- A slot of what changes. -/
theorem ChA.slot {B : Nat} {w : World} {g : Nat} {A : Ar} {vs vi : Value} {ps : List (En × Value × Value)} (h : ChA B w g A vs vi ps) {q : Nat} {X : En} (hq : A.slots[q]? = some X) : ∃ s cap xp xm cur, vs = .slice (some ⟨s, 0, none⟩) ps.length cap ∧ ps[q]? = some (X, xp, xm) ∧ w.heap[s]? = some (.cells cur 48 (0, 0)) ∧ cur.size = cap * 9 ∧ ps.length ≤ cap ∧ cap ≤ maxLen ∧ cur.toList.take (ps.length * 9) = flatE ps ∧ B ≤ s ∧ s < w.heap.size ∧ q < ps.length := by
  have hl := (List.getElem?_eq_some_iff.1 hq).1
  rw [← h.sl, List.length_map] at hl
  rw [← h.sl, List.getElem?_map] at hq
  obtain ⟨⟨E, xp, xm⟩, hp, rfl⟩ := Option.map_eq_some_iff.1 hq
  obtain ⟨_, ⟨_, h0⟩ | ⟨s, cap, cur, hv, hB, hg, hn, hc, hcs, ht⟩⟩ := h.own
  · omega
  · exact ⟨s, cap, xp, xm, cur, hv, hp, hg, hcs, hn, hc, ht, hB, (Array.getElem?_eq_some_iff.1 hg).1, hl⟩
theorem cell_flat {w : World} {s : Nat} {cur : Array Value} {ps : List (En × Value × Value)} {q : Nat} {X : En} {xp xm : Value} (hg : w.heap[s]? = some (.cells cur 48 (0, 0))) (ht : cur.toList.take (ps.length * 9) = flatE ps) (hp : ps[q]? = some (X, xp, xm)) : ∀ (j : Nat) (x : Value), (enL X xp xm)[j]? = some x → w.cell? ⟨s, q * 9 + j, none⟩ = some x := by
  intro j x hx
  have h2 := flatE_get hp (i := j) (x := x) hx
  rw [← ht, List.getElem?_take] at h2
  split at h2
  · have e : w.cell? ⟨s, q * 9 + j, none⟩ = cur[q * 9 + j]? := by simp [World.cell?, hg]
    rw [e, ← Array.getElem?_toList]; exact h2
  · cases h2
set_option maxHeartbeats 1000000 in
/-- A slot is laid down anew. -/
theorem ChA.put {B : Nat} {w : World} {g : Nat} {A : Ar} {vi : Value} {ps : List (En × Value × Value)} {s cap q : Nat} {cur : Array Value} (J : En) (jp jm : Value) (h : ChA B w g A (.slice (some ⟨s, 0, none⟩) ps.length cap) vi ps) (hg : w.heap[s]? = some (.cells cur 48 (0, 0))) (hcs : cur.size = cap * 9) (hn : ps.length ≤ cap) (hc : cap ≤ maxLen) (ht : cur.toList.take (ps.length * 9) = flatE ps) (hB : B ≤ s) (hq : q < ps.length)
    (hp : isCells (J.val.plus.map intC) jp w) (hm : isCells (J.val.minus.map intC) jm w) (o : ∀ b, b = g ∨ b = s ∨ vi.ownBlock = some b → OffQ b (J, jp, jm)) (nJ : NewB B jp ∧ NewB B jm) : ChA B (setN w s (q * 9) (enL J jp jm)) g ⟨A.cap, A.slots.set q J, A.index⟩ (.slice (some ⟨s, 0, none⟩) ps.length cap) vi (ps.set q (J, jp, jm)) := by
  have hsg : s ≠ g := fun e => h.n1 (by rw [e]; rfl)
  have bt := bt_setN (S := fun b => b = s) rfl (enL J jp jm) (q * 9) w
  have offs : ∀ p ∈ ps, OffQ s p := fun p hp => h.off p hp s (.inr (.inl rfl))
  have hcur := heap_setCells (enL J jp jm) (q * 9) w cur hg
  rw [← setN_cells] at hcur
  refine ⟨bt.blk h.st (fun e => hsg e.symm), h.lo, ⟨by rw [flatE_length, List.length_set], .inr ⟨s, cap, _, by rw [List.length_set], hB, hcur, by rw [List.length_set]; exact hn, hc, by rw [setL_size, hcs], ?_⟩⟩, ?_, bt.own h.idx (fun b hb e => h.n3 s rfl (by rw [hb, e])), ?_, h.n1, h.n2, h.n3, ?_, fun p hp' => (List.mem_or_eq_of_mem_set hp').elim (h.nw p) (fun e => by rw [e]; exact nJ)⟩
  · rw [List.length_set]
    apply List.ext_getElem?
    intro t
    by_cases htl : t < ps.length * 9
    · rw [List.getElem?_take_of_lt htl, Array.getElem?_toList, setL_get, flatE_set ps q _ hq]
      have h9 : (enL J jp jm).length = 9 := rfl
      have hm9 : ps.length * 9 ≤ cap * 9 := Nat.mul_le_mul_right _ hn
      by_cases h2 : q * 9 ≤ t ∧ t < q * 9 + 9
      · rw [if_pos (by omega), if_pos h2]
      · rw [if_neg (by omega), if_neg h2, ← ht, List.getElem?_take_of_lt htl, Array.getElem?_toList]
    · rw [List.getElem?_eq_none (by simp; omega), List.getElem?_eq_none (by rw [flatE_length, List.length_set]; omega)]
  · rw [List.map_set, h.sl]
  · intro p hp'
    rcases List.mem_or_eq_of_mem_set hp' with hp' | rfl
    · obtain ⟨r1, r2⟩ := h.rows p hp'
      obtain ⟨o1, o2⟩ := offs p hp'
      exact ⟨bt.cells r1 (o1.imp id (fun h b hb e => h (by rw [hb, e]))), bt.cells r2 (o2.imp id (fun h b hb e => h (by rw [hb, e])))⟩
    · obtain ⟨o1, o2⟩ := o s (.inr (.inl rfl))
      exact ⟨bt.cells hp (o1.imp id (fun h b hb e => h (by rw [hb, e]))), bt.cells hm (o2.imp id (fun h b hb e => h (by rw [hb, e])))⟩
  · intro p hp' b hb
    have hb' : b = g ∨ b = s ∨ vi.ownBlock = some b := by
      rcases hb with hb | hb | hb
      · exact .inl hb
      · have e : some s = some b := hb
        injection e with e
        exact .inr (.inl e.symm)
      · exact .inr (.inr hb)
    rcases List.mem_or_eq_of_mem_set hp' with hp' | rfl
    · exact h.off p hp' b hb
    · exact o b hb'
noncomputable def meetOps : Array Oper := regionOf Tryz.f76 3
set_option maxRecDepth 100000 in
set_option maxHeartbeats 2000000 in
theorem meet_region (Q : Exit → Act → World → Prop) (a0 : Act) (w0 : World) (hsz : a0.tmps.size = 36) (g h s n cap q : Nat) (J : En) (jp jm : Value) (e0 : a0.tmps.getD 0 undef = .pointer (some ⟨g, 0, none⟩)) (e1 : a0.tmps.getD 1 undef = .int .i64 (q : Int)) (e8 : a0.tmps.getD 8 undef = .pointer (some ⟨h, 0, none⟩)) (hcell : w0.cell? ⟨g, 1, none⟩ = some (.slice (some ⟨s, 0, none⟩) n cap)) (hg : g < w0.heap.size) (HJ : Blk w0 h [.string ⟨J.key.toArray⟩, .int .i64 J.val.kind, .int .i64 J.val.time, .int .i64 J.val.node, .bool J.val.dead, .string ⟨J.val.text.toArray⟩, jp, jm, .int .u64 (J.val.flags.toNat : Int)]) (ho : Ones [.string ⟨J.key.toArray⟩, .int .i64 J.val.kind, .int .i64 J.val.time, .int .i64 J.val.node, .bool J.val.dead, .string ⟨J.val.text.toArray⟩, jp, jm, .int .u64 (J.val.flags.toNat : Int)]) (hq : q < n)
    (hs : ∀ j, j < 9 → ∃ x, w0.cell? ⟨s, 0 + q * 9 + j, none⟩ = some x) (hsl : s < w0.heap.size) (hf : Free5 w0 s)
    (hQ : ∀ (y : Nat → Value) (w : World), Below w0.heap.size w0 w → Q .normal { tmps := [24, 25, 26, 27, 28, 29, 30, 31].foldl (fun t s => t.setIfInBounds s (y s)) a0.tmps, defers := a0.defers } (setN w s (0 + q * 9) [.string ⟨J.key.toArray⟩, .int .i64 J.val.kind, .int .i64 J.val.time, .int .i64 J.val.node, .bool J.val.dead, .string ⟨J.val.text.toArray⟩, jp, jm, .int .u64 (J.val.flags.toNat : Int)])) :
    (Code.region 3 meetOps true).wp Tryz.prog Q a0 w0 := by
  refine wp_region_cov 8 mixed (by rw [hsz]; kernel_rfl) (by kernel_rfl) ?_
  rw [show meetOps.size - 8 = 1 by kernel_rfl]
  refine ⟨isVal (.pointer (some ⟨g, 0, none⟩)), step_move (.tmp 0) (by kernel_rfl) (wanted_none (by kernel_rfl)) (stable_val _) (knows_old 0 (.pointer (some ⟨g, 0, none⟩)) (by kernel_rfl) e0), ?_⟩
  refine ⟨isVal (.pointer (some ⟨g, 0, none⟩)), step_nilA (.tmp 24) ⟨g, 0, none⟩ (by kernel_rfl) (wanted_none (by kernel_rfl)) (knows_new (V := isVal (.pointer (some ⟨g, 0, none⟩))) 24 0 (by kernel_rfl) (by kernel_rfl) (by kernel_rfl)), ?_⟩
  refine ⟨isVal (.pointer (some ⟨g, 0, none⟩)), step_field 78 (.tmp 25) 0 ⟨g, 0, none⟩ ⟨g, 0, none⟩ (by kernel_rfl) (wanted_none (by kernel_rfl)) (knows_new (V := isVal (.pointer (some ⟨g, 0, none⟩))) 25 1 (by kernel_rfl) (by kernel_rfl) (by kernel_rfl)) (f_ch_0_0 (g)), ?_⟩
  refine ⟨isVal (.pointer (some ⟨g, 1, none⟩)), step_field 25 (.tmp 26) 1 ⟨g, 0, none⟩ ⟨g, 1, none⟩ (by kernel_rfl) (wanted_none (by kernel_rfl)) (knows_new (V := isVal (.pointer (some ⟨g, 0, none⟩))) 26 2 (by kernel_rfl) (by kernel_rfl) (by kernel_rfl)) (f_ar_0_1 (g)), ?_⟩
  refine ⟨isVal (.slice (some ⟨s, 0, none⟩) n cap), step_read 22 (.tmp 27) ⟨g, 1, none⟩ (.slice (some ⟨s, 0, none⟩) n cap) (by kernel_rfl) (wanted_none (by kernel_rfl)) (knows_new (V := isVal (.pointer (some ⟨g, 1, none⟩))) 27 3 (by kernel_rfl) (by kernel_rfl) (by kernel_rfl)) (hcell) (hg) (agg_noS), ?_⟩
  refine ⟨isVal (.int .i64 (q : Int)), step_move (.tmp 1) (by kernel_rfl) (wanted_none (by kernel_rfl)) (stable_val _) (knows_old 1 (.int .i64 (q : Int)) (by kernel_rfl) e1), ?_⟩
  refine ⟨isVal (.agg #[.string ⟨J.key.toArray⟩, .int .i64 J.val.kind, .int .i64 J.val.time, .int .i64 J.val.node, .bool J.val.dead, .string ⟨J.val.text.toArray⟩, jp, jm, .int .u64 (J.val.flags.toNat : Int)]), step_loadA 48 (.tmp 8) (h) (0) [.string ⟨J.key.toArray⟩, .int .i64 J.val.kind, .int .i64 J.val.time, .int .i64 J.val.node, .bool J.val.dead, .string ⟨J.val.text.toArray⟩, jp, jm, .int .u64 (J.val.flags.toNat : Int)] (by kernel_rfl) (wanted_none (by kernel_rfl)) (knows_old 8 (.pointer (some ⟨h, 0, none⟩)) (by kernel_rfl) e8) size_en agg_en (⟨HJ.lt, fun j x hx => by rw [Nat.zero_add]; exact HJ.cells.2 j x hx⟩), ?_⟩
  refine ⟨isVal (.pointer (some ⟨s, 0 + q * 9, none⟩)), step_placeE 22 48 (.tmp 28) (.tmp 29) s (0) (n) (cap) (q) (0 + q * 9) (by kernel_rfl) (wanted_none (by kernel_rfl)) (knows_new (V := isVal (.slice (some ⟨s, 0, none⟩) n cap)) 28 4 (by kernel_rfl) (by kernel_rfl) (by kernel_rfl)) (knows_new (V := isVal (.int .i64 (q : Int))) 29 5 (by kernel_rfl) (by kernel_rfl) (by kernel_rfl)) Tryz.underlying22 (by kernel_rfl) (⟨hq, rfl⟩), ?_⟩
  intro a w hkp hb hd
  have d31 := fdone_of (hd 7 (by decide)) (t := 31) (V := isVal (.pointer (some ⟨s, 0 + q * 9, none⟩))) (by kernel_rfl) (by kernel_rfl)
  have d30 := fdone_of (hd 6 (by decide)) (t := 30) (V := isVal (.agg #[.string ⟨J.key.toArray⟩, .int .i64 J.val.kind, .int .i64 J.val.time, .int .i64 J.val.node, .bool J.val.dead, .string ⟨J.val.text.toArray⟩, jp, jm, .int .u64 (J.val.flags.toNat : Int)])) (by kernel_rfl) (by kernel_rfl)
  refine tail_storeO 48 (.tmp 31) (.tmp 30) s (0 + q * 9) [.string ⟨J.key.toArray⟩, .int .i64 J.val.kind, .int .i64 J.val.time, .int .i64 J.val.node, .bool J.val.dead, .string ⟨J.val.text.toArray⟩, jp, jm, .int .u64 (J.val.flags.toNat : Int)] (by kernel_rfl) (by kernel_rfl) size_en d31 d30 ho (fun j hj => by obtain ⟨x, hx⟩ := hs j hj; exact ⟨x, (hb.cell (p := ⟨s, 0 + q * 9 + j, none⟩) hsl).trans hx⟩) (hf.keep hb hsl) ?_
  obtain ⟨y, ey⟩ := kept_ex hkp [some 24, some 25, some 26, some 27, some 28, some 29, some 30, some 31, none] [24, 25, 26, 27, 28, 29, 30, 31] (by kernel_rfl) (by decide)
  rw [ey]
  exact hQ y w hb
end Go.Proofs.YtkjghoomdefbbaaGreatDoor
end
section
namespace Go.Proofs.YtkjghoomdefbbaaGreatDoor
open Go.RowKit
set_option linter.unusedVariables false
set_option linter.unusedSimpArgs false
attribute [local irreducible] setN

theorem ok_fit' {E : En} (h : okE E = true) : FitE E := by
  simp only [okE, Bool.and_eq_true, decide_eq_true_eq] at h
  obtain ⟨⟨h1, h8⟩, hv⟩ := h
  refine ⟨by omega, ?_⟩
  rcases ok_kind hv with hk | hk | hk
  · obtain ⟨hi, ho⟩ := ok_reg hv hk
    simp only [inReg, Bool.and_eq_true, decide_eq_true_eq] at hi
    refine ⟨by omega, ?_, ?_⟩ <;> (rw [ho]; show 0 ≤ _; omega)
  · obtain ⟨hi, ho⟩ := ok_count hv hk
    simp only [inCount, okRow, Bool.and_eq_true, decide_eq_true_eq] at hi
    refine ⟨?_, by omega, by omega⟩
    rw [ho]; show 0 ≤ _; omega
  · have ho := ok_flags hv hk
    refine ⟨?_, ?_, ?_⟩ <;> (rw [ho]; show 0 ≤ _; omega)
set_option maxRecDepth 100000 in
set_option maxHeartbeats 2000000 in
theorem meet_any (B g q : Nat) (A : Ar) (X Y J : En) (vs vi v : Value) (ps : List (En × Value × Value)) (w : World) (hJ : joinEF X Y = J) (h : ChA B w g A vs vi ps) (hq : A.slots[q]? = some X) (hv : isEn Y v w) (hX : FitE X) (hY : FitE Y) (hj : joinEE X Y = 0) (hBw : B ≤ w.heap.size) :
    Calls Tryz.prog 76 #[.pointer (some ⟨g, 0, none⟩), .int .i64 (q : Int), v] w fun e w' => ∃ ps', e = .returned (.bool (!decide (X = J))) ∧ ChA B w' g ⟨A.cap, A.slots.set q J, A.index⟩ vs vi ps' ∧ Below B w w' := by
  obtain ⟨s, cap, xp, xm, cur, rfl, hps, hg0, hcs, hnc, hcm, ht, hBs, hsl, hqn⟩ := h.slot hq
  have HC := Kept.mk h
  have hgl := h.lt
  have hlo := h.lo
  have OX := Kept.mk (h.off _ (List.mem_of_getElem? hps))
  have RX := Kept.mk (h.rows _ (List.mem_of_getElem? hps))
  have hvi : ∀ b, vi.ownBlock = some b → b < w.heap.size := fun b hb => (h.idx.lt b hb).2
  have hsg : s ≠ g := fun e => h.n1 (by rw [e]; rfl)
  have cx := cell_flat hg0 ht hps
  have HG0 := Kept.mk hg0
  have hqp : A.slots.length = ps.length := h.len.symm
  clear h
  obtain ⟨pe, me, rfl, hpe, hme⟩ := hv
  obtain ⟨hB, Ve⟩ := ebox w Y pe me hpe hme (w.heap.size) (by simp)
  clear hpe hme
  replace HC := Kept.mk (HC.out.keep hB.out)
  have KC := Kept.mk (show ∀ (j : Nat) (x : Value), (enL X xp xm)[j]? = some x → (w.alloc (.cells #[.string ⟨Y.key.toArray⟩, .int .i64 Y.val.kind, .int .i64 Y.val.time, .int .i64 Y.val.node, .bool Y.val.dead, .string ⟨Y.val.text.toArray⟩, pe, me, .int .u64 (Y.val.flags.toNat : Int)] 48)).cell? ⟨s, q * 9 + j, none⟩ = some x from fun j x hx => (hB.out.cell (p := ⟨s, q * 9 + j, none⟩) hsl).trans (cx j x hx))
  clear cx hg0
  replace HG0 := Kept.mk ((hB.out.block s hsl).trans HG0.out)
  have RX0 := RX
  replace RX := Kept.mk (And.intro (stable_cells _ _ _ _ RX.out.1 hB.out) (stable_cells _ _ _ _ RX.out.2 hB.out))
  have hN0 : w.heap.size < (w.alloc (.cells #[.string ⟨Y.key.toArray⟩, .int .i64 Y.val.kind, .int .i64 Y.val.time, .int .i64 Y.val.node, .bool Y.val.dead, .string ⟨Y.val.text.toArray⟩, pe, me, .int .u64 (Y.val.flags.toNat : Int)] 48)).heap.size := Ve.out.lt
  have k1 := HC.out.st.cells.2 1 _ rfl
  have kc0 : (w.alloc (.cells #[.string ⟨Y.key.toArray⟩, .int .i64 Y.val.kind, .int .i64 Y.val.time, .int .i64 Y.val.node, .bool Y.val.dead, .string ⟨Y.val.text.toArray⟩, pe, me, .int .u64 (Y.val.flags.toNat : Int)] 48)).cell? ⟨s, q * 9, none⟩ = _ := KC.out 0 _ rfl
  have kc1 : (w.alloc (.cells #[.string ⟨Y.key.toArray⟩, .int .i64 Y.val.kind, .int .i64 Y.val.time, .int .i64 Y.val.node, .bool Y.val.dead, .string ⟨Y.val.text.toArray⟩, pe, me, .int .u64 (Y.val.flags.toNat : Int)] 48)).cell? ⟨s, q * 9 + 1, none⟩ = _ := KC.out 1 _ rfl
  have kc2 : (w.alloc (.cells #[.string ⟨Y.key.toArray⟩, .int .i64 Y.val.kind, .int .i64 Y.val.time, .int .i64 Y.val.node, .bool Y.val.dead, .string ⟨Y.val.text.toArray⟩, pe, me, .int .u64 (Y.val.flags.toNat : Int)] 48)).cell? ⟨s, q * 9 + 2, none⟩ = _ := KC.out 2 _ rfl
  have kc3 : (w.alloc (.cells #[.string ⟨Y.key.toArray⟩, .int .i64 Y.val.kind, .int .i64 Y.val.time, .int .i64 Y.val.node, .bool Y.val.dead, .string ⟨Y.val.text.toArray⟩, pe, me, .int .u64 (Y.val.flags.toNat : Int)] 48)).cell? ⟨s, q * 9 + 3, none⟩ = _ := KC.out 3 _ rfl
  have kc4 : (w.alloc (.cells #[.string ⟨Y.key.toArray⟩, .int .i64 Y.val.kind, .int .i64 Y.val.time, .int .i64 Y.val.node, .bool Y.val.dead, .string ⟨Y.val.text.toArray⟩, pe, me, .int .u64 (Y.val.flags.toNat : Int)] 48)).cell? ⟨s, q * 9 + 4, none⟩ = _ := KC.out 4 _ rfl
  have kc5 : (w.alloc (.cells #[.string ⟨Y.key.toArray⟩, .int .i64 Y.val.kind, .int .i64 Y.val.time, .int .i64 Y.val.node, .bool Y.val.dead, .string ⟨Y.val.text.toArray⟩, pe, me, .int .u64 (Y.val.flags.toNat : Int)] 48)).cell? ⟨s, q * 9 + 5, none⟩ = _ := KC.out 5 _ rfl
  have kc6 : (w.alloc (.cells #[.string ⟨Y.key.toArray⟩, .int .i64 Y.val.kind, .int .i64 Y.val.time, .int .i64 Y.val.node, .bool Y.val.dead, .string ⟨Y.val.text.toArray⟩, pe, me, .int .u64 (Y.val.flags.toNat : Int)] 48)).cell? ⟨s, q * 9 + 6, none⟩ = _ := KC.out 6 _ rfl
  have kc7 : (w.alloc (.cells #[.string ⟨Y.key.toArray⟩, .int .i64 Y.val.kind, .int .i64 Y.val.time, .int .i64 Y.val.node, .bool Y.val.dead, .string ⟨Y.val.text.toArray⟩, pe, me, .int .u64 (Y.val.flags.toNat : Int)] 48)).cell? ⟨s, q * 9 + 7, none⟩ = _ := KC.out 7 _ rfl
  have kc8 : (w.alloc (.cells #[.string ⟨Y.key.toArray⟩, .int .i64 Y.val.kind, .int .i64 Y.val.time, .int .i64 Y.val.node, .bool Y.val.dead, .string ⟨Y.val.text.toArray⟩, pe, me, .int .u64 (Y.val.flags.toNat : Int)] 48)).cell? ⟨s, q * 9 + 8, none⟩ = _ := KC.out 8 _ rfl
  clear KC
  generalize hn : ps.length = n at *
  have HN := Kept.mk hn
  clear hn
  have hqn' : (q : Int) < (n : Int) := by omega
  go_enter Tryz.func76, Tryz.ntmps76
  obtain ⟨K1, K2, K3, K4, K5⟩ := enew (w.alloc (.cells #[.string ⟨Y.key.toArray⟩, .int .i64 Y.val.kind, .int .i64 Y.val.time, .int .i64 Y.val.node, .bool Y.val.dead, .string ⟨Y.val.text.toArray⟩, pe, me, .int .u64 (Y.val.flags.toNat : Int)] 48)) X xp xm RX.out.1 RX.out.2 (w.heap.size + 1) (by simp)
  have HBX0 := Kept.mk ((Blk.new (w.alloc (.cells #[.string ⟨Y.key.toArray⟩, .int .i64 Y.val.kind, .int .i64 Y.val.time, .int .i64 Y.val.node, .bool Y.val.dead, .string ⟨Y.val.text.toArray⟩, pe, me, .int .u64 (Y.val.flags.toNat : Int)] 48)) 48 [.string ⟨#[]⟩, .int .i64 0, .int .i64 0, .int .i64 0, .bool false, .string ⟨#[]⟩, .slice none 0 0, .slice none 0 0, .int .u64 0] (w.heap.size + 1) (by simp)).all_ (l := [.string ⟨X.key.toArray⟩, .int .i64 X.val.kind, .int .i64 X.val.time, .int .i64 X.val.node, .bool X.val.dead, .string ⟨X.val.text.toArray⟩, xp, xm, .int .u64 (X.val.flags.toNat : Int)]) rfl)
  go_wp2_with (have hz0 := K1; refine wpList_storeN 48 rfl (.tmp 7) (.tmp 17) rfl (w.heap.size + 1) [.string ⟨X.key.toArray⟩, .int .i64 X.val.kind, .int .i64 X.val.time, .int .i64 X.val.node, .bool X.val.dead, .string ⟨X.val.text.toArray⟩, xp, xm, .int .u64 (X.val.flags.toNat : Int)] size_en rfl rfl K1.out rfl K2.out K5.out ?_; replace hB := Kept.mk (hB.out.trans ((K3.out).mono hB.out.size)); replace Ve := Kept.mk (Ve.out.keep (K3.out)); replace HC := Kept.mk (HC.out.keep (K3.out)); replace HG0 := Kept.mk ((K3.out.block s (by omega)).trans HG0.out); have hN1 := K3.out.size; have Va := Kept.mk (show VarN _ _ X from ⟨_, _, K4.out⟩); have HBX := HBX0; clear HBX0 hz0 K1 K2 K3 K4 K5 k1 kc0 kc1 kc2 kc3 kc4 kc5 kc6 kc7 kc8; generalize setN ((w.alloc (.cells #[.string ⟨Y.key.toArray⟩, .int .i64 Y.val.kind, .int .i64 Y.val.time, .int .i64 Y.val.node, .bool Y.val.dead, .string ⟨Y.val.text.toArray⟩, pe, me, .int .u64 (Y.val.flags.toNat : Int)] 48)).alloc (.cells #[.string ⟨#[]⟩, .int .i64 0, .int .i64 0, .int .i64 0, .bool false, .string ⟨#[]⟩, .slice none 0 0, .slice none 0 0, .int .u64 0] 48)) (w.heap.size + 1) 0 [.string ⟨X.key.toArray⟩, .int .i64 X.val.kind, .int .i64 X.val.time, .int .i64 X.val.node, .bool X.val.dead, .string ⟨X.val.text.toArray⟩, xp, xm, .int .u64 (X.val.flags.toNat : Int)] = W1 at *; generalize hga : w.heap.size + 1 = ga at *; obtain ⟨qa, ra, xa, ya, ka0, ka1, ka2, ka3, ka4, ka5, ka6, ka7, ka8⟩ := Va.out.open_; have Xa := Kept.mk xa; have Ya := Kept.mk ya; clear xa ya; obtain ⟨qe, re, xe, ye, ke0, ke1, ke2, ke3, ke4, ke5, ke6, ke7, ke8⟩ := Ve.out.open_; have Xe := Kept.mk xe; have Ye := Kept.mk ye; clear xe ye)
  have hc := ejoin_any X Y _ _ _ Xa.out Xe.out hX hY
  rw [hj, hJ] at hc
  refine hc.mono ?_
  clear hc
  rintro e U ⟨v', rfl, ⟨jp, jm, rfl, hjp, hjm, njp, njm⟩, hb1⟩
  have NJ := Kept.mk (And.intro (njp.low (show W1.heap.size ≤ W1.heap.size from Nat.le_refl _)) njm)
  replace HG0 := Kept.mk ((hb1.block s (by omega)).trans HG0.out)
  have hN2 := hb1.size
  have hgaW : ga < W1.heap.size := Va.out.lt
  have FJ := Kept.mk (show Fit J.val by rw [← hJ]; exact (ok_fit' (joinEF_ok hj)).val)
  have HJ := Kept.mk hJ
  clear hJ njp njm
  obtain ⟨K1, K2, K3, K4, K5⟩ := enew U J jp jm hjp hjm U.heap.size rfl
  have HBJ := Kept.mk ((Blk.new U 48 [.string ⟨#[]⟩, .int .i64 0, .int .i64 0, .int .i64 0, .bool false, .string ⟨#[]⟩, .slice none 0 0, .slice none 0 0, .int .u64 0] U.heap.size rfl).all_ (l := [.string ⟨J.key.toArray⟩, .int .i64 J.val.kind, .int .i64 J.val.time, .int .i64 J.val.node, .bool J.val.dead, .string ⟨J.val.text.toArray⟩, jp, jm, .int .u64 (J.val.flags.toNat : Int)]) rfl)
  have HON := K5
  clear hjp hjm
  clear Xa Ya ka0 ka1 ka2 ka3 ka4 ka5 ka6 ka7 ka8
  clear Xe Ye ke0 ke1 ke2 ke3 ke4 ke5 ke6 ke7 ke8
  replace hB := Kept.mk (hB.out.trans ((hb1).mono hB.out.size))
  replace Ve := Kept.mk (Ve.out.keep (hb1))
  replace Va := Kept.mk (Va.out.keep (hb1))
  replace HC := Kept.mk (HC.out.keep (hb1))
  replace HBX := Kept.mk (HBX.out.keep hb1)
  clear hb1
  go_wp2_with (have hz0 := K1; refine wpList_storeN 48 rfl (.tmp 8) (.tmp 22) rfl U.heap.size [.string ⟨J.key.toArray⟩, .int .i64 J.val.kind, .int .i64 J.val.time, .int .i64 J.val.node, .bool J.val.dead, .string ⟨J.val.text.toArray⟩, jp, jm, .int .u64 (J.val.flags.toNat : Int)] size_en rfl rfl K1.out rfl K2.out K5.out ?_; replace hB := Kept.mk (hB.out.trans ((K3.out).mono hB.out.size)); replace Ve := Kept.mk (Ve.out.keep (K3.out)); replace Va := Kept.mk (Va.out.keep (K3.out)); replace HC := Kept.mk (HC.out.keep (K3.out)); replace HG0 := Kept.mk ((K3.out.block s (by omega)).trans HG0.out); replace HBX := Kept.mk (HBX.out.keep K3.out); have hN3 := K3.out.size; have RJ := Kept.mk K4.out.2; clear hz0 K1 K2 K3 K4 K5; generalize setN (U.alloc (.cells #[.string ⟨#[]⟩, .int .i64 0, .int .i64 0, .int .i64 0, .bool false, .string ⟨#[]⟩, .slice none 0 0, .slice none 0 0, .int .u64 0] 48)) U.heap.size 0 [.string ⟨J.key.toArray⟩, .int .i64 J.val.kind, .int .i64 J.val.time, .int .i64 J.val.node, .bool J.val.dead, .string ⟨J.val.text.toArray⟩, jp, jm, .int .u64 (J.val.flags.toNat : Int)] = W2 at *; generalize hgb : U.heap.size = gb at *)
  have hk1 := HC.out.st.cells.2 1 _ rfl
  have hcs9 : ∀ j, j < 9 → ∃ x, W2.cell? ⟨s, 0 + q * 9 + j, none⟩ = some x := fun j hj9 => ⟨cur[q * 9 + j]'(by have : (q + 1) * 9 ≤ cap * 9 := Nat.mul_le_mul_right _ (by omega); omega), (show W2.cell? ⟨s, 0 + q * 9 + j, none⟩ = cur[q * 9 + j]? by simp [World.cell?, HG0.out]).trans (Array.getElem?_eq_getElem _)⟩
  have hfs : Free5 W2 s := fun j => by simp [World.frozen?, HG0.out]
  refine meet_region _ _ _ rfl g gb s n cap q J jp jm rfl rfl rfl hk1 (by have := HC.out.lt; omega) HBJ.out HON.out hqn hcs9 (by omega) hfs ?_
  intro y W3 hb3
  clear hk1 hcs9
  simp only [List.foldl_cons, List.foldl_nil]
  generalize y 24 = z24
  generalize y 25 = z25
  generalize y 26 = z26
  generalize y 27 = z27
  generalize y 28 = z28
  generalize y 29 = z29
  generalize y 30 = z30
  generalize y 31 = z31
  simp only [List.setIfInBounds_toArray, List.set_cons_succ, List.set_cons_zero]
  rw [Nat.zero_add]
  have hN4 := hb3.size
  have hg3 := (hb3.block s (by omega)).trans HG0.out
  have hbx3 := HBX.out.keep hb3
  have hbj3 := HBJ.out.keep hb3
  have hfj := FJ.out
  have hnn := HN.out
  subst hnn
  have C3 := HC.out.keep hb3
  have rp := stable_cells _ _ _ _ RJ.out.1 hb3
  have rm := stable_cells _ _ _ _ RJ.out.2 hb3
  have oJ : ∀ b, b = g ∨ b = s ∨ vi.ownBlock = some b → OffQ b (J, jp, jm) := fun b hb => by
    have hlt : b < W1.heap.size := by
      rcases hb with rfl | rfl | hb
      · omega
      · omega
      · have := hvi b hb; omega
    exact ⟨.inr (NJ.out.1.ne hlt), .inr (NJ.out.2.ne hlt)⟩
  have C4 := Kept.mk (ChA.put J jp jm C3 hg3 hcs hnc hcm ht hBs hqn rp rm oJ ⟨NJ.out.1.low (by omega), NJ.out.2.low (by omega)⟩)
  have bt := bt_setN (S := fun b => b = s) rfl (enL J jp jm) (q * 9) W3
  have B4 := Kept.mk (((hB.out.trans (hb3.mono (by omega))).mono hBw).trans (bt.below (fun b e => by rw [e]; exact hBs) (by omega)))
  have B3 : Below w.heap.size w W3 := hB.out.trans (hb3.mono (by omega))
  have imp : ∀ {cs : List Value} {u : Value}, (cs = [] ∨ blk u ≠ some s) → (cs = [] ∨ ∀ b, blk u = some b → ¬ (b = s)) := fun h => h.imp id (fun h b hb e => h (by rw [hb, e]))
  have oX := OX.out s (.inr (.inl rfl))
  have oS := oJ s (.inr (.inl rfl))
  have XA := Kept.mk (show isEn X (.agg #[.string ⟨X.key.toArray⟩, .int .i64 X.val.kind, .int .i64 X.val.time, .int .i64 X.val.node, .bool X.val.dead, .string ⟨X.val.text.toArray⟩, xp, xm, .int .u64 (X.val.flags.toNat : Int)]) (setN W3 s (q * 9) (enL J jp jm)) from ⟨xp, xm, rfl, bt.cells (stable_cells _ _ _ _ RX0.out.1 B3) (imp oX.1), bt.cells (stable_cells _ _ _ _ RX0.out.2 B3) (imp oX.2)⟩)
  have XJ := Kept.mk (show isEn J (.agg #[.string ⟨J.key.toArray⟩, .int .i64 J.val.kind, .int .i64 J.val.time, .int .i64 J.val.node, .bool J.val.dead, .string ⟨J.val.text.toArray⟩, jp, jm, .int .u64 (J.val.flags.toNat : Int)]) (setN W3 s (q * 9) (enL J jp jm)) from ⟨jp, jm, rfl, bt.cells rp (imp oS.1), bt.cells rm (imp oS.2)⟩)
  have ba := bt.blk hbx3 (show ¬ (ga = s) by omega)
  have bj := bt.blk hbj3 (show ¬ (gb = s) by omega)
  have ka0 := ba.cells.2 0 _ rfl
  have ka1 := ba.cells.2 1 _ rfl
  have ka2 := ba.cells.2 2 _ rfl
  have ka3 := ba.cells.2 3 _ rfl
  have ka4 := ba.cells.2 4 _ rfl
  have ka5 := ba.cells.2 5 _ rfl
  have ka6 := ba.cells.2 6 _ rfl
  have ka7 := ba.cells.2 7 _ rfl
  have ka8 := ba.cells.2 8 _ rfl
  have kb0 := bj.cells.2 0 _ rfl
  have kb1 := bj.cells.2 1 _ rfl
  have kb2 := bj.cells.2 2 _ rfl
  have kb3 := bj.cells.2 3 _ rfl
  have kb4 := bj.cells.2 4 _ rfl
  have kb5 := bj.cells.2 5 _ rfl
  have kb6 := bj.cells.2 6 _ rfl
  have kb7 := bj.cells.2 7 _ rfl
  have kb8 := bj.cells.2 8 _ rfl
  clear C3 hg3 rp rm oJ imp oX oS ba bj hbx3 hbj3 bt B3 hb3
  skip
  skip
  rw [show [.string ⟨J.key.toArray⟩, .int .i64 J.val.kind, .int .i64 J.val.time, .int .i64 J.val.node, .bool J.val.dead, .string ⟨J.val.text.toArray⟩, jp, jm, .int .u64 (J.val.flags.toNat : Int)] = enL J jp jm from rfl]
  generalize setN W3 s (q * 9) (enL J jp jm) = W4 at *
  go_wp2_with fail
  refine (esame_any X J _ _ _ XA.out XJ.out hX.val hfj).mono ?_
  rintro e W5 ⟨rfl, hb5⟩
  have hsz4 := C4.out.lt
  have C5 := Kept.mk (C4.out.keep hb5)
  have B5 := Kept.mk (B4.out.trans (hb5.mono (Nat.le_trans hBw B4.out.size)))
  clear hb5 C4 XA XJ ka0 kb0 ka1 kb1 ka2 kb2 ka3 kb3 ka4 kb4 ka5 kb5 ka6 kb6 ka7 kb7 ka8 kb8
  cases hz : decide (X = J) <;>
  · go_wp2
    go_ret
    first
    | exact ⟨_, rfl, C5.out, B5.out⟩
    | exact ⟨rfl, ⟨_, C5.out⟩, B5.out⟩
    | exact ⟨by rw [hz]; rfl, ⟨_, C5.out⟩, B5.out⟩
    | exact ⟨_, by rw [hz]; rfl, C5.out, B5.out⟩
end Go.Proofs.YtkjghoomdefbbaaGreatDoor
end
