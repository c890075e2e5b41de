/- A new variable in which a device is laid down, inside a region that draws its order. -/
import Derived.Test.YtipiioggdalkoaaGreatDoorFlVar
import Derived.Test.YtipiioggdalkoaaGreatDoorFlowLay
namespace Go.Proofs.YtipiioggdalkoaaGreatDoor
open Go.RowKit
set_option linter.unusedVariables false
set_option linter.unusedSimpArgs false

abbrev zeroFl : List Value := [.slice none 0 0, .slice none 0 0, .int .i64 0, .string ⟨#[]⟩, .bool false]
theorem alloc_fl (w : World) : (Instr.alloc 31 true (.tuple #[])).run Tryz.prog w = .ok (.pointer (some ⟨w.heap.size, 0, none⟩)) (w.alloc (.cells zeroFl.toArray 31)) := by
  have hz : (Tryz.prog.info? 31).map (·.zero) = some (some (.agg zeroFl.toArray)) := by kernel_rfl
  obtain ⟨ie, hie, hz⟩ := Option.map_eq_some_iff.1 hz
  simp [Instr.alloc, zeroValue, typeInfo, hie, hz, newVar, newRow, newObj, Value.cells]
  rfl
/-- Cells that hold the device G, its rows in blocks from B on. -/
def holdsF (B : Nat) (G : Fl) (cs : Array Value) (w : World) : Prop := ∃ vp vw, cs = #[vp, vw, .int .i64 G.fuse, strC G.torn, .bool G.dead] ∧ isBtw B w.heap.size 9 (G.pages.map strC) vp w ∧ isBtw B w.heap.size 3 (G.wear.map intC) vw w
theorem isBtw.keeps {B lo hi : Nat} {T e : TypeId} {cs : List Value} {v : Value} {w w' : World} (h : isBtw lo hi e cs v w) (hk : Keeps T B w w') (hne : e ≠ T) : isBtw lo hi e cs v w' := by
  rcases h with h | ⟨g, cap, cur, hv, h1, h2, hg, rest⟩
  · exact .inl h
  · refine .inr ⟨g, cap, cur, hv, h1, h2, (hk.block g (Array.getElem?_eq_some_iff.1 hg).1 (.inr ?_)).trans hg, rest⟩
    intro cs fr he
    rw [hg] at he
    injection he with he
    injection he with _ he _
    exact hne he
theorem stab_holdsF (B : Nat) (G : Fl) : StabK 31 B (holdsF B G) := by
  rintro cs w w' ⟨vp, vw, rfl, hp, hq⟩ hk
  exact ⟨vp, vw, rfl, (hp.keeps hk (by decide)).weak (Nat.le_refl _) hk.size, (hq.keeps hk (by decide)).weak (Nat.le_refl _) hk.size⟩
/-- A device among values; a device and a number, as a call tells them. -/
def isFlB (B : Nat) (G : Fl) : VP := fun v w => isFlN B G v w
def isTupB (B : Nat) (G : Fl) (e : Int) : VP := fun v w => ∃ x, v = .tuple #[x, .int .i64 e] ∧ isFlN B G x w
theorem isFlN.keeps {B : Nat} {G : Fl} {v : Value} {w w' : World} (h : isFlN B G v w) (hk : Keeps 31 B w w') : isFlN B G v w' := by
  obtain ⟨vp, vw, rfl, hp, hq⟩ := h
  exact ⟨vp, vw, rfl, (hp.keeps hk (by decide)).weak (Nat.le_refl _) hk.size, (hq.keeps hk (by decide)).weak (Nat.le_refl _) hk.size⟩
theorem stab_flB (B : Nat) (G : Fl) (L : Array Value → World → Prop) : StableR (Laid 31 B L) (isFlB B G) := fun v w w' h hr => isFlN.keeps h hr.keeps
theorem stab_tupB (B : Nat) (G : Fl) (e : Int) (L : Array Value → World → Prop) : StableR (Laid 31 B L) (isTupB B G e) := fun v w w' ⟨x, hx, h⟩ hr => ⟨x, hx, isFlN.keeps h hr.keeps⟩
theorem stable_tupB (B : Nat) (G : Fl) (e : Int) : Stable (isTupB B G e) := fun v w w' ⟨x, hx, h⟩ hb => ⟨x, hx, isFlN.keeps h (Keeps.of hb)⟩
theorem stable_flB (B : Nat) (G : Fl) : Stable (isFlB B G) := fun v w w' h hb => isFlN.keeps h (Keeps.of hb)
theorem set5_block (w : World) (g : Nat) (c0 c1 c2 c3 c4 v0 v1 v2 v3 v4 : Value) (T : TypeId) (h : w.heap[g]? = some (.cells #[c0, c1, c2, c3, c4] T (0, 0))) : (set5 w g v0 v1 v2 v3 v4).heap[g]? = some (.cells #[v0, v1, v2, v3, v4] T (0, 0)) := by
  have h0 := heap_setCell_same w g 0 _ _ v0 h
  have h1 := heap_setCell_same _ g 1 _ _ v1 h0
  have h2 := heap_setCell_same _ g 2 _ _ v2 h1
  have h3 := heap_setCell_same _ g 3 _ _ v3 h2
  have h4 := heap_setCell_same _ g 4 _ _ v4 h3
  unfold set5
  rw [h4]
  rfl
theorem set5_other (w : World) (g b : Nat) (v0 v1 v2 v3 v4 : Value) (h : b ≠ g) : (set5 w g v0 v1 v2 v3 v4).heap[b]? = w.heap[b]? := by
  unfold set5
  rw [Below.heap_setCell _ ⟨g, 4, none⟩ v4 b h, Below.heap_setCell _ ⟨g, 3, none⟩ v3 b h, Below.heap_setCell _ ⟨g, 2, none⟩ v2 b h, Below.heap_setCell _ ⟨g, 1, none⟩ v1 b h, Below.heap_setCell _ ⟨g, 0, none⟩ v0 b h]
theorem size5 {cs : Array Value} (h : cs.size = 5) : ∃ c0 c1 c2 c3 c4, cs = #[c0, c1, c2, c3, c4] := by
  obtain ⟨l⟩ := cs
  match l, h with
  | [a, b, c, d, e], _ => exact ⟨a, b, c, d, e, rfl⟩
theorem cells5_of {w : World} {g : Nat} {c0 c1 c2 c3 c4 : Value} {T : TypeId} (h : w.heap[g]? = some (.cells #[c0, c1, c2, c3, c4] T (0, 0))) : Cells5 w g c0 c1 c2 c3 c4 ∧ Free5 w g := by
  refine ⟨⟨(Array.getElem?_eq_some_iff.1 h).1, ?_, ?_, ?_, ?_, ?_⟩, fun j => ?_⟩
  all_goals first | (simp [World.cell?, h]; done) | simp [World.frozen?, h]
theorem set5_rest (w : World) (g : Nat) (v0 v1 v2 v3 v4 : Value) : (set5 w g v0 v1 v2 v3 v4).os = w.os ∧ (set5 w g v0 v1 v2 v3 v4).tape = w.tape ∧ (set5 w g v0 v1 v2 v3 v4).output = w.output :=
  have h : Below 0 w (set5 w g v0 v1 v2 v3 v4) := below_set5 (Below.refl _ _) (Nat.zero_le _) v0 v1 v2 v3 v4
  ⟨h.os, h.tape, h.output⟩
attribute [local irreducible] set5
section
variable {ops : Array Oper} {base : World} {a0 : Act} {Q : Exit → Act → World → Prop} {kn : Nat → VP} {i : Nat}
theorem LStep.store5 {B : Nat} {G : Fl} (p : Tmp) (y : Operand) (hB : B ≤ base.heap.size) (hop : (ops[i]?).map (fun o => (o.op, o.guard, o.dst)) = some (.store 31 (.tmp p) y, none, none))
    (hx : Knows ops a0 kn i (.tmp p) (isNewB 31 B 5)) (hy : Knows ops a0 kn i y (isFlB B G)) : LStep (Laid 31 B (holdsF B G)) Tryz.prog ops base a0 Q kn i (isLaidB 31 B (holdsF B G)) := by
  refine ⟨stab_laidB (stab_holdsF B G), fun o ho a w hk hb hd => ?_⟩
  rw [ho] at hop
  simp only [Option.map_some, Option.some.injEq, Prod.mk.injEq] at hop
  obtain ⟨hop, hgd, hdst⟩ := hop
  have hfd : FDeps ops kn i a w := fun o' ho' e he hbd => ldone_f (hd o' ho' e he hbd)
  obtain ⟨g, cs, e1, hg, hc, h5⟩ := hx a w hk hfd
  obtain ⟨vp, vw, e2, hp, hq⟩ := hy a w hk hfd
  obtain ⟨c0, c1, c2, c3, c4, rfl⟩ := size5 h5
  obtain ⟨k1, k2⟩ := cells5_of hc
  unfold wpOp
  simp only [ho]
  rw [show Region.wanted o (yielded ops a.tmps) = true by simp [Region.wanted, hgd]]
  refine .inl ?_
  unfold Oper.wp execOp
  rw [hop]
  have hblk := set5_block w g c0 c1 c2 c3 c4 vp vw (.int .i64 G.fuse) (strC G.torn) (.bool G.dead) _ hc
  have hkp : Keeps 31 B w (set5 w g vp vw (.int .i64 G.fuse) (strC G.torn) (.bool G.dead)) := ⟨by rw [size_set5]; exact Nat.le_refl _, fun b hb h => set5_other _ _ _ _ _ _ _ _ (by
    rintro rfl
    rcases h with h | h
    · omega
    · exact h _ _ hc)⟩
  have hold : holdsF B G #[vp, vw, .int .i64 G.fuse, strC G.torn, .bool G.dead] (set5 w g vp vw (.int .i64 G.fuse) (strC G.torn) (.bool G.dead)) := stab_holdsF B G _ _ _ ⟨vp, vw, rfl, hp, hq⟩ hkp
  simp only [e1, e2, Sem.run_bind, Go.Proofs.YtipiioggdalkoaaGreatDoor.store5 g w c0 c1 c2 c3 c4 vp vw (.int .i64 G.fuse) (strC G.torn) (.bool G.dead) k1 k2 hp.one hq.one rfl rfl rfl, Result.andThen_ok, Sem.run_pure, Oper.upon]
  have hr := set5_rest w g vp vw (.int .i64 G.fuse) (strC G.torn) (.bool G.dead)
  refine ⟨undef, rfl, ?_, ⟨hr.1, hr.2.1, hr.2.2, hkp, fun b cs hb' he => ?_⟩⟩
  · have : wordOf o (a.put o.dst undef) = .pointer (some ⟨g, 0, none⟩) := by
      have e1' : a.tmps.getD p undef = .pointer (some ⟨g, 0, none⟩) := e1
      simp only [wordOf, slotOf, hdst, hop, Act.put]
      exact e1'
    rw [this]
    exact ⟨g, _, rfl, hg, hblk, hold⟩
  · by_cases e : b = g
    · subst e
      rw [hc] at he
      injection he with he
      injection he with he _ _
      exact .inr ⟨_, by rw [← he]; rfl, hold, hblk⟩
    · exact .inl ((set5_other _ _ _ _ _ _ _ _ e).trans he)
/-- The same, into a block that was there: it is one of those that may be laid. -/
theorem LStep.store5_old {B : Nat} {G : Fl} (p : Tmp) (g : Nat) (y : Operand) (hB : B ≤ base.heap.size) (hop : (ops[i]?).map (fun o => (o.op, o.guard, o.dst)) = some (.store 31 (.tmp p) y, none, none))
    (hx : Knows ops a0 kn i (.tmp p) (isVal (.pointer (some ⟨g, 0, none⟩)))) (hg : isNewB 31 B 5 (.pointer (some ⟨g, 0, none⟩)) base) (hy : Knows ops a0 kn i y (isFlB B G)) : LStep (Laid 31 B (holdsF B G)) Tryz.prog ops base a0 Q kn i (isLaidB 31 B (holdsF B G)) := by
  refine ⟨stab_laidB (stab_holdsF B G), fun o ho a w hk hb hd => ?_⟩
  have hn : isNewB 31 B 5 (.pointer (some ⟨g, 0, none⟩)) w := stab_newB _ _ _ hg hb
  rw [ho] at hop
  simp only [Option.map_some, Option.some.injEq, Prod.mk.injEq] at hop
  obtain ⟨hop, hgd, hdst⟩ := hop
  have hfd : FDeps ops kn i a w := fun o' ho' e he hbd => ldone_f (hd o' ho' e he hbd)
  have e1 : a.eval (.tmp p) = .pointer (some ⟨g, 0, none⟩) := hx a w hk hfd
  obtain ⟨g', cs, e9, hg, hc, h5⟩ := hn
  injection e9 with e9
  injection e9 with e9
  injection e9 with e9 _ _
  subst e9
  obtain ⟨vp, vw, e2, hp, hq⟩ := hy a w hk hfd
  obtain ⟨c0, c1, c2, c3, c4, rfl⟩ := size5 h5
  obtain ⟨k1, k2⟩ := cells5_of hc
  unfold wpOp
  simp only [ho]
  rw [show Region.wanted o (yielded ops a.tmps) = true by simp [Region.wanted, hgd]]
  refine .inl ?_
  unfold Oper.wp execOp
  rw [hop]
  have hblk := set5_block w g c0 c1 c2 c3 c4 vp vw (.int .i64 G.fuse) (strC G.torn) (.bool G.dead) _ hc
  have hkp : Keeps 31 B w (set5 w g vp vw (.int .i64 G.fuse) (strC G.torn) (.bool G.dead)) := ⟨by rw [size_set5]; exact Nat.le_refl _, fun b hb h => set5_other _ _ _ _ _ _ _ _ (by
    rintro rfl
    rcases h with h | h
    · omega
    · exact h _ _ hc)⟩
  have hold : holdsF B G #[vp, vw, .int .i64 G.fuse, strC G.torn, .bool G.dead] (set5 w g vp vw (.int .i64 G.fuse) (strC G.torn) (.bool G.dead)) := stab_holdsF B G _ _ _ ⟨vp, vw, rfl, hp, hq⟩ hkp
  simp only [e1, e2, Sem.run_bind, Go.Proofs.YtipiioggdalkoaaGreatDoor.store5 g w c0 c1 c2 c3 c4 vp vw (.int .i64 G.fuse) (strC G.torn) (.bool G.dead) k1 k2 hp.one hq.one rfl rfl rfl, Result.andThen_ok, Sem.run_pure, Oper.upon]
  have hr := set5_rest w g vp vw (.int .i64 G.fuse) (strC G.torn) (.bool G.dead)
  refine ⟨undef, rfl, ?_, ⟨hr.1, hr.2.1, hr.2.2, hkp, fun b cs hb' he => ?_⟩⟩
  · have : wordOf o (a.put o.dst undef) = .pointer (some ⟨g, 0, none⟩) := by
      have e1' : a.tmps.getD p undef = .pointer (some ⟨g, 0, none⟩) := e1
      simp only [wordOf, slotOf, hdst, hop, Act.put]
      exact e1'
    rw [this]
    exact ⟨g, _, rfl, hg, hblk, hold⟩
  · by_cases e : b = g
    · subst e
      rw [hc] at he
      injection he with he
      injection he with he _ _
      exact .inr ⟨_, by rw [← he]; rfl, hold, hblk⟩
    · exact .inl ((set5_other _ _ _ _ _ _ _ _ e).trans he)
theorem step_extract0 {P : Program} (B : Nat) (G : Fl) (e : Int) (x : Operand) (hop : (ops[i]?).map (·.op) = some (.extract x 0)) (hw : Wanted ops a0 kn i) (hx : Knows ops a0 kn i x (isTupB B G e)) : FStep P ops base a0 Q kn i (isFlB B G) :=
  step_mk (stable_flB B G) hw fun o ho a w hk hb hd => by
    obtain ⟨v, e1, hv⟩ := hx a w hk hd
    unfold Oper.wp execOp
    rw [op_of hop ho]
    simp only [e1]
    exact ⟨v, rfl, hv, Below.refl _ _⟩
theorem step_extract1 {P : Program} (B : Nat) (G : Fl) (e : Int) (x : Operand) (hop : (ops[i]?).map (·.op) = some (.extract x 1)) (hw : Wanted ops a0 kn i) (hx : Knows ops a0 kn i x (isTupB B G e)) : FStep P ops base a0 Q kn i (isVal (.int .i64 e)) :=
  step_mk (stable_val _) hw fun o ho a w hk hb hd => by
    obtain ⟨v, e1, hv⟩ := hx a w hk hd
    unfold Oper.wp execOp
    rw [op_of hop ho]
    simp only [e1]
    exact ⟨_, rfl, rfl, Below.refl _ _⟩
end
theorem args4 {ops : Array Oper} {a0 : Act} {kn : Nat → VP} {i : Nat} (x y z q : Operand) (v u s r : Value) (hx : Knows ops a0 kn i x (isVal v)) (hy : Knows ops a0 kn i y (isVal u)) (hz : Knows ops a0 kn i z (isVal s)) (hq : Knows ops a0 kn i q (isVal r)) : ∀ a w, FKept ops a0 a → FDeps ops kn i a w → #[x, y, z, q].map a.eval = #[v, u, s, r] := fun a w hk hd => by
  have h1 : a.eval x = v := hx a w hk hd
  have h2 : a.eval y = u := hy a w hk hd
  have h3 : a.eval z = s := hz a w hk hd
  have h4 : a.eval q = r := hq a w hk hd
  simp [h1, h2, h3, h4]
/-- Behind the region: a variable. -/
theorem Laid.var {B : Nat} {G : Fl} {v : Value} {w : World} (h : isLaidB 31 B (holdsF B G) v w) : ∃ g, v = .pointer (some ⟨g, 0, none⟩) ∧ Var w g G := by
  obtain ⟨g, cs, e, hg, hc, vp, vw, rfl, hp, hq⟩ := h
  exact ⟨g, e, vp, vw, (cells5_of hc).1, hp.cells, hq.cells⟩
end Go.Proofs.YtipiioggdalkoaaGreatDoor
