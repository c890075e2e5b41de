/- A region that draws its order, in which new structs are laid down among the other operations: what a store did is said of the block that its pointer shows. Nothing of the program. -/
import Derived.Test.YtipiioggdalkoaaGreatDoorFlowRel
namespace Go.Proofs.YtipiioggdalkoaaGreatDoor
open Go.RowKit
set_option linter.unusedVariables false
set_option linter.unusedSimpArgs false

/-- The slot of which an operation's word speaks: what it writes, or the pointer through which it stores. -/
def slotOf (o : Oper) : Option Tmp := match o.dst with
  | some t => some t
  | none => match o.op with
    | .store _ (.tmp s) _ => some s
    | _ => none
def wordOf (o : Oper) (a : Act) : Value := match slotOf o with
  | some t => a.tmps.getD t undef
  | none => undef
/-- A store waits for who wrote its pointer. -/
def linkOk (ops : Array Oper) : Bool := (List.range ops.size).all fun j => (ops[j]?).all fun o => o.dst.isSome || match slotOf o with
  | some s => (List.range ops.size).all fun m => (ops[m]?).all fun om => om.dst != some s || waits ops j m
  | none => true
theorem linkOk_spec {ops : Array Oper} (h : linkOk ops = true) {j m : Nat} {o om : Oper} {s : Tmp} (hj : ops[j]? = some o) (hd : o.dst = none) (hs : slotOf o = some s) (hm : ops[m]? = some om) (hdm : om.dst = some s) : waits ops j m = true := by
  unfold linkOk at h
  rw [List.all_eq_true] at h
  have h1 := h j (by simpa using (Array.getElem?_eq_some_iff.1 hj).1)
  rw [hj] at h1
  simp only [Option.all_some, hd, Option.isSome_none, Bool.false_or, hs, List.all_eq_true] at h1
  have h2 := h1 m (by simpa using (Array.getElem?_eq_some_iff.1 hm).1)
  rw [hm] at h2
  simpa [hdm] using h2

section
variable (R : World → World → Prop) (P : Program) (ops : Array Oper) (base : World) (a0 : Act) (Q : Exit → Act → World → Prop)
def LDone (kn : Nat → VP) (a : Act) (w : World) (j : Nat) : Prop := ∀ o, ops[j]? = some o → kn j (wordOf o a) w
def LDeps (kn : Nat → VP) (i : Nat) (a : Act) (w : World) : Prop := ∀ o, ops[i]? = some o → ∀ e ∈ o.after.toList, Region.binds .any e = true → LDone ops kn a w e.on
def LStep (kn : Nat → VP) (i : Nat) (V : VP) : Prop := StableR R V ∧ ∀ o, ops[i]? = some o → ∀ a w, FKept ops a0 a → R base w → LDeps ops kn i a w →
  wpOp P ops Q i (fun a' w' => ∃ v, a' = a.put o.dst v ∧ V (wordOf o a') w' ∧ R w w') a w
def LFlow : Nat → Nat → (Nat → VP) → Prop
  | 0, _, kn => ∀ a w, FKept ops a0 a → R base w → (∀ j, j < ops.size → LDone ops kn a w j) → Q .normal a w
  | k + 1, i, kn => ∃ V, LStep R P ops base a0 Q kn i V ∧ LFlow k (i + 1) (upd kn i V)
end

section
variable {R : World → World → Prop} {P : Program} {ops : Array Oper} {base : World} {a0 : Act} {Q : Exit → Act → World → Prop}
theorem ldone_congr {kn kn' : Nat → VP} {a : Act} {w : World} {j : Nat} (h : kn j = kn' j) (hd : LDone ops kn a w j) : LDone ops kn' a w j := by
  intro o ho
  rw [← h]
  exact hd o ho
theorem ldone_f {kn : Nat → VP} {a : Act} {w : World} {j : Nat} (h : LDone ops kn a w j) : FDone ops kn a w j := by
  intro o ho t ht
  have := h o ho
  simpa [wordOf, slotOf, ht] using this
/-- An operation that only reads, or makes memory. -/
theorem LStep.of {kn : Nat → VP} {i : Nat} {V : VP} (hR : Pre R) (hok : flowOk ops a0.tmps.size = true) (hst : StableR R V) (hd : ((ops[i]?).bind (·.dst)).isSome = true) (h : ∀ w, R base w → FStep P ops w a0 Q kn i V) : LStep R P ops base a0 Q kn i V := by
  refine ⟨hst, fun o ho a w hk hb hdp => ?_⟩
  refine wpOp_mono ?_ ((h w hb).2 o ho a w hk (Below.refl _ _) (fun o' ho' e he hbd => ldone_f (hdp o' ho' e he hbd)))
  rintro a' w' ⟨v, e, hV, hbw⟩
  refine ⟨v, e, ?_, hR.grow _ _ hbw⟩
  rw [ho] at hd
  cases hdst : o.dst with
  | none => simp [hdst] at hd
  | some t =>
    subst e
    simp only [wordOf, slotOf, hdst]
    rw [getD_put_self (by rw [hk.2.1]; exact (flowOk_spec hok).2.2 i o t ho hdst)]
    exact hV

theorem word_put {hok : flowOk ops a0.tmps.size = true} (hlk : linkOk ops = true) {i j : Nat} {o o' : Oper} {a : Act} {v : Value} (ho : ops[i]? = some o) (ho' : ops[j]? = some o') (hne : j ≠ i) (hw : waits ops j i = false) : wordOf o' (a.put o.dst v) = wordOf o' a := by
  obtain ⟨ok1, ok2, ok3⟩ := flowOk_spec hok
  unfold wordOf
  cases hs : slotOf o' with
  | none => rfl
  | some s =>
    simp only []
    cases hdst : o.dst with
    | none => rfl
    | some t =>
      refine getD_put ?_
      rintro rfl
      cases hd' : o'.dst with
      | some t' =>
        have : t' = s := by simpa [slotOf, hd'] using hs
        subst this
        exact hne (ok2 j i o' o t' ho' ho hd' hdst)
      | none =>
        rw [linkOk_spec hlk ho' hd' hs ho hdst] at hw
        cases hw

theorem wpAny_lay (hR : Pre R) (hok : flowOk ops a0.tmps.size = true) (hlk : linkOk ops = true) {kn : Nat → VP} (hs : ∀ m, m < ops.size → LStep R P ops base a0 Q kn m (kn m)) (he : LFlow R P ops base a0 Q 0 ops.size kn) :
    ∀ (u fuel : Nat) (listed : Array Bool) (a : Act) (w : World), listed.size = ops.size → ((List.range ops.size).filter fun i => !listed.getD i false).length ≤ u → u ≤ fuel → (∀ j, listed.getD j false = true → ∀ m, waits ops j m = true → listed.getD m false = true) →
      FKept ops a0 a → R base w → (∀ j, listed.getD j false = true → LDone ops kn a w j) → wpAny P .any ops Q fuel listed a w := by
  obtain ⟨ok1, ok2, ok3⟩ := flowOk_spec hok
  have fin : ∀ (listed : Array Bool) (a : Act) (w : World) (fuel : Nat), listed.size = ops.size → (∀ j, j < ops.size → listed.getD j false = true) → FKept ops a0 a → R base w → (∀ j, listed.getD j false = true → LDone ops kn a w j) → wpAny P .any ops Q fuel listed a w := by
    intro listed a w fuel hl hall hk hb hd
    have hr : Region.ready .any ops listed = [] := by
      apply List.eq_nil_iff_forall_not_mem.2
      intro j hj
      have := ready_un hl hj
      rw [hall j this.1] at this
      simp at this
    have hq : Q .normal a w := he a w hk hb (fun j hj => hd j (hall j hj))
    cases fuel with
    | zero => exact ⟨hr, hq⟩
    | succ fuel => exact ⟨fun _ => hq, fun j hj => by rw [hr] at hj; cases hj⟩
  intro u
  induction u with
  | zero =>
    intro fuel listed a w hl hu hf hcl hk hb hd
    refine fin listed a w fuel hl (fun j hj => ?_) hk hb hd
    have h0 : ((List.range ops.size).filter fun i => !listed.getD i false) = [] := List.eq_nil_of_length_eq_zero (by omega)
    rw [List.filter_eq_nil_iff] at h0
    have := h0 j (by simpa using hj)
    simpa using this
  | succ u ih =>
    intro fuel listed a w hl hu hf hcl hk hb hd
    by_cases hall : ∀ j, j < ops.size → listed.getD j false = true
    · exact fin listed a w fuel hl hall hk hb hd
    · have hex : ∃ m, m < ops.size ∧ listed.getD m false = false ∧ ∀ j, j < m → listed.getD j false = true := by
        have key : ∀ n, n ≤ ops.size → (∀ j, j < n → listed.getD j false = true) ∨ ∃ m, m < n ∧ listed.getD m false = false ∧ ∀ j, j < m → listed.getD j false = true := by
          intro n
          induction n with
          | zero => intro _; exact .inl (fun j hj => absurd hj (by omega))
          | succ n ihn =>
            intro hn
            rcases ihn (by omega) with h | ⟨m, hm, h1, h2⟩
            · cases hc : listed.getD n false with
              | true => exact .inl (fun j hj => by by_cases e : j = n; exact e ▸ hc; exact h j (by omega))
              | false => exact .inr ⟨n, by omega, hc, h⟩
            · exact .inr ⟨m, by omega, h1, h2⟩
        rcases key ops.size (Nat.le_refl _) with h | h
        · exact absurd h hall
        · exact h
      obtain ⟨m, hm, hmu, hmd⟩ := hex
      have hmem : m ∈ Region.ready .any ops listed := ready_of hok hl (by omega) hmu hmd
      cases fuel with
      | zero => omega
      | succ fuel =>
        refine ⟨fun hr => (by rw [hr] at hmem; cases hmem), fun i hi => ?_⟩
        have hiu := ready_un hl hi
        obtain ⟨o, ho⟩ : ∃ o, ops[i]? = some o := ⟨_, Array.getElem?_eq_getElem hiu.1⟩
        have hstep := (hs i hiu.1).2 o ho a w hk hb (by
          intro o' ho' e he' hbd
          rw [ho] at ho'
          cases ho'
          refine hd e.on (waits_ready hi ?_)
          unfold waits
          rw [ho]
          simp only [Option.any_some, List.any_eq_true, Bool.and_eq_true, beq_iff_eq]
          exact ⟨e, he', rfl, hbd⟩)
        refine wpOp_mono ?_ hstep
        rintro a' w' ⟨v, rfl, hV, hbw⟩
        refine ih fuel (listed.setIfInBounds i true) _ w' (by simpa using hl) ?_ (by omega) ?_ ?_ (hR.trans _ _ _ hb hbw) ?_
        · have hsub : ((List.range ops.size).filter fun j => !(listed.setIfInBounds i true).getD j false).length < ((List.range ops.size).filter fun j => !listed.getD j false).length := by
            have e1 : ((List.range ops.size).filter fun j => !(listed.setIfInBounds i true).getD j false) = ((List.range ops.size).filter fun j => !listed.getD j false).filter (fun j => j != i) := by
              rw [List.filter_filter]
              apply List.filter_congr
              intro j hj
              by_cases e : j = i
              · subst e; rw [getD_set_same (by omega)]; simp
              · rw [getD_set_ne e]; simp [e]
            rw [e1]
            refine List.length_filter_lt_length_iff_exists.2 ⟨i, ?_, by simp⟩
            simp only [List.mem_filter, List.mem_range]
            exact ⟨hiu.1, by rw [hiu.2]; rfl⟩
          omega
        · intro j hj m' hwm
          by_cases e : j = i
          · subst e
            have := waits_ready hi hwm
            by_cases e2 : m' = j
            · subst e2; exact getD_set_same (by omega)
            · rw [getD_set_ne e2]; exact this
          · rw [getD_set_ne e] at hj
            by_cases e2 : m' = i
            · subst e2; exact getD_set_same (by omega)
            · rw [getD_set_ne e2]; exact hcl j hj m' hwm
        · refine ⟨by rw [defers_put]; exact hk.1, by rw [size_put]; exact hk.2.1, fun t ht' => ?_⟩
          cases hdst : o.dst with
          | none => simp only [Act.put]; exact hk.2.2 t ht'
          | some s =>
            have : s ≠ t := by
              rintro rfl
              have := List.all_eq_true.1 ht' o (by rw [Array.mem_toList_iff]; exact Array.mem_of_getElem? ho)
              simp [hdst] at this
            rw [getD_put (fun h => this h.symm)]
            exact hk.2.2 t ht'
        · intro j hj o' ho'
          by_cases e : j = i
          · subst e
            rw [ho] at ho'
            cases ho'
            exact hV
          · rw [getD_set_ne e] at hj
            have hold := hd j hj o' ho'
            have hjk : j < ops.size := (Array.getElem?_eq_some_iff.1 ho').1
            refine (hs j hjk).1 _ _ _ ?_ hbw
            have hwf : waits ops j i = false := by
              cases hc : waits ops j i with
              | false => rfl
              | true => have := hcl j hj i hc; rw [hiu.2] at this; cases this
            rw [word_put (hok := hok) hlk ho ho' e hwf]
            exact hold

theorem lay_family {n : Nat} (hok : flowOk ops n = true) : ∀ k i kn, i + k = ops.size → (∀ m, m < i → LStep R P ops base a0 Q kn m (kn m)) → LFlow R P ops base a0 Q k i kn →
    ∃ kn', (∀ m, m < ops.size → LStep R P ops base a0 Q kn' m (kn' m)) ∧ LFlow R P ops base a0 Q 0 ops.size kn'
  | 0, i, kn, hi, hs, hf => ⟨kn, fun m hm => hs m (by omega), hf⟩
  | k + 1, i, kn, hi, hs, ⟨V, hV, hf⟩ => by
    have agree : ∀ m, m ≠ i → upd kn i V m = kn m := fun m hm => by simp [upd, hm]
    have self : upd kn i V i = V := by simp [upd]
    have shift : ∀ m W, m ≤ i → LStep R P ops base a0 Q kn m W → LStep R P ops base a0 Q (upd kn i V) m W := by
      intro m W hm h
      refine ⟨h.1, fun o ho a w hk hb hd => h.2 o ho a w hk hb ?_⟩
      intro o' ho' e he hbd
      have hlt := (flowOk_spec hok).1 m o' ho' e he hbd
      exact ldone_congr (agree e.on (by omega)) (hd o' ho' e he hbd)
    refine lay_family hok k (i + 1) (upd kn i V) (by omega) (fun m hm => ?_) hf
    by_cases hmi : m = i
    · subst hmi; rw [self]; exact shift m V (Nat.le_refl _) hV
    · rw [agree m hmi]; exact shift m _ (by omega) (hs m (by omega))

/-- THE LAW. -/
theorem wp_region_lay (hR : Pre R) {id : Nat} {a : Act} {w : World} (hm : P.follows .mixedOrders = true) (hok : flowOk ops a.tmps.size = true) (hlk : linkOk ops = true)
    (h : LFlow R P ops w a Q ops.size 0 (fun _ _ _ => False)) : (Code.region id ops true).wp P Q a w := by
  refine wp_region_any hm ?_
  obtain ⟨kn, hs, he⟩ := lay_family hok ops.size 0 _ (by omega) (fun m hm => absurd hm (by omega)) h
  refine wpAny_lay hR hok hlk hs he ops.size ops.size _ a _ (by simp) ?_ (by omega) ?_ ⟨rfl, rfl, fun _ _ => rfl⟩ (hR.drew w) ?_
  · exact Nat.le_trans (List.length_filter_le _ _) (by simp)
  · intro j hj
    simp [Array.getD_eq_getD_getElem?, Array.getElem?_replicate] at hj
    split at hj <;> simp at hj
  · intro j hj
    simp [Array.getD_eq_getD_getElem?, Array.getElem?_replicate] at hj
    split at hj <;> simp at hj
end
theorem ldone_of {ops : Array Oper} {kn : Nat → VP} {a : Act} {w : World} {j : Nat} {t : Tmp} {V : VP} (h : LDone ops kn a w j) (hd : (ops[j]?).bind slotOf = some t) (hV : kn j = V) : V (a.tmps.getD t undef) w := by
  cases ho : ops[j]? with
  | none => rw [ho] at hd; simp at hd
  | some o =>
    rw [ho] at hd
    have := h o ho
    rw [hV] at this
    simp only [Option.bind_some] at hd
    simpa [wordOf, hd] using this

/- New structs of one type (T), from block B on: what is nought may come to hold what is told (L). -/
structure Keeps (T : TypeId) (B : Nat) (w w' : World) : Prop where
  size : w.heap.size ≤ w'.heap.size
  block : ∀ b, b < w.heap.size → (b < B ∨ ∀ cs fr, w.heap[b]? ≠ some (.cells cs T fr)) → w'.heap[b]? = w.heap[b]?
theorem Keeps.refl (T : TypeId) (B : Nat) (w : World) : Keeps T B w w := ⟨Nat.le_refl _, fun _ _ _ => rfl⟩
theorem Keeps.trans {T : TypeId} {B : Nat} {a b c : World} (h1 : Keeps T B a b) (h2 : Keeps T B b c) : Keeps T B a c :=
  ⟨Nat.le_trans h1.size h2.size, fun i hi h => by
    have e := h1.block i hi h
    rw [← e]
    exact h2.block i (Nat.lt_of_lt_of_le hi h1.size) (h.imp id fun h cs fr => by rw [e]; exact h cs fr)⟩
theorem Keeps.of {T : TypeId} {B : Nat} {w w' : World} (h : Below w.heap.size w w') : Keeps T B w w' := ⟨h.size, fun b hb _ => h.block b hb⟩
theorem Keeps.cell {T : TypeId} {B : Nat} {w w' : World} (h : Keeps T B w w') {p : Addr} (hp : p.block < B) (hs : p.block < w.heap.size) : w'.cell? p = w.cell? p := by
  simp only [World.cell?, h.block p.block hs (.inl hp)]

structure Laid (T : TypeId) (B : Nat) (L : Array Value → World → Prop) (w w' : World) : Prop where
  os : w'.os = w.os
  tape : w'.tape = w.tape
  output : w'.output = w.output
  keeps : Keeps T B w w'
  typ : ∀ b cs, B ≤ b → w.heap[b]? = some (.cells cs T (0, 0)) → w'.heap[b]? = some (.cells cs T (0, 0)) ∨ ∃ cs', cs'.size = cs.size ∧ L cs' w' ∧ w'.heap[b]? = some (.cells cs' T (0, 0))
def StabK (T : TypeId) (B : Nat) (L : Array Value → World → Prop) : Prop := ∀ cs w w', L cs w → Keeps T B w w' → L cs w'
theorem laid_pre {T : TypeId} {B : Nat} {L : Array Value → World → Prop} (hL : StabK T B L) : Pre (Laid T B L) where
  refl w := ⟨rfl, rfl, rfl, Keeps.refl _ _ _, fun _ _ _ h => .inl h⟩
  trans a b c h1 h2 := ⟨h2.os.trans h1.os, h2.tape.trans h1.tape, h2.output.trans h1.output, h1.keeps.trans h2.keeps, fun i cs hi he => by
    rcases h1.typ i cs hi he with h | ⟨cs', hz, hl, hc⟩
    · exact h2.typ i cs hi h
    · rcases h2.typ i cs' hi hc with h' | ⟨cs'', hz', hl', hc'⟩
      · exact .inr ⟨cs', hz, hL _ _ _ hl h2.keeps, h'⟩
      · exact .inr ⟨cs'', hz'.trans hz, hl', hc'⟩⟩
  grow w w' h := ⟨h.os, h.tape, h.output, Keeps.of h, fun b cs hb he => .inl ((h.block b (Array.getElem?_eq_some_iff.1 he).1).trans he)⟩
  drew w := ⟨rfl, rfl, rfl, ⟨Nat.le_refl _, fun _ _ _ => rfl⟩, fun _ _ _ h => .inl h⟩
theorem Laid.below {T : TypeId} {B : Nat} {L : Array Value → World → Prop} {w w' : World} (h : Laid T B L w w') (hB : B ≤ w.heap.size) : Below B w w' where
  os := h.os
  tape := h.tape
  output := h.output
  size := h.keeps.size
  block b hb := h.keeps.block b (by omega) (.inl hb)
/-- A new block of n cells; one that holds what is told. -/
def isNewB (T : TypeId) (B n : Nat) : VP := fun v w => ∃ g cs, v = .pointer (some ⟨g, 0, none⟩) ∧ B ≤ g ∧ w.heap[g]? = some (.cells cs T (0, 0)) ∧ cs.size = n
def isLaidB (T : TypeId) (B : Nat) (L : Array Value → World → Prop) : VP := fun v w => ∃ g cs, v = .pointer (some ⟨g, 0, none⟩) ∧ B ≤ g ∧ w.heap[g]? = some (.cells cs T (0, 0)) ∧ L cs w
theorem stab_newB {T : TypeId} {B n : Nat} {L : Array Value → World → Prop} : StableR (Laid T B L) (isNewB T B n) := by
  rintro v w w' ⟨g, cs, rfl, hg, hc, h⟩ hr
  rcases hr.typ g cs hg hc with h' | ⟨cs', hz, hl, hc'⟩
  · exact ⟨g, cs, rfl, hg, h', h⟩
  · exact ⟨g, cs', rfl, hg, hc', hz.trans h⟩
theorem stab_laidB {T : TypeId} {B : Nat} {L : Array Value → World → Prop} (hL : StabK T B L) : StableR (Laid T B L) (isLaidB T B L) := by
  rintro v w w' ⟨g, cs, rfl, hg, hc, h⟩ hr
  rcases hr.typ g cs hg hc with h' | ⟨cs', _, hl, hc'⟩
  · exact ⟨g, cs, rfl, hg, h', hL _ _ _ h hr.keeps⟩
  · exact ⟨g, cs', rfl, hg, hc', hl⟩
section
variable {P : Program} {ops : Array Oper} {base : World} {a0 : Act} {Q : Exit → Act → World → Prop} {kn : Nat → VP} {i : Nat}
/-- A new struct. -/
theorem LStep.alloc {B : Nat} {L : Array Value → World → Prop} (T : TypeId) (cs : List Value) (hB : B ≤ base.heap.size) (hop : (ops[i]?).map (fun o => (o.op, o.guard)) = some (.alloc T, none)) (hok : flowOk ops a0.tmps.size = true) (hds : ((ops[i]?).bind (·.dst)).isSome = true)
    (hL : StabK T B L) (hz : ∀ w, (Instr.alloc T true (.tuple #[])).run P w = .ok (.pointer (some ⟨w.heap.size, 0, none⟩)) (w.alloc (.cells cs.toArray T))) : LStep (Laid T B L) P ops base a0 Q kn i (isNewB T B cs.length) := by
  refine ⟨stab_newB, fun o ho a w hk hb hdp => ?_⟩
  rw [ho] at hop hds
  simp only [Option.map_some, Option.some.injEq, Prod.mk.injEq] at hop
  unfold wpOp
  simp only [ho]
  rw [show Region.wanted o (yielded ops a.tmps) = true by simp [Region.wanted, hop.2]]
  refine .inl ?_
  unfold Oper.wp execOp
  rw [hop.1]
  simp only [Sem.run_bind, hz, Result.andThen_ok, Sem.run_pure, Oper.upon]
  have hbel : Below w.heap.size w (w.alloc (.cells cs.toArray T)) := (Below.refl _ _).alloc (Nat.le_refl _) _
  refine ⟨_, rfl, ?_, (laid_pre hL).grow _ _ hbel⟩
  cases hdst : o.dst with
  | none => rw [Option.bind_some, hdst] at hds; cases hds
  | some t =>
    simp only [wordOf, slotOf, hdst]
    rw [getD_put_self (by rw [hk.2.1]; exact (flowOk_spec hok).2.2 i o t ho hdst)]
    refine ⟨w.heap.size, cs.toArray, rfl, Nat.le_trans hB hb.keeps.size, ?_, by simp⟩
    show (w.heap.push _)[w.heap.size]? = _
    simp
end
end Go.Proofs.YtipiioggdalkoaaGreatDoor
