/- A region that draws its order, walked once, operation by operation: what each operation yields is said by a predicate that stays true as memory grows; an operation leans on those alone that it waits for. So whatever order is drawn comes to the same end. Nothing of the program. -/
import Derived.Test.YtebjljiklacolaaOctBase
import Derived.Orders
namespace Go.Proofs.Ytebjljiklacolaa
open Go.RowKit
set_option linter.unusedVariables false

abbrev VP := Value → World → Prop
/-- It stays true as memory grows. -/
def Stable (V : VP) : Prop := ∀ v w w', V v w → Below w.heap.size w w' → V v w'
def isVal (v : Value) : VP := fun x _ => x = v
theorem stable_val (v : Value) : Stable (isVal v) := fun _ _ _ h _ => h
/-- A slice of just these bytes, at the head of a block. -/
def isRow (l : List UInt8) : VP := fun x w => ∃ g, x = .slice (some ⟨g, 0, none⟩) l.length l.length ∧ g < w.heap.size ∧ BRow w g l
theorem stable_row (l : List UInt8) : Stable (isRow l) := fun _ w w' ⟨g, e, hg, hr⟩ hb =>
  ⟨g, e, Nat.lt_of_lt_of_le hg hb.size, fun j hj => ⟨(hb.cell (p := ⟨g, j, none⟩) hg).trans (hr j hj).1, (hb.frozen (p := ⟨g, j, none⟩) hg).trans (hr j hj).2⟩⟩

section
variable (P : Program) (ops : Array Oper) (base : World) (a0 : Act) (Q : Exit → Act → World → Prop)

/-- What operation j yielded is as it should be. -/
def FDone (kn : Nat → VP) (a : Act) (w : World) (j : Nat) : Prop := ∀ o, ops[j]? = some o → ∀ t, o.dst = some t → kn j (a.tmps.getD t undef) w
/-- What the region does not write is as it was. -/
def FKept (a : Act) : Prop := a.defers = a0.defers ∧ a.tmps.size = a0.tmps.size ∧ ∀ t, (ops.toList.all fun o => o.dst != some t) = true → a.tmps.getD t undef = a0.tmps.getD t undef

def FDeps (kn : Nat → VP) (i : Nat) (a : Act) (w : World) : Prop := ∀ o, ops[i]? = some o → ∀ e ∈ o.after.toList, Region.binds .any e = true → FDone ops kn a w e.on
def FStep (kn : Nat → VP) (i : Nat) (V : VP) : Prop := Stable V ∧ ∀ o, ops[i]? = some o → ∀ a w, FKept ops a0 a → Below base.heap.size base w → FDeps ops kn i a w →
  wpOp P ops Q i (fun a' w' => ∃ v, a' = a.put o.dst v ∧ V v w' ∧ Below w.heap.size w w') a w

def upd (kn : Nat → VP) (i : Nat) (V : VP) : Nat → VP := fun j => if j = i then V else kn j

/-- From operation i on, k operations more. -/
def FlowFrom : Nat → Nat → (Nat → VP) → Prop
  | 0, _, kn => ∀ a w, FKept ops a0 a → Below base.heap.size base w → (∀ j, j < ops.size → FDone ops kn a w j) → Q .normal a w
  | k + 1, i, kn => ∃ V, FStep P ops base a0 Q kn i V ∧ FlowFrom k (i + 1) (upd kn i V)

/-- Each waits for earlier ones alone; no two write one slot; all slots are there. -/
def flowOk (n : Nat) : Bool :=
  ((List.range ops.size).all fun i => (ops[i]?).all fun o => o.after.toList.all fun e => !Region.binds .any e || decide (e.on < i)) &&
  ((List.range ops.size).all fun i => (List.range ops.size).all fun j => i == j || match (ops[i]?).bind (·.dst), (ops[j]?).bind (·.dst) with
    | some s, some t => s != t
    | _, _ => true) &&
  (ops.toList.all fun o => match o.dst with | some t => decide (t < n) | none => true)
end

section
variable {P : Program} {ops : Array Oper} {base : World} {a0 : Act} {Q : Exit → Act → World → Prop}

theorem flowOk_spec {n : Nat} (h : flowOk ops n = true) :
    (∀ (i : Nat) (o : Oper), ops[i]? = some o → ∀ e ∈ o.after.toList, Region.binds .any e = true → e.on < i) ∧
    (∀ (i j : Nat) (oi oj : Oper) (s : Tmp), ops[i]? = some oi → ops[j]? = some oj → oi.dst = some s → oj.dst = some s → i = j) ∧
    (∀ (i : Nat) (o : Oper) (t : Tmp), ops[i]? = some o → o.dst = some t → t < n) := by
  unfold flowOk at h
  simp only [Bool.and_eq_true, List.all_eq_true, List.mem_range] at h
  obtain ⟨⟨h1, h2⟩, h3⟩ := h
  have lt : ∀ {i o}, ops[i]? = some o → i < ops.size := fun h => (Array.getElem?_eq_some_iff.1 h).1
  refine ⟨?_, ?_, ?_⟩
  · intro i o ho e he hb
    have := h1 i (lt ho)
    rw [ho] at this
    simp only [Option.all_some, List.all_eq_true] at this
    have := this e he
    rw [hb] at this
    simpa using this
  · intro i j oi oj s hi hj hs ht
    have := h2 i (lt hi) j (lt hj)
    rw [hi, hj] at this
    simp only [Option.bind_some, hs, ht] at this
    simpa using this
  · intro i o t ho ht
    have := h3 o (by rw [Array.mem_toList_iff]; exact Array.mem_of_getElem? ho)
    rw [ht] at this
    simpa using this

theorem fdone_congr {kn kn' : Nat → VP} {a : Act} {w : World} {j : Nat} (h : kn j = kn' j) (hd : FDone ops kn a w j) : FDone ops kn' a w j := by
  intro o ho t ht
  rw [← h]
  exact hd o ho t ht

theorem flow_family {n : Nat} (hok : flowOk ops n = true) : ∀ k i kn, i + k = ops.size → (∀ m, m < i → FStep P ops base a0 Q kn m (kn m)) → FlowFrom P ops base a0 Q k i kn →
    ∃ kn', (∀ m, m < ops.size → FStep P ops base a0 Q kn' m (kn' m)) ∧ FlowFrom P ops base a0 Q 0 ops.size kn'
  | 0, i, kn, hi, hs, hf => ⟨kn, fun m hm => hs m (by omega), hf⟩
  | k + 1, i, kn, hi, hs, ⟨V, hV, hf⟩ => by
    have agree : ∀ m, m ≠ i → upd kn i V m = kn m := fun m hm => by simp [upd, hm]
    have self : upd kn i V i = V := by simp [upd]
    have shift : ∀ m W, m ≤ i → FStep P ops base a0 Q kn m W → FStep P ops base a0 Q (upd kn i V) m W := by
      intro m W hm h
      refine ⟨h.1, fun o ho a w hk hb hd => h.2 o ho a w hk hb ?_⟩
      intro o' ho' e he hbd
      have hlt := (flowOk_spec hok).1 m o' ho' e he hbd
      exact fdone_congr (agree e.on (by omega)) (hd o' ho' e he hbd)
    refine flow_family hok k (i + 1) (upd kn i V) (by omega) (fun m hm => ?_) hf
    by_cases hmi : m = i
    · subst hmi; rw [self]; exact shift m V (Nat.le_refl _) hV
    · rw [agree m hmi]; exact shift m _ (by omega) (hs m (by omega))

theorem getD_put {a : Act} {s : Tmp} {v : Value} {t : Tmp} (h : t ≠ s) : (a.put (some s) v).tmps.getD t undef = a.tmps.getD t undef := by
  simp only [Act.put, Array.getD_eq_getD_getElem?, Array.getElem?_setIfInBounds]
  rw [if_neg (fun e => h e.symm)]
theorem getD_put_self {a : Act} {s : Tmp} {v : Value} (h : s < a.tmps.size) : (a.put (some s) v).tmps.getD s undef = v := by
  simp [Act.put, Array.getD_eq_getD_getElem?, h]
theorem size_put {a : Act} {d : Option Tmp} {v : Value} : (a.put d v).tmps.size = a.tmps.size := by
  cases d <;> simp [Act.put]
theorem defers_put {a : Act} {d : Option Tmp} {v : Value} : (a.put d v).defers = a.defers := by
  cases d <;> simp [Act.put]

theorem wpAny_flow (hok : flowOk ops a0.tmps.size = true) {kn : Nat → VP} (hs : ∀ m, m < ops.size → FStep P ops base a0 Q kn m (kn m)) (he : FlowFrom P ops base a0 Q 0 ops.size kn) :
    ∀ (fuel : Nat) (listed : Array Bool) (a : Act) (w : World), listed.size = ops.size → ((List.range ops.size).filter fun i => !listed.getD i true).length ≤ fuel → FKept ops a0 a → Below base.heap.size base w →
      (∀ j, listed.getD j false = true → FDone ops kn a w j) → wpAny P .any ops Q fuel listed a w := by
  obtain ⟨ok1, ok2, ok3⟩ := flowOk_spec hok
  have getF : ∀ (listed : Array Bool) (i : Nat), i < listed.size → listed.getD i true = listed.getD i false := by
    intro listed i hi; simp [Array.getD, hi]
  have fin : ∀ (listed : Array Bool) (a : Act) (w : World), listed.size = ops.size → FKept ops a0 a → Below base.heap.size base w → (∀ j, listed.getD j false = true → FDone ops kn a w j) → Region.ready .any ops listed = [] → Q .normal a w := by
    intro listed a w hl hk hb hd hr
    refine he a w hk hb (fun j hj => hd j ?_)
    have key : ∀ m, ∀ j, j ≤ m → j < ops.size → listed.getD j false = true := by
      intro m
      induction m with
      | zero =>
        intro j hjm hj
        obtain rfl : j = 0 := by omega
        cases h0 : listed.getD 0 false with
        | true => rfl
        | false =>
          exfalso
          have : 0 ∈ Region.ready .any ops listed := by
            obtain ⟨o, ho⟩ : ∃ o, ops[0]? = some o := ⟨_, Array.getElem?_eq_getElem hj⟩
            simp only [Region.ready, List.mem_filter, List.mem_range, ho, Option.map_some, Option.getD_some, Bool.and_eq_true, getF listed 0 (by omega), h0]
            refine ⟨hj, rfl, ?_⟩
            rw [Array.all_eq_true_iff_forall_mem]
            intro e he'
            cases hbe : Region.binds .any e with
            | false => rfl
            | true => exact absurd (ok1 0 o ho e (Array.mem_toList_iff.2 he') hbe) (by omega)
          rw [hr] at this
          cases this
      | succ m ih =>
        intro j hjm hj
        by_cases hlt : j ≤ m
        · exact ih j hlt hj
        · obtain rfl : j = m + 1 := by omega
          cases h0 : listed.getD (m + 1) false with
          | true => rfl
          | false =>
            exfalso
            have : (m + 1) ∈ Region.ready .any ops listed := by
              obtain ⟨o, ho⟩ : ∃ o, ops[m + 1]? = some o := ⟨_, Array.getElem?_eq_getElem hj⟩
              simp only [Region.ready, List.mem_filter, List.mem_range, ho, Option.map_some, Option.getD_some, Bool.and_eq_true, getF listed (m + 1) (by omega), h0]
              refine ⟨hj, rfl, ?_⟩
              rw [Array.all_eq_true_iff_forall_mem]
              intro e he'
              cases hbe : Region.binds .any e with
              | false => rfl
              | true =>
                have := ok1 (m + 1) o ho e (Array.mem_toList_iff.2 he') hbe
                rw [ih e.on (by omega) (by omega)]
                rfl
            rw [hr] at this
            cases this
    exact key j j (Nat.le_refl _) hj
  intro fuel
  induction fuel with
  | zero =>
    intro listed a w hl hf hk hb hd
    have hr : Region.ready .any ops listed = [] := by
      have h0 : ((List.range ops.size).filter fun i => !listed.getD i true) = [] := List.eq_nil_of_length_eq_zero (by omega)
      unfold Region.ready
      rw [List.filter_eq_nil_iff] at h0 ⊢
      intro i hi hc
      exact h0 i hi (by simp only [Bool.and_eq_true] at hc; exact hc.1)
    exact ⟨hr, fin listed a w hl hk hb hd hr⟩
  | succ fuel ih =>
    intro listed a w hl hf hk hb hd
    refine ⟨fun hr => fin listed a w hl hk hb hd hr, fun i hi => ?_⟩
    simp only [Region.ready, List.mem_filter, List.mem_range, Bool.and_eq_true] at hi
    obtain ⟨hilt, hun, hready⟩ := hi
    obtain ⟨o, ho⟩ : ∃ o, ops[i]? = some o := ⟨_, Array.getElem?_eq_getElem hilt⟩
    rw [ho] at hready
    simp only [Option.map_some, Option.getD_some, Array.all_eq_true_iff_forall_mem] at hready
    have hstep := (hs i hilt).2 o ho a w hk hb (by
      intro o' ho' e he' hbd
      rw [ho] at ho'
      cases ho'
      have := hready e (Array.mem_toList_iff.1 he')
      rw [hbd] at this
      exact hd e.on (by simpa using this))
    refine wpOp_mono ?_ hstep
    rintro a' w' ⟨v, rfl, hV, hbw⟩
    have hlt' : i < listed.size := by omega
    refine ih (listed.setIfInBounds i true) _ w' (by simpa using hl) ?_ ?_ (hb.trans (hbw.mono hb.size)) ?_
    · have hsub : ((List.range ops.size).filter fun j => !(listed.setIfInBounds i true).getD j true).length < ((List.range ops.size).filter fun j => !listed.getD j true).length := by
        have e1 : ((List.range ops.size).filter fun j => !(listed.setIfInBounds i true).getD j true) = ((List.range ops.size).filter fun j => !listed.getD j true).filter (fun j => j != i) := by
          rw [List.filter_filter]
          apply List.filter_congr
          intro j hj
          by_cases e : j = i
          · subst e; simp [Array.getD_eq_getD_getElem?, hlt']
          · have e' : ¬ i = j := fun h => e h.symm
            simp [Array.getD_eq_getD_getElem?, e, e']
        rw [e1]
        refine List.length_filter_lt_length_iff_exists.2 ⟨i, ?_, by simp⟩
        simp only [List.mem_filter, List.mem_range]
        exact ⟨hilt, hun⟩
      omega
    · refine ⟨by rw [defers_put]; exact hk.1, by rw [size_put]; exact hk.2.1, fun t ht => ?_⟩
      cases hdst : o.dst with
      | none => simp only [Act.put]; exact hk.2.2 t ht
      | some s =>
        have : s ≠ t := by
          rintro rfl
          have := List.all_eq_true.1 ht o (by rw [Array.mem_toList_iff]; exact Array.mem_of_getElem? ho)
          rw [hdst] at this
          simp at this
        rw [getD_put (fun h => this h.symm)]
        exact hk.2.2 t ht
    · intro j hj o' ho' t ht
      by_cases e : j = i
      · subst e
        rw [ho] at ho'
        cases ho'
        rw [ht, getD_put_self (by rw [hk.2.1]; exact ok3 j o t ho ht)]
        exact hV
      · have e' : ¬ i = j := fun h => e h.symm
        have hj' : listed.getD j false = true := by
          simpa [Array.getD_eq_getD_getElem?, Array.getElem?_setIfInBounds, e'] using hj
        have hne : o.dst ≠ some t := fun hh => e (ok2 j i o' o t ho' ho ht hh)
        have hold := hd j hj' o' ho' t ht
        have hslot : (a.put o.dst v).tmps.getD t undef = a.tmps.getD t undef := by
          cases hdst : o.dst with
          | none => rfl
          | some s => exact getD_put (fun h => hne (by rw [hdst, h]))
        rw [hslot]
        exact (hs j (by
          have := (Array.getElem?_eq_some_iff.1 ho').1
          exact this)).1 _ _ _ hold hbw

/-- THE LAW. -/
theorem wp_region_flow {id : Nat} {a : Act} {w : World} (hm : P.follows .mixedOrders = true) (hok : flowOk ops a.tmps.size = true)
    (h : FlowFrom P ops w a Q ops.size 0 (fun _ _ _ => False)) : (Code.region id ops true).wp P Q a w := by
  refine wp_region_any hm ?_
  obtain ⟨kn, hs, he⟩ := flow_family hok ops.size 0 _ (by omega) (fun m hm => absurd hm (by omega)) h
  refine wpAny_flow hok hs he ops.size _ a _ (by simp) ?_ ⟨rfl, rfl, fun _ _ => rfl⟩ ((Below.refl _ w).drew) ?_
  · exact Nat.le_trans (List.length_filter_le _ _) (by simp)
  · intro j hj
    simp [Array.getD_eq_getD_getElem?, Array.getElem?_replicate] at hj
    split at hj <;> simp at hj
end
end Go.Proofs.Ytebjljiklacolaa
