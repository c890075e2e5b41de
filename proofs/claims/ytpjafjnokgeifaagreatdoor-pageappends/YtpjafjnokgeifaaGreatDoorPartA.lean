/- Joined texts: contracts of the program's functions, and the mathematics that they lean on. -/
import Derived.WalkKit
import Derived.WalkSpells
import Derived.WalkLawsBesides
import Derived.Lib.Hide
import Derived.Lib.ConvBytes
import Derived.Laws.BitsAllLaws
import Derived.IntWalk
import Derived.Deep.Light
import Derived.Deep.OwnRows
import Derived.Orders
import Derived.Great.BuildSlice
import Derived.Shelf.Abstract
import Derived.Test.YtpjafjnokgeifaaGreatDoorRows
import Derived.StillTailTactics
import Derived.Deep.RegionWith
import Derived.Deep.RegionHeld3
import Derived.Shelf.Strings.Builder1
import Derived.Shelf.Strings.Builder2
import Derived.Shelf.Strings.BuilderF
import Derived.Shelf.Strings.Prefix
import Derived.Shelf.Bits.Mul64
import Derived.Shelf.Strings.Repeat
import Derived.Shelf.Slices.Reverse
import Derived.Shelf.Slices.Equal
import Derived.Ground.Names2Prog
import Derived.Shelf.Slices.Clone
import Derived.Shelf.Slices.SearchI
import Derived.Shelf.Slices.Cells
import Derived.Shelf.Slices.Empties2
import Derived.Ground.SlgnProg
import Derived.Shelf.SlicesE.Clone
import Derived.Test.YtpjafjnokgeifaaGreatDoorProg
import Derived.Lib.BitFns
import Derived.RangeFuncNested
import Derived.RangeFuncBound
import Derived.RangeFuncCalls
import Derived.RangeFuncLeaves
import Derived.Shelf.RegionOpen
import Derived.OwnWalkIn
import Derived.TacticsInMore
import Derived.LoopNIn
import Derived.LoopIn
import Derived.Laws.ResultCell
section
namespace Go.Proofs.YtpjafjnokgeifaaGreatDoor
open Go.RowKit

/-- Block g begins with the bytes l, none of them frozen. -/
def BRow (w : World) (g : Nat) (l : List UInt8) : Prop :=
  ∀ j (h : j < l.length), w.cell? ⟨g, j, none⟩ = some (.int .u8 (l[j].toNat : Int)) ∧ w.frozen? ⟨g, j, none⟩ = false

theorem BRow.at_ {w : World} {g : Nat} {l : List UInt8} (h : BRow w g l) {k : Nat} (hk : k < l.length) :
    w.cell? ⟨g, k, none⟩ = some (.int .u8 (l[k].toNat : Int)) := (h k hk).1
theorem BRow.some_ {w : World} {g : Nat} {l : List UInt8} (h : BRow w g l) {k : Nat} (hk : k < l.length) :
    ∃ v, w.cell? ⟨g, k, none⟩ = some (.int .u8 v) := ⟨_, (h k hk).1⟩
theorem BRow.free {w : World} {g : Nat} {l : List UInt8} (h : BRow w g l) {k : Nat} (hk : k < l.length) :
    w.frozen? ⟨g, k, none⟩ = false := (h k hk).2

theorem BRow.set_ {w : World} {g : Nat} {l : List UInt8} (h : BRow w g l) {k : Nat} (hk : k < l.length) (b : UInt8) :
    BRow (w.setCell ⟨g, k, none⟩ (.int .u8 (b.toNat : Int))) g (l.set k b) := by
  intro j hj
  have hj' : j < l.length := by simpa using hj
  refine ⟨?_, by rw [World.frozen?_setCell]; exact (h j hj').2⟩
  by_cases e : k = j
  · subst e
    rw [World.cell?_setCell_same w _ _ (h k hk).1]
    simp
  · rw [World.cell?_setCell_other w _ _ _ (by intro h; injection h; contradiction), (h j hj').1]
    simp [List.getElem_set_ne e]

theorem BRow.drewN {w : World} {g : Nat} {l : List UInt8} (h : BRow w g l) (n : Nat) : BRow (w.drewN n) g l := h
theorem BRow.drew {w : World} {g : Nat} {l : List UInt8} (h : BRow w g l) : BRow w.drew g l := h

theorem madeCells_get (z : Value) (n j : Nat) (h : j < n) : (madeCells #[z] n)[j]? = some z := by
  simp [madeCells, h, Nat.mod_one]

theorem BRow.made (w : World) (e : TypeId) (n : Nat) : BRow (w.alloc (.cells (madeCells #[.int .u8 0] n) e)) w.heap.size (List.replicate n 0) := by
  intro j hj
  have hj' : j < n := by simpa using hj
  refine ⟨?_, World.frozen?_alloc_new w _ _ _⟩
  rw [World.cell?_alloc_new w, madeCells_get _ _ _ hj']
  simp

theorem BRow.back {P : Program} {w : World} {g : Nat} {l : List UInt8} (h : BRow w g l) (src dst e : TypeId) (n cap : Nat) (hn : l.length = n)
    (hs : P.underlying src = some (.slice e)) (he : P.underlying e = some (.int .u8)) (hd : P.underlying dst = some .string) :
    (convert src dst (.slice (some ⟨g, 0, none⟩) n cap)).run P w = .ok (.string ⟨l.toArray⟩) w := by
  subst hn
  refine run_convert_bytes_back w src dst e ⟨g, 0, none⟩ cap l hs he hd (fun j hj => ?_)
  have := (h j hj).1
  by_cases e0 : j = 0
  · subst e0; simpa [Addr.add] using this
  · simpa [Addr.add, e0] using this

/-- The first k of l, and behind them what stands in b there. -/
def mix (l b : List UInt8) (k : Nat) : List UInt8 := l.take k ++ b.drop k
theorem mix_zero (l b : List UInt8) : mix l b 0 = b := by simp [mix]
theorem mix_all (l b : List UInt8) (k : Nat) (hl : l.length ≤ k) (hb : b.length ≤ k) : mix l b k = l := by
  simp [mix, List.take_of_length_le hl, List.drop_eq_nil_of_le hb]
theorem length_mix (l b : List UInt8) (k : Nat) (h : b.length = l.length) : (mix l b k).length = l.length := by
  simp [mix]; omega
theorem mix_set (l b : List UInt8) (k : Nat) (h : b.length = l.length) (hk : k < l.length) (x : UInt8) (hx : x = l[k]) :
    (mix l b k).set k x = mix l b (k + 1) := by
  subst hx
  have hb : b.drop k = b[k]'(by omega) :: b.drop (k + 1) := List.drop_eq_getElem_cons (by omega)
  have e : (l.take k).length = k := by simp; omega
  unfold mix
  rw [hb, List.take_succ_eq_append_getElem hk, List.set_append_right _ _ (by omega), e, Nat.sub_self, List.set_cons_zero, List.append_assoc, List.singleton_append]

end Go.Proofs.YtpjafjnokgeifaaGreatDoor
end
section
namespace Go.Proofs.YtpjafjnokgeifaaGreatDoor
open Go.RowKit
set_option linter.unusedVariables false

abbrev VP := Value → World → Prop
/-- It stays true as memory grows. -/
def Stable (V : VP) : Prop := ∀ v w w', V v w → Below w.heap.size w w' → V v w'
def isVal (v : Value) : VP := fun x _ => x = v
theorem stable_val (v : Value) : Stable (isVal v) := fun _ _ _ h _ => h
/-- A slice of just these bytes, at the head of a block. -/
def isRow (l : List UInt8) : VP := fun x w => ∃ g, x = .slice (some ⟨g, 0, none⟩) l.length l.length ∧ g < w.heap.size ∧ BRow w g l
theorem stable_row (l : List UInt8) : Stable (isRow l) := fun _ w w' ⟨g, e, hg, hr⟩ hb =>
  ⟨g, e, Nat.lt_of_lt_of_le hg hb.size, fun j hj => ⟨(hb.cell (p := ⟨g, j, none⟩) hg).trans (hr j hj).1, (hb.frozen (p := ⟨g, j, none⟩) hg).trans (hr j hj).2⟩⟩

section
variable (P : Program) (ops : Array Oper) (base : World) (a0 : Act) (Q : Exit → Act → World → Prop)

/-- What operation j yielded is as it should be. -/
def FDone (kn : Nat → VP) (a : Act) (w : World) (j : Nat) : Prop := ∀ o, ops[j]? = some o → ∀ t, o.dst = some t → kn j (a.tmps.getD t undef) w
/-- What the region does not write is as it was. -/
def FKept (a : Act) : Prop := a.defers = a0.defers ∧ a.tmps.size = a0.tmps.size ∧ ∀ t, (ops.toList.all fun o => o.dst != some t) = true → a.tmps.getD t undef = a0.tmps.getD t undef

def FDeps (kn : Nat → VP) (i : Nat) (a : Act) (w : World) : Prop := ∀ o, ops[i]? = some o → ∀ e ∈ o.after.toList, Region.binds .any e = true → FDone ops kn a w e.on
def FStep (kn : Nat → VP) (i : Nat) (V : VP) : Prop := Stable V ∧ ∀ o, ops[i]? = some o → ∀ a w, FKept ops a0 a → Below base.heap.size base w → FDeps ops kn i a w →
  wpOp P ops Q i (fun a' w' => ∃ v, a' = a.put o.dst v ∧ V v w' ∧ Below w.heap.size w w') a w

def upd (kn : Nat → VP) (i : Nat) (V : VP) : Nat → VP := fun j => if j = i then V else kn j

/-- From operation i on, k operations more. -/
def FlowFrom : Nat → Nat → (Nat → VP) → Prop
  | 0, _, kn => ∀ a w, FKept ops a0 a → Below base.heap.size base w → (∀ j, j < ops.size → FDone ops kn a w j) → Q .normal a w
  | k + 1, i, kn => ∃ V, FStep P ops base a0 Q kn i V ∧ FlowFrom k (i + 1) (upd kn i V)

/-- Each waits for earlier ones alone; no two write one slot; all slots are there. -/
def flowOk (n : Nat) : Bool :=
  ((List.range ops.size).all fun i => (ops[i]?).all fun o => o.after.toList.all fun e => !Region.binds .any e || decide (e.on < i)) &&
  ((List.range ops.size).all fun i => (List.range ops.size).all fun j => i == j || match (ops[i]?).bind (·.dst), (ops[j]?).bind (·.dst) with
    | some s, some t => s != t
    | _, _ => true) &&
  (ops.toList.all fun o => match o.dst with | some t => decide (t < n) | none => true)
end

section
variable {P : Program} {ops : Array Oper} {base : World} {a0 : Act} {Q : Exit → Act → World → Prop}

theorem flowOk_spec {n : Nat} (h : flowOk ops n = true) :
    (∀ (i : Nat) (o : Oper), ops[i]? = some o → ∀ e ∈ o.after.toList, Region.binds .any e = true → e.on < i) ∧
    (∀ (i j : Nat) (oi oj : Oper) (s : Tmp), ops[i]? = some oi → ops[j]? = some oj → oi.dst = some s → oj.dst = some s → i = j) ∧
    (∀ (i : Nat) (o : Oper) (t : Tmp), ops[i]? = some o → o.dst = some t → t < n) := by
  unfold flowOk at h
  simp only [Bool.and_eq_true, List.all_eq_true, List.mem_range] at h
  obtain ⟨⟨h1, h2⟩, h3⟩ := h
  have lt : ∀ {i o}, ops[i]? = some o → i < ops.size := fun h => (Array.getElem?_eq_some_iff.1 h).1
  refine ⟨?_, ?_, ?_⟩
  · intro i o ho e he hb
    have := h1 i (lt ho)
    rw [ho] at this
    simp only [Option.all_some, List.all_eq_true] at this
    have := this e he
    rw [hb] at this
    simpa using this
  · intro i j oi oj s hi hj hs ht
    have := h2 i (lt hi) j (lt hj)
    rw [hi, hj] at this
    simp only [Option.bind_some, hs, ht] at this
    simpa using this
  · intro i o t ho ht
    have := h3 o (by rw [Array.mem_toList_iff]; exact Array.mem_of_getElem? ho)
    rw [ht] at this
    simpa using this

theorem fdone_congr {kn kn' : Nat → VP} {a : Act} {w : World} {j : Nat} (h : kn j = kn' j) (hd : FDone ops kn a w j) : FDone ops kn' a w j := by
  intro o ho t ht
  rw [← h]
  exact hd o ho t ht

theorem flow_family {n : Nat} (hok : flowOk ops n = true) : ∀ k i kn, i + k = ops.size → (∀ m, m < i → FStep P ops base a0 Q kn m (kn m)) → FlowFrom P ops base a0 Q k i kn →
    ∃ kn', (∀ m, m < ops.size → FStep P ops base a0 Q kn' m (kn' m)) ∧ FlowFrom P ops base a0 Q 0 ops.size kn'
  | 0, i, kn, hi, hs, hf => ⟨kn, fun m hm => hs m (by omega), hf⟩
  | k + 1, i, kn, hi, hs, ⟨V, hV, hf⟩ => by
    have agree : ∀ m, m ≠ i → upd kn i V m = kn m := fun m hm => by simp [upd, hm]
    have self : upd kn i V i = V := by simp [upd]
    have shift : ∀ m W, m ≤ i → FStep P ops base a0 Q kn m W → FStep P ops base a0 Q (upd kn i V) m W := by
      intro m W hm h
      refine ⟨h.1, fun o ho a w hk hb hd => h.2 o ho a w hk hb ?_⟩
      intro o' ho' e he hbd
      have hlt := (flowOk_spec hok).1 m o' ho' e he hbd
      exact fdone_congr (agree e.on (by omega)) (hd o' ho' e he hbd)
    refine flow_family hok k (i + 1) (upd kn i V) (by omega) (fun m hm => ?_) hf
    by_cases hmi : m = i
    · subst hmi; rw [self]; exact shift m V (Nat.le_refl _) hV
    · rw [agree m hmi]; exact shift m _ (by omega) (hs m (by omega))

theorem getD_put {a : Act} {s : Tmp} {v : Value} {t : Tmp} (h : t ≠ s) : (a.put (some s) v).tmps.getD t undef = a.tmps.getD t undef := by
  simp only [Act.put, Array.getD_eq_getD_getElem?, Array.getElem?_setIfInBounds]
  rw [if_neg (fun e => h e.symm)]
theorem getD_put_self {a : Act} {s : Tmp} {v : Value} (h : s < a.tmps.size) : (a.put (some s) v).tmps.getD s undef = v := by
  simp [Act.put, Array.getD_eq_getD_getElem?, h]
theorem size_put {a : Act} {d : Option Tmp} {v : Value} : (a.put d v).tmps.size = a.tmps.size := by
  cases d <;> simp [Act.put]
theorem defers_put {a : Act} {d : Option Tmp} {v : Value} : (a.put d v).defers = a.defers := by
  cases d <;> simp [Act.put]

theorem wpAny_flow (hok : flowOk ops a0.tmps.size = true) {kn : Nat → VP} (hs : ∀ m, m < ops.size → FStep P ops base a0 Q kn m (kn m)) (he : FlowFrom P ops base a0 Q 0 ops.size kn) :
    ∀ (fuel : Nat) (listed : Array Bool) (a : Act) (w : World), listed.size = ops.size → ((List.range ops.size).filter fun i => !listed.getD i true).length ≤ fuel → FKept ops a0 a → Below base.heap.size base w →
      (∀ j, listed.getD j false = true → FDone ops kn a w j) → wpAny P .any ops Q fuel listed a w := by
  obtain ⟨ok1, ok2, ok3⟩ := flowOk_spec hok
  have getF : ∀ (listed : Array Bool) (i : Nat), i < listed.size → listed.getD i true = listed.getD i false := by
    intro listed i hi; simp [Array.getD, hi]
  have fin : ∀ (listed : Array Bool) (a : Act) (w : World), listed.size = ops.size → FKept ops a0 a → Below base.heap.size base w → (∀ j, listed.getD j false = true → FDone ops kn a w j) → Region.ready .any ops listed = [] → Q .normal a w := by
    intro listed a w hl hk hb hd hr
    refine he a w hk hb (fun j hj => hd j ?_)
    have key : ∀ m, ∀ j, j ≤ m → j < ops.size → listed.getD j false = true := by
      intro m
      induction m with
      | zero =>
        intro j hjm hj
        obtain rfl : j = 0 := by omega
        cases h0 : listed.getD 0 false with
        | true => rfl
        | false =>
          exfalso
          have : 0 ∈ Region.ready .any ops listed := by
            obtain ⟨o, ho⟩ : ∃ o, ops[0]? = some o := ⟨_, Array.getElem?_eq_getElem hj⟩
            simp only [Region.ready, List.mem_filter, List.mem_range, ho, Option.map_some, Option.getD_some, Bool.and_eq_true, getF listed 0 (by omega), h0]
            refine ⟨hj, rfl, ?_⟩
            rw [Array.all_eq_true_iff_forall_mem]
            intro e he'
            cases hbe : Region.binds .any e with
            | false => rfl
            | true => exact absurd (ok1 0 o ho e (Array.mem_toList_iff.2 he') hbe) (by omega)
          rw [hr] at this
          cases this
      | succ m ih =>
        intro j hjm hj
        by_cases hlt : j ≤ m
        · exact ih j hlt hj
        · obtain rfl : j = m + 1 := by omega
          cases h0 : listed.getD (m + 1) false with
          | true => rfl
          | false =>
            exfalso
            have : (m + 1) ∈ Region.ready .any ops listed := by
              obtain ⟨o, ho⟩ : ∃ o, ops[m + 1]? = some o := ⟨_, Array.getElem?_eq_getElem hj⟩
              simp only [Region.ready, List.mem_filter, List.mem_range, ho, Option.map_some, Option.getD_some, Bool.and_eq_true, getF listed (m + 1) (by omega), h0]
              refine ⟨hj, rfl, ?_⟩
              rw [Array.all_eq_true_iff_forall_mem]
              intro e he'
              cases hbe : Region.binds .any e with
              | false => rfl
              | true =>
                have := ok1 (m + 1) o ho e (Array.mem_toList_iff.2 he') hbe
                rw [ih e.on (by omega) (by omega)]
                rfl
            rw [hr] at this
            cases this
    exact key j j (Nat.le_refl _) hj
  intro fuel
  induction fuel with
  | zero =>
    intro listed a w hl hf hk hb hd
    have hr : Region.ready .any ops listed = [] := by
      have h0 : ((List.range ops.size).filter fun i => !listed.getD i true) = [] := List.eq_nil_of_length_eq_zero (by omega)
      unfold Region.ready
      rw [List.filter_eq_nil_iff] at h0 ⊢
      intro i hi hc
      exact h0 i hi (by simp only [Bool.and_eq_true] at hc; exact hc.1)
    exact ⟨hr, fin listed a w hl hk hb hd hr⟩
  | succ fuel ih =>
    intro listed a w hl hf hk hb hd
    refine ⟨fun hr => fin listed a w hl hk hb hd hr, fun i hi => ?_⟩
    simp only [Region.ready, List.mem_filter, List.mem_range, Bool.and_eq_true] at hi
    obtain ⟨hilt, hun, hready⟩ := hi
    obtain ⟨o, ho⟩ : ∃ o, ops[i]? = some o := ⟨_, Array.getElem?_eq_getElem hilt⟩
    rw [ho] at hready
    simp only [Option.map_some, Option.getD_some, Array.all_eq_true_iff_forall_mem] at hready
    have hstep := (hs i hilt).2 o ho a w hk hb (by
      intro o' ho' e he' hbd
      rw [ho] at ho'
      cases ho'
      have := hready e (Array.mem_toList_iff.1 he')
      rw [hbd] at this
      exact hd e.on (by simpa using this))
    refine wpOp_mono ?_ hstep
    rintro a' w' ⟨v, rfl, hV, hbw⟩
    have hlt' : i < listed.size := by omega
    refine ih (listed.setIfInBounds i true) _ w' (by simpa using hl) ?_ ?_ (hb.trans (hbw.mono hb.size)) ?_
    · have hsub : ((List.range ops.size).filter fun j => !(listed.setIfInBounds i true).getD j true).length < ((List.range ops.size).filter fun j => !listed.getD j true).length := by
        have e1 : ((List.range ops.size).filter fun j => !(listed.setIfInBounds i true).getD j true) = ((List.range ops.size).filter fun j => !listed.getD j true).filter (fun j => j != i) := by
          rw [List.filter_filter]
          apply List.filter_congr
          intro j hj
          by_cases e : j = i
          · subst e; simp [Array.getD_eq_getD_getElem?, hlt']
          · have e' : ¬ i = j := fun h => e h.symm
            simp [Array.getD_eq_getD_getElem?, e, e']
        rw [e1]
        refine List.length_filter_lt_length_iff_exists.2 ⟨i, ?_, by simp⟩
        simp only [List.mem_filter, List.mem_range]
        exact ⟨hilt, hun⟩
      omega
    · refine ⟨by rw [defers_put]; exact hk.1, by rw [size_put]; exact hk.2.1, fun t ht => ?_⟩
      cases hdst : o.dst with
      | none => simp only [Act.put]; exact hk.2.2 t ht
      | some s =>
        have : s ≠ t := by
          rintro rfl
          have := List.all_eq_true.1 ht o (by rw [Array.mem_toList_iff]; exact Array.mem_of_getElem? ho)
          rw [hdst] at this
          simp at this
        rw [getD_put (fun h => this h.symm)]
        exact hk.2.2 t ht
    · intro j hj o' ho' t ht
      by_cases e : j = i
      · subst e
        rw [ho] at ho'
        cases ho'
        rw [ht, getD_put_self (by rw [hk.2.1]; exact ok3 j o t ho ht)]
        exact hV
      · have e' : ¬ i = j := fun h => e h.symm
        have hj' : listed.getD j false = true := by
          simpa [Array.getD_eq_getD_getElem?, Array.getElem?_setIfInBounds, e'] using hj
        have hne : o.dst ≠ some t := fun hh => e (ok2 j i o' o t ho' ho ht hh)
        have hold := hd j hj' o' ho' t ht
        have hslot : (a.put o.dst v).tmps.getD t undef = a.tmps.getD t undef := by
          cases hdst : o.dst with
          | none => rfl
          | some s => exact getD_put (fun h => hne (by rw [hdst, h]))
        rw [hslot]
        exact (hs j (by
          have := (Array.getElem?_eq_some_iff.1 ho').1
          exact this)).1 _ _ _ hold hbw

/-- THE LAW. -/
theorem wp_region_flow {id : Nat} {a : Act} {w : World} (hm : P.follows .mixedOrders = true) (hok : flowOk ops a.tmps.size = true)
    (h : FlowFrom P ops w a Q ops.size 0 (fun _ _ _ => False)) : (Code.region id ops true).wp P Q a w := by
  refine wp_region_any hm ?_
  obtain ⟨kn, hs, he⟩ := flow_family hok ops.size 0 _ (by omega) (fun m hm => absurd hm (by omega)) h
  refine wpAny_flow hok hs he ops.size _ a _ (by simp) ?_ ⟨rfl, rfl, fun _ _ => rfl⟩ ((Below.refl _ w).drew) ?_
  · exact Nat.le_trans (List.length_filter_le _ _) (by simp)
  · intro j hj
    simp [Array.getD_eq_getD_getElem?, Array.getElem?_replicate] at hj
    split at hj <;> simp at hj
end
end Go.Proofs.YtpjafjnokgeifaaGreatDoor
end
section
namespace Go.Proofs.YtpjafjnokgeifaaGreatDoor
open Go.RowKit
set_option linter.unusedVariables false

section
variable {P : Program} {ops : Array Oper} {base : World} {a0 : Act} {Q : Exit → Act → World → Prop} {kn : Nat → VP} {i : Nat} {V : VP}

/-- Operation i waits for operation j. -/
def waits (ops : Array Oper) (i j : Nat) : Bool := (ops[i]?).any fun o => o.after.toList.any fun e => e.on == j && Region.binds .any e

theorem waits_done {j : Nat} (h : waits ops i j = true) {a : Act} {w : World} (hd : FDeps ops kn i a w) : FDone ops kn a w j := by
  unfold waits at h
  cases ho : ops[i]? with
  | none => rw [ho] at h; simp at h
  | some o =>
    rw [ho] at h
    simp only [Option.any_some, List.any_eq_true, Bool.and_eq_true, beq_iff_eq] at h
    obtain ⟨e, he, rfl, hb⟩ := h
    exact hd o ho e he hb

/-- What an operand of operation i is. -/
def Knows (ops : Array Oper) (a0 : Act) (kn : Nat → VP) (i : Nat) (x : Operand) (V : VP) : Prop := ∀ a w, FKept ops a0 a → FDeps ops kn i a w → V (a.eval x) w

theorem knows_const (c : Value) : Knows ops a0 kn i (.const c) (isVal c) := fun _ _ _ _ => rfl
theorem knows_old (t : Tmp) (v : Value) (h : (ops.toList.all fun o => o.dst != some t) = true) (hv : a0.tmps.getD t undef = v) : Knows ops a0 kn i (.tmp t) (isVal v) := fun a w hk _ => (hk.2.2 t h).trans hv
theorem knows_new (t : Tmp) (j : Nat) (h : waits ops i j = true) (hj : (ops[j]?).bind (·.dst) = some t) (hV : kn j = V) : Knows ops a0 kn i (.tmp t) V := by
  intro a w _ hd
  cases ho : ops[j]? with
  | none => rw [ho] at hj; simp at hj
  | some o =>
    rw [ho] at hj
    rw [← hV]
    exact waits_done h hd o ho t (by simpa using hj)

/-- Operation i is carried out. -/
def Wanted (ops : Array Oper) (a0 : Act) (kn : Nat → VP) (i : Nat) : Prop := ∀ a w, FKept ops a0 a → FDeps ops kn i a w → ∀ o, ops[i]? = some o → Region.wanted o (yielded ops a.tmps) = true
theorem wanted_none (h : (ops[i]?).map (·.guard) = some none) : Wanted ops a0 kn i := by
  intro a w _ _ o ho
  rw [ho] at h
  simp only [Option.map_some, Option.some.injEq] at h
  simp [Region.wanted, h]
theorem yielded_of {j : Nat} {t : Tmp} {a : Act} {b : Bool} (hj : (ops[j]?).bind (·.dst) = some t) (hv : a.tmps.getD t undef = .bool b) : yielded ops a.tmps j = some b := by
  unfold yielded
  rw [hj]
  simp only [Option.bind_some]
  rw [Array.getD_eq_getD_getElem?] at hv
  cases h : a.tmps[t]? with
  | none => rw [h] at hv; simp [undef] at hv
  | some x => rw [h] at hv; simp only [Option.getD_some] at hv; subst hv; rfl
theorem wanted_some (j : Nat) (t : Tmp) (b : Bool) (h : (ops[i]?).map (·.guard) = some (some (j, b))) (hw : waits ops i j = true) (hj : (ops[j]?).bind (·.dst) = some t) (hV : kn j = isVal (.bool b)) : Wanted ops a0 kn i := by
  intro a w hk hd o ho
  have hv := knows_new (a0 := a0) t j hw hj hV a w hk hd
  rw [ho] at h
  simp only [Option.map_some, Option.some.injEq] at h
  simp only [Region.wanted, h]
  rw [yielded_of hj hv]
  simp
/-- Operation i is passed over. -/
theorem step_skip (j : Nat) (t : Tmp) (b c : Bool) (h : (ops[i]?).map (·.guard) = some (some (j, b))) (hw : waits ops i j = true) (hj : (ops[j]?).bind (·.dst) = some t) (hV : kn j = isVal (.bool c)) (hbc : (c == b) = false) :
    FStep P ops base a0 Q kn i (isVal undef) := by
  refine ⟨stable_val _, fun o ho a w hk hb hd => ?_⟩
  have hv := knows_new (a0 := a0) t j hw hj hV a w hk hd
  have h' := h
  rw [ho] at h'
  simp only [Option.map_some, Option.some.injEq] at h'
  have hwn : Region.wanted o (yielded ops a.tmps) = false := by
    simp only [Region.wanted, h']
    rw [yielded_of hj hv]
    simpa using hbc
  unfold wpOp
  simp only [ho, hwn]
  exact ⟨undef, rfl, rfl, Below.refl _ _⟩

theorem step_mk (hst : Stable V) (hw : Wanted ops a0 kn i)
    (h : ∀ o, ops[i]? = some o → ∀ a w, FKept ops a0 a → Below base.heap.size base w → FDeps ops kn i a w → o.wp P a w (fun a' w' => ∃ v, a' = a.put o.dst v ∧ V v w' ∧ Below w.heap.size w w') Q) : FStep P ops base a0 Q kn i V := by
  refine ⟨hst, fun o ho a w hk hb hd => ?_⟩
  have hwn := hw a w hk hd o ho
  unfold wpOp
  simp only [ho, hwn, if_true]
  exact .inl (h o ho a w hk hb hd)

theorem op_of {OP : Op} (hop : (ops[i]?).map (·.op) = some OP) {o : Oper} (ho : ops[i]? = some o) : o.op = OP := by
  rw [ho] at hop
  simpa using hop

theorem step_move (x : Operand) (hop : (ops[i]?).map (·.op) = some (.move x)) (hw : Wanted ops a0 kn i) (hst : Stable V) (hx : Knows ops a0 kn i x V) : FStep P ops base a0 Q kn i V :=
  step_mk hst hw fun o ho a w hk hb hd => by
    unfold Oper.wp execOp
    rw [op_of hop ho]
    exact ⟨_, rfl, hx a w hk hd, Below.refl _ _⟩
theorem step_assign (x : Operand) (hop : (ops[i]?).map (·.op) = some (.assign x)) (hw : Wanted ops a0 kn i) (hst : Stable V) (hx : Knows ops a0 kn i x V) : FStep P ops base a0 Q kn i V :=
  step_mk hst hw fun o ho a w hk hb hd => by
    unfold Oper.wp execOp
    rw [op_of hop ho]
    exact ⟨_, rfl, hx a w hk hd, Below.refl _ _⟩
theorem step_pick (c x y : Operand) (b : Bool) (hop : (ops[i]?).map (·.op) = some (.pick c x y)) (hw : Wanted ops a0 kn i) (hst : Stable V) (hc : Knows ops a0 kn i c (isVal (.bool b)))
    (hx : Knows ops a0 kn i (if b then x else y) V) : FStep P ops base a0 Q kn i V :=
  step_mk hst hw fun o ho a w hk hb hd => by
    have hcv : a.eval c = .bool b := hc a w hk hd
    have hxv := hx a w hk hd
    unfold Oper.wp execOp
    rw [op_of hop ho]
    simp only [hcv, asBool, Sem.run_bind, Sem.run_pure, Result.andThen_ok, Oper.upon]
    cases b
    · exact ⟨_, rfl, hxv, Below.refl _ _⟩
    · exact ⟨_, rfl, hxv, Below.refl _ _⟩

/-- An operation that reckons, and leaves memory alone. -/
theorem step_pure {OP : Op} (v : Value) (hop : (ops[i]?).map (·.op) = some OP) (hw : Wanted ops a0 kn i)
    (h : ∀ (o : Oper) (a : Act) (w : World), o.op = OP → FKept ops a0 a → FDeps ops kn i a w → (execOp a.eval o).run P w = .ok (.value v) w) : FStep P ops base a0 Q kn i (isVal v) :=
  step_mk (stable_val v) hw fun o ho a w hk hb hd => by
    unfold Oper.wp
    rw [h o a w (op_of hop ho) hk hd]
    exact ⟨_, rfl, rfl, Below.refl _ _⟩
theorem step_bin (b : BinOp) (t t2 : TypeId) (x y : Operand) (vx vy v : Value) (hop : (ops[i]?).map (·.op) = some (.binOp b t x y t2)) (hw : Wanted ops a0 kn i)
    (hx : Knows ops a0 kn i x (isVal vx)) (hy : Knows ops a0 kn i y (isVal vy)) (hg : ∀ w, (eqGuard b t x y vx vy).run P w = .ok () w) (hr : ∀ w, (binOp b t vx vy).run P w = .ok v w) : FStep P ops base a0 Q kn i (isVal v) :=
  step_pure v hop hw fun o a w ho hk hd => by
    have e1 : a.eval x = vx := hx a w hk hd
    have e2 : a.eval y = vy := hy a w hk hd
    unfold execOp
    rw [ho]
    simp only [e1, e2, Sem.run_bind, hg, hr, Result.andThen_ok, Sem.run_pure]
theorem step_un (b : UnOp) (t : TypeId) (x : Operand) (vx v : Value) (hop : (ops[i]?).map (·.op) = some (.unOp b t x)) (hw : Wanted ops a0 kn i)
    (hx : Knows ops a0 kn i x (isVal vx)) (hr : ∀ w, (Op.unary b vx).run P w = .ok v w) : FStep P ops base a0 Q kn i (isVal v) :=
  step_pure v hop hw fun o a w ho hk hd => by
    have e1 : a.eval x = vx := hx a w hk hd
    unfold execOp
    rw [ho]
    simp only [e1, Sem.run_bind, hr, Result.andThen_ok, Sem.run_pure]
theorem step_extract (x : Operand) (n : Nat) (vs : Array Value) (v : Value) (hop : (ops[i]?).map (·.op) = some (.extract x n)) (hw : Wanted ops a0 kn i)
    (hx : Knows ops a0 kn i x (isVal (.tuple vs))) (hv : vs[n]? = some v) : FStep P ops base a0 Q kn i (isVal v) :=
  step_pure v hop hw fun o a w ho hk hd => by
    have e1 : a.eval x = .tuple vs := hx a w hk hd
    unfold execOp
    rw [ho]
    simp only [e1, Instr.extract, hv, Sem.run_bind, Result.andThen_ok, Sem.run_pure]
theorem step_conv (s d : TypeId) (x : Operand) (vx v : Value) (hop : (ops[i]?).map (·.op) = some (.convert s d x)) (hw : Wanted ops a0 kn i)
    (hx : Knows ops a0 kn i x (isVal vx)) (hr : ∀ w, (convert s d vx).run P w = .ok v w) : FStep P ops base a0 Q kn i (isVal v) :=
  step_pure v hop hw fun o a w ho hk hd => by
    have e1 : a.eval x = vx := hx a w hk hd
    unfold execOp
    rw [ho]
    simp only [e1, Sem.run_bind, hr, Result.andThen_ok, Sem.run_pure]
/-- 'string(b)' of a row of bytes. -/
theorem step_convRow (s d e : TypeId) (x : Operand) (l : List UInt8) (hop : (ops[i]?).map (·.op) = some (.convert s d x)) (hw : Wanted ops a0 kn i) (hx : Knows ops a0 kn i x (isRow l))
    (hs : P.underlying s = some (.slice e)) (he : P.underlying e = some (.int .u8)) (hd' : P.underlying d = some .string) : FStep P ops base a0 Q kn i (isVal (.string ⟨l.toArray⟩)) :=
  step_pure _ hop hw fun o a w ho hk hd => by
    obtain ⟨g, e1, _, hr⟩ := hx a w hk hd
    unfold execOp
    rw [ho]
    simp only [e1, Sem.run_bind, hr.back (P := P) s d e l.length l.length rfl hs he hd', Result.andThen_ok, Sem.run_pure]
/-- A literal of bytes. -/
theorem step_row (t e : TypeId) (parts : Array (Nat × Operand)) (l : List UInt8) (ie : TypeInfo) (hop : (ops[i]?).map (·.op) = some (.buildSlice t l.length parts)) (hw : Wanted ops a0 kn i)
    (hu : P.underlying t = some (.slice e)) (hie : P.info? e = some ie) (hz : ie.zero = some (.int .u8 0)) (hsz : ie.size = 1) (hlen : 0 < l.length) (hlen2 : l.length ≤ 16777216)
    (hparts : parts.toList = (l.zipIdx 0).map fun x => (x.2, Operand.const (Value.int .u8 (x.1.toNat : Int)))) : FStep P ops base a0 Q kn i (isRow l) :=
  step_mk (stable_row l) hw fun o ho a w hk hb hd => by
    have hf : Instr.fill (fun i => some (i * ie.size, ie.size)) ((Array.range (l.length * ie.size)).map ((Value.int .u8 0).cells[· % (Value.int .u8 0).cells.size]!)) (parts.map fun (i, x) => (i, a.eval x)).toList = some (l.map fun b => Value.int .u8 (b.toNat : Int)).toArray := by
      have e1 : (parts.map fun (i, x) => (i, a.eval x)).toList = (((l.map fun b => (b.toNat : Int)).map (Value.int .u8)).zipIdx 0).map fun x => (x.2, x.1) := by
        refine parts_eval a parts .u8 (l.map fun b => (b.toNat : Int)) ?_
        rw [hparts, List.zipIdx_map, List.map_map]
        rfl
      rw [e1, hsz]
      rw [Great.fill_flat _ _ (fun v hv => by obtain ⟨n, _, rfl⟩ := List.mem_map.1 hv; rfl) (by simp)]
      rw [List.map_map]
      rfl
    refine wp_buildSlice t e l.length parts (op_of hop ho) _ ie (.int .u8 0) hu hie hz (by rw [hsz]; omega) (by rw [hsz]; omega) hf ?_
    refine ⟨_, rfl, ⟨w.heap.size, rfl, by simp, fun j hj => ⟨?_, World.frozen?_alloc_new w _ _ _⟩⟩, (Below.refl _ _).alloc (Nat.le_refl _) _⟩
    rw [World.cell?_alloc_new]
    simp [hj]
/-- A call of a function of the program. -/
theorem step_call (f : FuncId) (xs : Array Operand) (ts : Array TypeId) (vs : Array Value) (hop : (ops[i]?).map (·.op) = some (.call { callee := .value (.func f), args := xs, argTypes := ts })) (hw : Wanted ops a0 kn i) (hst : Stable V)
    (hx : ∀ a w, FKept ops a0 a → FDeps ops kn i a w → xs.map a.eval = vs) (hent : Enters P f)
    (hc : ∀ w, Below base.heap.size base w → Calls P f vs w fun e w' => ∃ v, e = .returned v ∧ V v w' ∧ Below w.heap.size w w') : FStep P ops base a0 Q kn i V :=
  step_mk hst hw fun o ho a w hk hb hd => by
    unfold Oper.wp execOp
    rw [op_of hop ho]
    have e1 : xs.map a.eval = vs := hx a w hk hd
    have e2 : a.eval (.func f) = .func (.func f) #[] #[] := rfl
    simp only [resolve, e1, e2, Deferred.ofValue, Sem.run_bind, Sem.run_pure, Result.andThen_ok, invoke, Array.append_empty, Array.empty_append]
    rw [hent]
    simp only [Oper.upon]
    refine (hc w hb).mono ?_
    rintro e w' ⟨v, rfl, hv, hbw⟩
    exact ⟨v, rfl, hv, hbw⟩
theorem args_nil : ∀ a w, FKept ops a0 a → FDeps ops kn i a w → (#[] : Array Operand).map a.eval = #[] := fun _ _ _ _ => by simp
theorem args1 (x : Operand) (v : Value) (hx : Knows ops a0 kn i x (isVal v)) : ∀ a w, FKept ops a0 a → FDeps ops kn i a w → #[x].map a.eval = #[v] := fun a w hk hd => by
  have := hx a w hk hd
  simp only [isVal] at this
  simp [this]
theorem args2 (x y : Operand) (v u : Value) (hx : Knows ops a0 kn i x (isVal v)) (hy : Knows ops a0 kn i y (isVal u)) : ∀ a w, FKept ops a0 a → FDeps ops kn i a w → #[x, y].map a.eval = #[v, u] := fun a w hk hd => by
  have h1 := hx a w hk hd
  have h2 := hy a w hk hd
  simp only [isVal] at h1 h2
  simp [h1, h2]
theorem args3 (x y z : Operand) (v u s : Value) (hx : Knows ops a0 kn i x (isVal v)) (hy : Knows ops a0 kn i y (isVal u)) (hz : Knows ops a0 kn i z (isVal s)) : ∀ a w, FKept ops a0 a → FDeps ops kn i a w → #[x, y, z].map a.eval = #[v, u, s] := fun a w hk hd => by
  have h1 := hx a w hk hd
  have h2 := hy a w hk hd
  have h3 := hz a w hk hd
  simp only [isVal] at h1 h2 h3
  simp [h1, h2, h3]
end

theorem eql_str {P : Program} (t : TypeId) (l m : List UInt8) (b : Bool) (h : (l == m) = b) (w : World) : (binOp .eql t (.string ⟨l.toArray⟩) (.string ⟨m.toArray⟩)).run P w = .ok (.bool b) w := by
  rw [binOp_string_eql, ByteArray.toList_mk, ByteArray.toList_mk, h]; rfl
theorem neq_str {P : Program} (t : TypeId) (l m : List UInt8) (b : Bool) (h : (l != m) = b) (w : World) : (binOp .neq t (.string ⟨l.toArray⟩) (.string ⟨m.toArray⟩)).run P w = .ok (.bool b) w := by
  have e : binOp .neq t (.string ⟨l.toArray⟩) (.string ⟨m.toArray⟩) = pure (.bool ((⟨l.toArray⟩ : ByteArray).toList != (⟨m.toArray⟩ : ByteArray).toList)) := by simp [binOp, Op.stringOp]; rfl
  rw [e, ByteArray.toList_mk, ByteArray.toList_mk, h]; rfl
theorem eql_int {P : Program} (t : TypeId) (k : IntKind) (x y : Int) (b : Bool) (h : (x == y) = b) (w : World) : (binOp .eql t (.int k x) (.int k y)).run P w = .ok (.bool b) w := by
  simp [go_sem, h]
theorem neq_int {P : Program} (t : TypeId) (k : IntKind) (x y : Int) (b : Bool) (h : (x != y) = b) (w : World) : (binOp .neq t (.int k x) (.int k y)).run P w = .ok (.bool b) w := by
  simp [go_sem, h]

/-- The operations of a region, out of a function's text. -/
def opsOf (n : Nat) : Code → Option (Array Oper)
  | .region k ops _ => if k = n then some ops else none
  | .seq a b => match opsOf n a with
    | some x => some x
    | none => opsOf n b
  | .cond _ a b => match opsOf n a with
    | some x => some x
    | none => opsOf n b
  | .block _ c => opsOf n c
  | .loop c => opsOf n c
  | .scope c => opsOf n c
  | _ => none
def regionOf (f : Func) (n : Nat) : Array Oper := (f.body.bind (opsOf n)).getD #[]
end Go.Proofs.YtpjafjnokgeifaaGreatDoor
end
section
namespace Go.Proofs.YtpjafjnokgeifaaGreatDoor
open Go.RowKit
set_option linter.unusedVariables false
set_option linter.unusedSimpArgs false

section
variable (P : Program) (ops : Array Oper) (base : World) (a0 : Act) (Q : Exit → Act → World → Prop)

/-- The last operations, in their order. -/
def Tail : Nat → Nat → Act → World → Prop
  | 0, _, a, w => Q .normal a w
  | c + 1, i, a, w => wpOp P ops Q i (fun a' w' => Tail c (i + 1) a' w') a w

/-- From operation i on, k operations more, and then the last ones. -/
def FlowTail (k0 c : Nat) : Nat → Nat → (Nat → VP) → Prop
  | 0, _, kn => ∀ a w, FKept ops a0 a → Below base.heap.size base w → (∀ j, j < k0 → FDone ops kn a w j) → Tail P ops Q c k0 a w
  | k + 1, i, kn => ∃ V, FStep P ops base a0 Q kn i V ∧ FlowTail k0 c k (i + 1) (upd kn i V)

/-- The first of the last ones waits for all ahead of it, each other for the one ahead of it. -/
def tailOk (k0 : Nat) : Bool :=
  decide (k0 ≤ ops.size) && (List.range ops.size).all fun j => if j < k0 then true else if j = k0 then (List.range k0).all fun m => waits ops j m else waits ops j (j - 1)
end

section
variable {P : Program} {ops : Array Oper} {base : World} {a0 : Act} {Q : Exit → Act → World → Prop}

theorem waits_ready {listed : Array Bool} {i j : Nat} (hi : i ∈ Region.ready .any ops listed) (h : waits ops i j = true) : listed.getD j false = true := by
  simp only [Region.ready, List.mem_filter, List.mem_range, Bool.and_eq_true] at hi
  obtain ⟨hilt, hun, hready⟩ := hi
  unfold waits at h
  cases ho : ops[i]? with
  | none => rw [ho] at h; simp at h
  | some o =>
    rw [ho] at h hready
    simp only [Option.any_some, List.any_eq_true, Bool.and_eq_true, beq_iff_eq] at h
    simp only [Option.map_some, Option.getD_some, Array.all_eq_true_iff_forall_mem] at hready
    obtain ⟨e, he, rfl, hb⟩ := h
    have := hready e (Array.mem_toList_iff.1 he)
    rw [hb] at this
    simpa using this

theorem ready_of {listed : Array Bool} {n i : Nat} (hok : flowOk ops n = true) (hl : listed.size = ops.size) (hi : i < ops.size) (hu : listed.getD i false = false) (hd : ∀ j, j < i → listed.getD j false = true) : i ∈ Region.ready .any ops listed := by
  obtain ⟨o, ho⟩ : ∃ o, ops[i]? = some o := ⟨_, Array.getElem?_eq_getElem hi⟩
  have hu' : listed.getD i true = false := by
    have : i < listed.size := by omega
    simpa [Array.getD, this] using hu
  simp only [Region.ready, List.mem_filter, List.mem_range, ho, Option.map_some, Option.getD_some, Bool.and_eq_true, hu']
  refine ⟨hi, rfl, ?_⟩
  rw [Array.all_eq_true_iff_forall_mem]
  intro e he
  cases hbe : Region.binds .any e with
  | false => rfl
  | true => rw [hd e.on ((flowOk_spec hok).1 i o ho e (Array.mem_toList_iff.2 he) hbe)]; rfl

theorem ready_un {listed : Array Bool} {i : Nat} (hl : listed.size = ops.size) (hi : i ∈ Region.ready .any ops listed) : i < ops.size ∧ listed.getD i false = false := by
  simp only [Region.ready, List.mem_filter, List.mem_range, Bool.and_eq_true] at hi
  have : i < listed.size := by omega
  refine ⟨hi.1, ?_⟩
  have h := hi.2.1
  simpa [Array.getD, this] using h

theorem getD_set_same {listed : Array Bool} {i : Nat} (h : i < listed.size) : (listed.setIfInBounds i true).getD i false = true := by simp [Array.getD_eq_getD_getElem?, h]
theorem getD_set_ne {listed : Array Bool} {i j : Nat} (h : j ≠ i) : (listed.setIfInBounds i true).getD j false = listed.getD j false := by
  have h' : ¬ i = j := fun e => h e.symm
  simp [Array.getD_eq_getD_getElem?, Array.getElem?_setIfInBounds, h']

theorem wpAny_tail {n k0 : Nat} (hok : flowOk ops n = true) (ht : tailOk ops k0 = true) : ∀ (c i fuel : Nat) (listed : Array Bool) (a : Act) (w : World), i + c = ops.size → k0 ≤ i → c ≤ fuel → listed.size = ops.size →
    (∀ j, j < ops.size → listed.getD j false = decide (j < i)) → Tail P ops Q c i a w → wpAny P .any ops Q fuel listed a w := by
  have tk : ∀ j, j < ops.size → k0 < j → waits ops j (j - 1) = true := by
    intro j hj hk
    unfold tailOk at ht
    simp only [Bool.and_eq_true, List.all_eq_true, List.mem_range] at ht
    have := ht.2 j hj
    rwa [if_neg (by omega), if_neg (by omega)] at this
  intro c
  induction c with
  | zero =>
    intro i fuel listed a w hi hk hc hl hd h
    have hr : Region.ready .any ops listed = [] := by
      apply List.eq_nil_iff_forall_not_mem.2
      intro j hj
      have := ready_un hl hj
      rw [hd j this.1] at this
      simp at this
      omega
    cases fuel with
    | zero => exact ⟨hr, h⟩
    | succ fuel => exact ⟨fun _ => h, fun j hj => by rw [hr] at hj; cases hj⟩
  | succ c ih =>
    intro i fuel listed a w hi hk hc hl hd h
    cases fuel with
    | zero => omega
    | succ fuel =>
      have hmem : i ∈ Region.ready .any ops listed := ready_of hok hl (by omega) (by rw [hd i (by omega)]; simp) (fun j hj => by rw [hd j (by omega)]; simpa using hj)
      refine ⟨fun hr => (by rw [hr] at hmem; cases hmem), fun j hj => ?_⟩
      have hju := ready_un hl hj
      have hji : j = i := by
        rw [hd j hju.1] at hju
        have hge : i ≤ j := by simpa using hju.2
        by_cases e : j = i
        · exact e
        · exfalso
          have := waits_ready hj (tk j hju.1 (by omega))
          rw [hd (j - 1) (by omega)] at this
          simp at this
          omega
      subst hji
      refine wpOp_mono ?_ h
      intro a' w' h'
      refine ih (j + 1) fuel (listed.setIfInBounds j true) a' w' (by omega) (by omega) (by omega) (by simpa using hl) ?_ h'
      intro m hm
      by_cases e : m = j
      · subst e; rw [getD_set_same (by omega)]; simp
      · rw [getD_set_ne e, hd m hm, decide_eq_decide]; omega

theorem wpAny_flowTail {k0 : Nat} (hok : flowOk ops a0.tmps.size = true) (ht : tailOk ops k0 = true) {kn : Nat → VP} (hs : ∀ m, m < k0 → FStep P ops base a0 Q kn m (kn m))
    (he : FlowTail P ops base a0 Q k0 (ops.size - k0) 0 k0 kn) :
    ∀ (u fuel : Nat) (listed : Array Bool) (a : Act) (w : World), listed.size = ops.size → ((List.range k0).filter fun i => !listed.getD i false).length ≤ u → u + (ops.size - k0) ≤ fuel → (∀ j, k0 ≤ j → listed.getD j false = false) →
      FKept ops a0 a → Below base.heap.size base w → (∀ j, listed.getD j false = true → FDone ops kn a w j) → wpAny P .any ops Q fuel listed a w := by
  obtain ⟨ok1, ok2, ok3⟩ := flowOk_spec hok
  have hk0 : k0 ≤ ops.size := by unfold tailOk at ht; simp only [Bool.and_eq_true, decide_eq_true_eq] at ht; exact ht.1
  have tk : ∀ j, j < ops.size → k0 < j → waits ops j (j - 1) = true := by
    intro j hj hk
    unfold tailOk at ht
    simp only [Bool.and_eq_true, List.all_eq_true, List.mem_range] at ht
    have := ht.2 j hj
    rwa [if_neg (by omega), if_neg (by omega)] at this
  have tk0 : ∀ m, k0 < ops.size → m < k0 → waits ops k0 m = true := by
    intro m hj hk
    unfold tailOk at ht
    simp only [Bool.and_eq_true, List.all_eq_true, List.mem_range] at ht
    have := ht.2 k0 hj
    rw [if_neg (by omega), if_pos rfl] at this
    exact List.all_eq_true.1 this m (by simpa using hk)
  intro u
  induction u with
  | zero =>
    intro fuel listed a w hl hu hf htl hk hb hd
    have hall : ∀ j, j < k0 → listed.getD j false = true := by
      intro j hj
      have h0 : ((List.range k0).filter fun i => !listed.getD i false) = [] := List.eq_nil_of_length_eq_zero (by omega)
      rw [List.filter_eq_nil_iff] at h0
      have := h0 j (by simpa using hj)
      simpa using this
    refine wpAny_tail hok ht (ops.size - k0) k0 fuel listed a w (by omega) (Nat.le_refl _) (by omega) hl ?_ (he a w hk hb (fun j hj => hd j (hall j hj)))
    intro j hj
    by_cases e : j < k0
    · rw [hall j e]; simp [e]
    · rw [htl j (by omega)]; simp [e]
  | succ u ih =>
    intro fuel listed a w hl hu hf htl hk hb hd
    by_cases hall : ∀ j, j < k0 → listed.getD j false = true
    · refine wpAny_tail hok ht (ops.size - k0) k0 fuel listed a w (by omega) (Nat.le_refl _) (by omega) hl ?_ (he a w hk hb (fun j hj => hd j (hall j hj)))
      intro j hj
      by_cases e : j < k0
      · rw [hall j e]; simp [e]
      · rw [htl j (by omega)]; simp [e]
    · -- the least that is not yet done
      have hex : ∃ m, m < k0 ∧ listed.getD m false = false ∧ ∀ j, j < m → listed.getD j false = true := by
        have key : ∀ n, n ≤ k0 → (∀ j, j < n → listed.getD j false = true) ∨ ∃ m, m < n ∧ listed.getD m false = false ∧ ∀ j, j < m → listed.getD j false = true := by
          intro n
          induction n with
          | zero => intro _; exact .inl (fun j hj => absurd hj (by omega))
          | succ n ihn =>
            intro hn
            rcases ihn (by omega) with h | ⟨m, hm, h1, h2⟩
            · cases hc : listed.getD n false with
              | true => exact .inl (fun j hj => by by_cases e : j = n; exact e ▸ hc; exact h j (by omega))
              | false => exact .inr ⟨n, by omega, hc, h⟩
            · exact .inr ⟨m, by omega, h1, h2⟩
        rcases key k0 (Nat.le_refl _) with h | h
        · exact absurd h hall
        · exact h
      obtain ⟨m, hm, hmu, hmd⟩ := hex
      have hmem : m ∈ Region.ready .any ops listed := ready_of hok hl (by omega) hmu hmd
      cases fuel with
      | zero => omega
      | succ fuel =>
        refine ⟨fun hr => (by rw [hr] at hmem; cases hmem), fun i hi => ?_⟩
        have hiu := ready_un hl hi
        have hik : i < k0 := by
          by_cases e : i < k0
          · exact e
          · exfalso
            by_cases e2 : i = k0
            · subst e2
              have := waits_ready hi (tk0 m hiu.1 hm)
              rw [hmu] at this
              cases this
            · have := waits_ready hi (tk i hiu.1 (by omega))
              rw [htl (i - 1) (by omega)] at this
              cases this
        obtain ⟨o, ho⟩ : ∃ o, ops[i]? = some o := ⟨_, Array.getElem?_eq_getElem hiu.1⟩
        have hstep := (hs i hik).2 o ho a w hk hb (by
          intro o' ho' e he' hbd
          rw [ho] at ho'
          cases ho'
          refine hd e.on (waits_ready hi ?_)
          unfold waits
          rw [ho]
          simp only [Option.any_some, List.any_eq_true, Bool.and_eq_true, beq_iff_eq]
          exact ⟨e, he', rfl, hbd⟩)
        refine wpOp_mono ?_ hstep
        rintro a' w' ⟨v, rfl, hV, hbw⟩
        refine ih fuel (listed.setIfInBounds i true) _ w' (by simpa using hl) ?_ (by omega) ?_ ?_ (hb.trans (hbw.mono hb.size)) ?_
        · have hsub : ((List.range k0).filter fun j => !(listed.setIfInBounds i true).getD j false).length < ((List.range k0).filter fun j => !listed.getD j false).length := by
            have e1 : ((List.range k0).filter fun j => !(listed.setIfInBounds i true).getD j false) = ((List.range k0).filter fun j => !listed.getD j false).filter (fun j => j != i) := by
              rw [List.filter_filter]
              apply List.filter_congr
              intro j hj
              by_cases e : j = i
              · subst e; rw [getD_set_same (by omega)]; simp
              · rw [getD_set_ne e]; simp [e]
            rw [e1]
            refine List.length_filter_lt_length_iff_exists.2 ⟨i, ?_, by simp⟩
            simp only [List.mem_filter, List.mem_range]
            exact ⟨hik, by rw [hiu.2]; rfl⟩
          omega
        · intro j hj
          rw [getD_set_ne (by omega)]
          exact htl j hj
        · refine ⟨by rw [defers_put]; exact hk.1, by rw [size_put]; exact hk.2.1, fun t ht' => ?_⟩
          cases hdst : o.dst with
          | none => simp only [Act.put]; exact hk.2.2 t ht'
          | some s =>
            have : s ≠ t := by
              rintro rfl
              have := List.all_eq_true.1 ht' o (by rw [Array.mem_toList_iff]; exact Array.mem_of_getElem? ho)
              rw [hdst] at this
              simp at this
            rw [getD_put (fun h => this h.symm)]
            exact hk.2.2 t ht'
        · intro j hj o' ho' t ht'
          by_cases e : j = i
          · subst e
            rw [ho] at ho'
            cases ho'
            rw [ht', getD_put_self (by rw [hk.2.1]; exact ok3 j o t ho ht')]
            exact hV
          · rw [getD_set_ne e] at hj
            have hne : o.dst ≠ some t := fun hh => e (ok2 j i o' o t ho' ho ht' hh)
            have hold := hd j hj o' ho' t ht'
            have hslot : (a.put o.dst v).tmps.getD t undef = a.tmps.getD t undef := by
              cases hdst : o.dst with
              | none => rfl
              | some s => exact getD_put (fun h => hne (by rw [hdst, h]))
            rw [hslot]
            have hjk : j < k0 := by
              by_cases e2 : j < k0
              · exact e2
              · rw [htl j (by omega)] at hj; cases hj
            exact (hs j hjk).1 _ _ _ hold hbw

theorem flowTail_family {n k0 c : Nat} (hok : flowOk ops n = true) : ∀ k i kn, i + k = k0 → (∀ m, m < i → FStep P ops base a0 Q kn m (kn m)) → FlowTail P ops base a0 Q k0 c k i kn →
    ∃ kn', (∀ m, m < k0 → FStep P ops base a0 Q kn' m (kn' m)) ∧ FlowTail P ops base a0 Q k0 c 0 k0 kn'
  | 0, i, kn, hi, hs, hf => ⟨kn, fun m hm => hs m (by omega), hf⟩
  | k + 1, i, kn, hi, hs, ⟨V, hV, hf⟩ => by
    have agree : ∀ m, m ≠ i → upd kn i V m = kn m := fun m hm => by simp [upd, hm]
    have self : upd kn i V i = V := by simp [upd]
    have shift : ∀ m W, m ≤ i → FStep P ops base a0 Q kn m W → FStep P ops base a0 Q (upd kn i V) m W := by
      intro m W hm h
      refine ⟨h.1, fun o ho a w hk hb hd => h.2 o ho a w hk hb ?_⟩
      intro o' ho' e he hbd
      have hlt := (flowOk_spec hok).1 m o' ho' e he hbd
      exact fdone_congr (agree e.on (by omega)) (hd o' ho' e he hbd)
    refine flowTail_family hok k (i + 1) (upd kn i V) (by omega) (fun m hm => ?_) hf
    by_cases hmi : m = i
    · subst hmi; rw [self]; exact shift m V (Nat.le_refl _) hV
    · rw [agree m hmi]; exact shift m _ (by omega) (hs m (by omega))

/-- THE LAW. -/
theorem wp_region_tail (k0 : Nat) {id : Nat} {a : Act} {w : World} (hm : P.follows .mixedOrders = true) (hok : flowOk ops a.tmps.size = true) (ht : tailOk ops k0 = true)
    (h : FlowTail P ops w a Q k0 (ops.size - k0) k0 0 (fun _ _ _ => False)) : (Code.region id ops true).wp P Q a w := by
  refine wp_region_any hm ?_
  obtain ⟨kn, hs, he⟩ := flowTail_family hok k0 0 _ (by omega) (fun m hm => absurd hm (by omega)) h
  have hk0 : k0 ≤ ops.size := by unfold tailOk at ht; simp only [Bool.and_eq_true, decide_eq_true_eq] at ht; exact ht.1
  refine wpAny_flowTail hok ht hs he k0 ops.size _ a _ (by simp) ?_ (by omega) ?_ ⟨rfl, rfl, fun _ _ => rfl⟩ ((Below.refl _ w).drew) ?_
  · exact Nat.le_trans (List.length_filter_le _ _) (by simp)
  · intro j hj
    simp [Array.getD_eq_getD_getElem?, Array.getElem?_replicate]
    split <;> rfl
  · intro j hj
    simp [Array.getD_eq_getD_getElem?, Array.getElem?_replicate] at hj
    split at hj <;> simp at hj
end
end Go.Proofs.YtpjafjnokgeifaaGreatDoor
end
section
namespace Go.Proofs.YtpjafjnokgeifaaGreatDoor
open Go.RowKit

theorem ret_int {k : IntKind} {a b : Int} (h : a = b) : Ending.returned (.int k a) = .returned (.int k b) := by rw [h]
theorem ret_str {a b : List UInt8} (h : a = b) : Ending.returned (.string ⟨a.toArray⟩) = .returned (.string ⟨b.toArray⟩) := by rw [h]

def isWidthB (n : Int) : Bool := decide (1 ≤ n) && decide (n ≤ 7)

set_option maxHeartbeats 400000 in
theorem isWidth_any (n : Int) (w : World) :
    Calls Tryz.prog 126 #[.int .i64 n] w fun e w' => e = .returned (.bool (isWidthB n)) ∧ w = w' := by
  by_cases h1 : 1 ≤ n
  · by_cases h2 : n ≤ 7
    · go_enter Tryz.func126, Tryz.ntmps126
      go_wp2
      go_ret
      exact ⟨by simp [isWidthB, h1, h2], rfl⟩
    · have h2' : decide (n ≤ 7) = false := by simpa using h2
      go_enter Tryz.func126, Tryz.ntmps126
      go_wp2
      go_ret
      exact ⟨by simp [isWidthB, h1, h2], rfl⟩
  · have h1' : decide (1 ≤ n) = false := by simpa using h1
    go_enter Tryz.func126, Tryz.ntmps126
    go_wp2
    go_ret
    exact ⟨by simp [isWidthB, h1'], rfl⟩

theorem bits_and_u8 (x y : UInt8) : bits .and .u8 (x.toNat : Int) (y.toNat : Int) = ((x &&& y).toNat : Int) := by
  rw [u8_and_nat _ _ x.toNat_lt y.toNat_lt, UInt8.toNat_and]
theorem bits_or_u8 (x y : UInt8) : bits .or .u8 (x.toNat : Int) (y.toNat : Int) = ((x ||| y).toNat : Int) := by
  rw [u8_or_nat _ _ x.toNat_lt y.toNat_lt, UInt8.toNat_or]
theorem bits_xor_u8 (x y : UInt8) : bits .xor .u8 (x.toNat : Int) (y.toNat : Int) = ((x ^^^ y).toNat : Int) := by
  rw [u8_xor_nat _ _ x.toNat_lt y.toNat_lt, UInt8.toNat_xor]

set_option maxHeartbeats 400000 in
theorem and1_any (x y : UInt8) (w : World) :
    Calls Tryz.prog 207 #[.int .u8 (x.toNat : Int), .int .u8 (y.toNat : Int)] w fun e w' => e = .returned (.int .u8 ((x &&& y).toNat : Int)) ∧ w = w' := by
  go_enter Tryz.func207, Tryz.ntmps207
  go_wp2
  go_ret
  exact ⟨ret_int (bits_and_u8 x y), rfl⟩
set_option maxHeartbeats 400000 in
theorem xor1_any (x y : UInt8) (w : World) :
    Calls Tryz.prog 206 #[.int .u8 (x.toNat : Int), .int .u8 (y.toNat : Int)] w fun e w' => e = .returned (.int .u8 ((x ^^^ y).toNat : Int)) ∧ w = w' := by
  go_enter Tryz.func206, Tryz.ntmps206
  go_wp2
  go_ret
  exact ⟨ret_int (bits_xor_u8 x y), rfl⟩
end Go.Proofs.YtpjafjnokgeifaaGreatDoor
end
section
namespace Go.Proofs.YtpjafjnokgeifaaGreatDoor
open Go.RowKit

theorem Tryz.infoU8 : (Tryz.prog.info? 5).map (fun i => (i.zero, i.size, i.bytes)) = some (some (.int .u8 0), 1, 1) := by kernel_rfl

/-- All bits turned. -/
def notL (l : List UInt8) : List UInt8 := l.map (fun b => ~~~b)

theorem length_notL (l : List UInt8) : (notL l).length = l.length := by simp [notL]

theorem not_u8 (x : UInt8) : bits .xor .u8 (if IntKind.u8.signed = true then -1 else IntKind.u8.max) (x.toNat : Int) = ((~~~x).toNat : Int) := by
  have e : (if IntKind.u8.signed = true then -1 else IntKind.u8.max) = (((255 : UInt8).toNat : Nat) : Int) := by decide
  rw [e, bits_xor_u8]
  rw [show (255 : UInt8) = -1 from rfl, UInt8.neg_one_xor]

set_option maxHeartbeats 400000 in
theorem not_any (s : ByteArray) (w : World) (hs : s.size ≤ 1000000000) :
    Calls Tryz.prog 99 #[.string s] w fun e w' => e = .returned (.string ⟨(notL s.data.toList).toArray⟩) ∧ Below w.heap.size w w' := by
  have hmk := fun W => run_make_row' (P := Tryz.prog) 82 5 (.int .u8 0) 1 Tryz.underlying82 Tryz.infoU8 rfl .i64 .i64 s.size (by omega) (by omega) W
  go_enter Tryz.func99, Tryz.ntmps99
  go_wp2
  clear hmk
  go_loopw [10] (fun i wr => ∃ k : Nat, k ≤ s.size ∧ i = .int .i64 k ∧ BRow wr w.heap.size (mix (notL s.data.toList) (List.replicate s.size 0) k) ∧ Below w.heap.size w wr) (fun i _ => s.size - (intOf i).toNat)
  case atStart => exact ⟨0, Nat.zero_le _, rfl, by rw [mix_zero]; exact BRow.made w 5 s.size, (Below.refl _ _).alloc (Nat.le_refl _) _⟩
  case round =>
    obtain ⟨k, hk, rfl, hrow, hbel⟩ := hrel
    have hlen : (mix (notL s.data.toList) (List.replicate s.size 0) k).length = s.size := by rw [length_mix _ _ _ (by simp [length_notL]), length_notL]; simp
    by_cases hlt : k < s.size
    · obtain ⟨v, hc⟩ := hrow.some_ (k := k) (by omega)
      have hf := hrow.free (k := k) (by omega)
      have HL := Lib.hid hlen
      clear hlen
      go_wp2
      go_roundw
      case rel =>
        go_light
        refine ⟨k + 1, by omega, by go_num, ?_, hbel.setCell (p := ⟨w.heap.size, k, none⟩) (Nat.le_refl _) _⟩
        rw [not_u8, ← mix_set _ _ k (by simp [length_notL]) (by simpa [length_notL] using hlt) (~~~s[k]) (by simp [notL]; rfl)]
        exact hrow.set_ (by rw [HL.out]; exact hlt) _
      case measure => simp [intOf]; omega
    · have hb := hrow.back (P := Tryz.prog) 82 9 5 s.size s.size hlen Tryz.underlying82 Tryz.underlying5 Tryz.underlying9
      clear hlen
      go_wp2
      go_ret
      exact ⟨ret_str (mix_all _ _ _ (by simp [length_notL]; omega) (by simp; omega)), hbel⟩
end Go.Proofs.YtpjafjnokgeifaaGreatDoor
end
section
namespace Go.Proofs.YtpjafjnokgeifaaGreatDoor
open Go.RowKit
set_option linter.unusedVariables false

/-- f of both bytes, where the second text has one; else the first one's. -/
def pairL (f : UInt8 → UInt8 → UInt8) : List UInt8 → List UInt8 → List UInt8
  | [], _ => []
  | a :: r, [] => a :: r
  | a :: r, b :: q => f a b :: pairL f r q

theorem length_pairL (f : UInt8 → UInt8 → UInt8) : ∀ a b, (pairL f a b).length = a.length
  | [], _ => rfl
  | _ :: _, [] => rfl
  | _ :: r, _ :: q => by simp [pairL, length_pairL f r q]

theorem pairL_get (f : UInt8 → UInt8 → UInt8) : ∀ (a b : List UInt8) (k : Nat) (ha : k < a.length) (hb : k < b.length), (pairL f a b)[k]'(by rw [length_pairL]; exact ha) = f a[k] b[k]
  | _ :: _, _ :: _, 0, _, _ => rfl
  | _ :: r, _ :: q, k + 1, ha, hb => by simpa [pairL] using pairL_get f r q k (by simpa using ha) (by simpa using hb)

theorem pairL_drop (f : UInt8 → UInt8 → UInt8) : ∀ (a b : List UInt8), mix (pairL f a b) a (min a.length b.length) = pairL f a b
  | [], _ => by simp [mix, pairL]
  | _ :: _, [] => by simp [mix, pairL]
  | x :: r, y :: q => by
    have := pairL_drop f r q
    simp only [mix, pairL, List.length_cons, Nat.add_min_add_right, List.take_succ_cons, List.drop_succ_cons, List.cons_append] at this ⊢
    rw [this]

theorem bytesWorld_row (w : World) (e : TypeId) (s : ByteArray) : BRow (Lib.bytesWorld w e s) w.heap.size s.data.toList := by
  intro j hj
  have hj' : j < s.size := by simpa using hj
  refine ⟨?_, ?_⟩
  · rw [Lib.bytesWorld_cell w e s j hj']
    rw [List.getD_eq_getElem?_getD, List.getElem?_eq_getElem hj]; rfl
  · have := Lib.bytesWorld_at_new w e s
    simp [World.frozen?, this, Lib.bytesCells]
    omega

theorem bytesWorld_below (w : World) (e : TypeId) (s : ByteArray) : Below w.heap.size w (Lib.bytesWorld w e s) :=
  ⟨rfl, rfl, rfl, by rw [Lib.bytesWorld_size]; omega, fun k hk => Lib.bytesWorld_at_old w e s k hk⟩

set_option maxHeartbeats 400000 in
theorem pairwise_any (f : UInt8 → UInt8 → UInt8) (g : FuncId) (eg : ∀ args w, (callFunc g args).run Tryz.prog w = .ok (.enter g args) w)
    (hf : ∀ (x y : UInt8) (w : World), Calls Tryz.prog g #[.int .u8 (x.toNat : Int), .int .u8 (y.toNat : Int)] w fun e w' => e = .returned (.int .u8 ((f x y).toNat : Int)) ∧ w = w')
    (a b : ByteArray) (w : World) (ha : a.size ≤ 1000000000) (hb : b.size ≤ 1000000000) :
    Calls Tryz.prog 205 #[.string a, .string b, .func (.func g) #[] #[]] w fun e w' => e = .returned (.string ⟨(pairL f a.data.toList b.data.toList).toArray⟩) ∧ Below w.heap.size w w' := by
  have HF := Lib.hid hf
  clear hf
  have hcv := fun W => Lib.run_convert_string_bytes (P := Tryz.prog) W 9 82 5 a Tryz.underlying9 Tryz.underlying82 Tryz.underlying5
  have hr0 := bytesWorld_row w 5 a
  have hb0 := bytesWorld_below w 5 a
  have hmin : ∀ (ts : Array TypeId) (t : TypeId) (W : World), (Builtin.min_ ts t #[.int .i64 (a.size : Int), .int .i64 (b.size : Int)]).run Tryz.prog W = .ok (.int .i64 ((min a.size b.size : Nat) : Int)) W := by
    intro ts t W
    rw [run_min_int2]
    congr 2
    split <;> omega
  go_enter Tryz.func205, Tryz.ntmps205
  go_wp2
  clear hcv
  generalize Lib.bytesWorld w 5 a = w0 at *
  generalize grownCap w a.size 0 5 = cap at *
  all_goals
    go_loopw [16] (fun i wr => ∃ k : Nat, k ≤ min a.size b.size ∧ i = .int .i64 k ∧ BRow wr w.heap.size (mix (pairL f a.data.toList b.data.toList) a.data.toList k) ∧ Below w.heap.size w wr) (fun i _ => min a.size b.size - (intOf i).toNat)
    case atStart => exact ⟨0, Nat.zero_le _, rfl, by rw [mix_zero]; exact hr0, hb0⟩
    case round =>
      clear hr0 hb0
      obtain ⟨k, hk, rfl, hrow, hbel⟩ := hrel
      have hlen : (mix (pairL f a.data.toList b.data.toList) a.data.toList k).length = a.size := by rw [length_mix _ _ _ (by rw [length_pairL]), length_pairL]; simp
      by_cases hlt : k < min a.size b.size
      · obtain ⟨v, hc⟩ := hrow.some_ (k := k) (by omega)
        have hfz := hrow.free (k := k) (by omega)
        have HL := Lib.hid hlen
        clear hlen
        have hka : k < a.size := by omega
        have hkb : k < b.size := by omega
        go_wp2
        go_region_with ((with_reducible refine (HF.out (a[k]'hka) (b[k]'hkb) _).mono ?_); rintro e w' ⟨rfl, rfl⟩)
        all_goals go_wp2
        all_goals
          go_roundw
          case rel =>
            go_light
            refine ⟨k + 1, by omega, by go_num, ?_, (hbel.setCell (p := ⟨w.heap.size, k, none⟩) (Nat.le_refl _) _).drew⟩
            rw [← mix_set _ _ k (by rw [length_pairL]) (by rw [length_pairL]; simpa using hka) (f (a[k]'hka) (b[k]'hkb)) (pairL_get f _ _ k (by simpa using hka) (by simpa using hkb)).symm]
            exact (hrow.set_ (by rw [HL.out]; exact hka) _).drew
          case measure => simp [intOf]; omega
      · have hbk := hrow.back (P := Tryz.prog) 82 9 5 a.size cap hlen Tryz.underlying82 Tryz.underlying5 Tryz.underlying9
        clear hlen
        go_wp2
        go_ret
        exact ⟨ret_str (by rw [show k = min a.data.toList.length b.data.toList.length by simp at hlt hk ⊢; omega]; exact pairL_drop f _ _), hbel⟩

set_option maxHeartbeats 400000 in
theorem and_any (a b : ByteArray) (w : World) (ha : a.size ≤ 1000000000) (hb : b.size ≤ 1000000000) :
    Calls Tryz.prog 187 #[.string a, .string b] w fun e w' => e = .returned (.string ⟨(pairL (· &&& ·) a.data.toList b.data.toList).toArray⟩) ∧ Below w.heap.size w w' := by
  go_enter Tryz.func187, Tryz.ntmps187
  go_wp2_with fail
  refine (pairwise_any (· &&& ·) 207 (enters_of Tryz.func207 (by kernel_rfl) rfl) and1_any a b _ ha hb).mono ?_
  rintro e w' ⟨rfl, hb⟩
  go_wp2
  go_ret
  exact ⟨rfl, hb⟩
set_option maxHeartbeats 400000 in
theorem xor_any (a b : ByteArray) (w : World) (ha : a.size ≤ 1000000000) (hb : b.size ≤ 1000000000) :
    Calls Tryz.prog 186 #[.string a, .string b] w fun e w' => e = .returned (.string ⟨(pairL (· ^^^ ·) a.data.toList b.data.toList).toArray⟩) ∧ Below w.heap.size w w' := by
  go_enter Tryz.func186, Tryz.ntmps186
  go_wp2_with fail
  refine (pairwise_any (· ^^^ ·) 206 (enters_of Tryz.func206 (by kernel_rfl) rfl) xor1_any a b _ ha hb).mono ?_
  rintro e w' ⟨rfl, hb⟩
  go_wp2
  go_ret
  exact ⟨rfl, hb⟩
end Go.Proofs.YtpjafjnokgeifaaGreatDoor
end
section
namespace Go.Proofs
open Go.Shelf
def Tryz.lays105_ren : Go.Shelf.Ren := ⟨fun | 105 => 147 | 212 => 146 | 99 => 178 | 165 => 179 | 166 => 180 | 170 => 181 | 169 => 182 | 263 => 176 | 264 => 177 | 206 => 198 | 240 => 199 | 241 => 200 | 276 => 214 | 277 => 215 | n => n, fun | 9 => 9 | 3 => 3 | 4 => 4 | 20 => 20 | 0 => 0 | 46 => 63 | 109 => 150 | 5 => 5 | 72 => 196 | 76 => 199 | 51 => 131 | 146 => 189 | 53 => 52 | 148 => 191 | 70 => 194 | 37 => 82 | 75 => 198 | 127 => 212 | 164 => 225 | 80 => 202 | n => n, fun | n => n⟩
theorem Tryz.lays105 : Go.Proofs.Lays.n105 Tryz.prog Tryz.lays105_ren := {
  mixed := by kernel_rfl
  f99 := Tryz.func178.trans (congrArg some (by kernel_rfl))
  f105 := Tryz.func147.trans (congrArg some (by kernel_rfl))
  f165 := Tryz.func179.trans (congrArg some (by kernel_rfl))
  f166 := Tryz.func180.trans (congrArg some (by kernel_rfl))
  f169 := Tryz.func182.trans (congrArg some (by kernel_rfl))
  f170 := Tryz.func181.trans (congrArg some (by kernel_rfl))
  f206 := Tryz.func198.trans (congrArg some (by kernel_rfl))
  f212 := Tryz.func146.trans (congrArg some (by kernel_rfl))
  f240 := Tryz.func199.trans (congrArg some (by kernel_rfl))
  f241 := Tryz.func200.trans (congrArg some (by kernel_rfl))
  f263 := Tryz.func176.trans (congrArg some (by kernel_rfl))
  f264 := Tryz.func177.trans (congrArg some (by kernel_rfl))
  f276 := Tryz.func214.trans (congrArg some (by kernel_rfl))
  f277 := Tryz.func215.trans (congrArg some (by kernel_rfl))
  t0 := Tryz.underlying0
  a0 := Tryz.isAgg0
  z0 := Tryz.sizeOf0
  v0 := Tryz.zeroValue0
  t3 := Tryz.underlying3
  a3 := Tryz.isAgg3
  z3 := Tryz.sizeOf3
  v3 := Tryz.zeroValue3
  t4 := Tryz.underlying4
  a4 := Tryz.isAgg4
  z4 := Tryz.sizeOf4
  v4 := Tryz.zeroValue4
  t5 := Tryz.underlying5
  a5 := Tryz.isAgg5
  z5 := Tryz.sizeOf5
  v5 := Tryz.zeroValue5
  t9 := Tryz.underlying9
  a9 := Tryz.isAgg9
  z9 := Tryz.sizeOf9
  v9 := Tryz.zeroValue9
  t20 := Tryz.underlying20
  a20 := Tryz.isAgg20
  z20 := Tryz.sizeOf20
  v20 := Tryz.zeroValue20
  t37 := Tryz.underlying82
  a37 := Tryz.isAgg82
  z37 := Tryz.sizeOf82
  v37 := Tryz.zeroValue82
  t46 := Tryz.underlying63
  a46 := Tryz.isAgg63
  z46 := Tryz.sizeOf63
  v46 := Tryz.zeroValue63
  t51 := Tryz.underlying131
  a51 := Tryz.isAgg131
  z51 := Tryz.sizeOf131
  v51 := Tryz.zeroValue131
  t53 := Tryz.underlying52
  a53 := Tryz.isAgg52
  z53 := Tryz.sizeOf52
  v53 := Tryz.zeroValue52
  t70 := Tryz.underlying194
  a70 := Tryz.isAgg194
  z70 := Tryz.sizeOf194
  v70 := Tryz.zeroValue194
  t72 := Tryz.underlying196
  a72 := Tryz.isAgg196
  z72 := Tryz.sizeOf196
  v72 := Tryz.zeroValue196
  t75 := Tryz.underlying198
  a75 := Tryz.isAgg198
  z75 := Tryz.sizeOf198
  v75 := Tryz.zeroValue198
  t76 := Tryz.underlying199
  a76 := Tryz.isAgg199
  z76 := Tryz.sizeOf199
  v76 := Tryz.zeroValue199
  t109 := Tryz.underlying150
  a109 := Tryz.isAgg150
  z109 := Tryz.sizeOf150
  v109 := Tryz.zeroValue150
  t127 := Tryz.underlying212
  a127 := Tryz.isAgg212
  z127 := Tryz.sizeOf212
  v127 := Tryz.zeroValue212
  t146 := Tryz.underlying189
  a146 := Tryz.isAgg189
  z146 := Tryz.sizeOf189
  v146 := Tryz.zeroValue189
  t148 := Tryz.underlying191
  a148 := Tryz.isAgg191
  z148 := Tryz.sizeOf191
  v148 := Tryz.zeroValue191
  t164 := Tryz.underlying225
  a164 := Tryz.isAgg225
  z164 := Tryz.sizeOf225
  v164 := Tryz.zeroValue225 }
theorem Tryz.Builder_Extra_105 : Builder.Extra Tryz.prog Tryz.lays105_ren := {
  sizeBuilder := by kernel_rfl
  liesBuilder := by kernel_rfl
  t5 := Tryz.underlying5
  a5 := Tryz.isAgg5
  z5 := Tryz.sizeOf5
  v5 := Tryz.zeroValue5
  infoByte := by kernel_rfl
  cellsByte := by kernel_rfl
  sizeByte := by kernel_rfl
  neB5 := by decide }
open Go.RowKit Go.Lib in
theorem Tryz.strings_Repeat (s : ByteArray) (c : Nat) (w : World) (hc : c ≤ 9223372036854775807) (hlen : s.size * c ≤ 140737488355328) :
    Calls Tryz.prog 147 #[.string s, .int .i64 c] w fun e w' => e = .returned (.string ⟨(Lib.repeatL s.data.toList c).toArray⟩) ∧ Below w.heap.size w w' := Any.strings_Repeat Tryz.lays105 Tryz.Builder_Extra_105 s c w hc hlen
def Tryz.lays111_ren : Go.Shelf.Ren := ⟨fun | 111 => 208 | n => n, fun | 28 => 23 | 3 => 3 | 4 => 4 | 0 => 0 | n => n, fun | n => n⟩
theorem Tryz.lays111 : Go.Proofs.Lays.n111 Tryz.prog Tryz.lays111_ren := {
  mixed := by kernel_rfl
  f111 := Tryz.func208.trans (congrArg some (by kernel_rfl))
  t0 := Tryz.underlying0
  a0 := Tryz.isAgg0
  z0 := Tryz.sizeOf0
  v0 := Tryz.zeroValue0
  t3 := Tryz.underlying3
  a3 := Tryz.isAgg3
  z3 := Tryz.sizeOf3
  v3 := Tryz.zeroValue3
  t4 := Tryz.underlying4
  a4 := Tryz.isAgg4
  z4 := Tryz.sizeOf4
  v4 := Tryz.zeroValue4
  t28 := Tryz.underlying23
  a28 := Tryz.isAgg23
  z28 := Tryz.sizeOf23
  v28 := Tryz.zeroValue23 }
open Go.RowKit Go.Lib in
theorem Tryz.slices_Equal_int (b1 o1 n c b2 o2 m d : Nat) (xs ys : List Int) (w : World) (hx : n ≤ xs.length) (hy : m ≤ ys.length) (hbig : n ≤ 9223372036854775807) (hbig2 : m ≤ 9223372036854775807) (hc1 : ∀ j, j < xs.length → w.cell? ⟨b1, o1 + j, none⟩ = some (.int .i64 (xs.getD j 0))) (hc2 : ∀ j, j < ys.length → w.cell? ⟨b2, o2 + j, none⟩ = some (.int .i64 (ys.getD j 0))) :
    Calls Tryz.prog 208 #[.slice (some ⟨b1, o1, none⟩) n c, .slice (some ⟨b2, o2, none⟩) m d] w fun e w' => e = .returned (.bool (xs.take n == ys.take m)) ∧ ∃ q, w' = w.drewN q := Any.slices_Equal_int Tryz.lays111 b1 o1 n c b2 o2 m d xs ys w hx hy hbig hbig2 hc1 hc2
open Go.RowKit Go.Lib in
theorem Tryz.slices_Equal_int_empty (a1 a2 : Option Addr) (c m d : Nat) (w : World) (hbig2 : m ≤ 9223372036854775807) :
    Calls Tryz.prog 208 #[.slice a1 0 c, .slice a2 m d] w fun e w' => e = .returned (.bool (decide (m = 0))) ∧ w' = w := Any.slices_Equal_int_empty Tryz.lays111 a1 a2 c m d w hbig2
def Tryz.laysNm215_ren : Go.Shelf.Ren := ⟨fun | 15 => 102 | n => n, fun | 22 => 23 | 3 => 3 | 4 => 4 | n => n, fun | n => n⟩
theorem Tryz.laysNm215 : Go.Proofs.Lays2.n15 Tryz.prog Tryz.laysNm215_ren := {
  mixed := by kernel_rfl
  f15 := Tryz.func102.trans (congrArg some (by kernel_rfl))
  t3 := Tryz.underlying3
  a3 := Tryz.isAgg3
  z3 := Tryz.sizeOf3
  v3 := Tryz.zeroValue3
  t4 := Tryz.underlying4
  a4 := Tryz.isAgg4
  z4 := Tryz.sizeOf4
  v4 := Tryz.zeroValue4
  t22 := Tryz.underlying23
  a22 := Tryz.isAgg23
  z22 := Tryz.sizeOf23
  v22 := Tryz.zeroValue23
  i3 := by kernel_rfl }
open Go.RowKit Go.Lib in
theorem Tryz.slices_Clone_int (b off n c : Nat) (zs : List Int) (w : World) (hz : n ≤ zs.length) (hbig : n * 8 ≤ 140737488355328) (hc : ∀ j, j < zs.length → w.cell? ⟨b, off + j, none⟩ = some (.int .i64 (zs.getD j 0))) :
    Calls Tryz.prog 102 #[.slice (some ⟨b, off, none⟩) n c] w fun e w' => ∃ v', e = .returned v' ∧ w'.ownsRow w.heap.size 3 1 v' n ((zs.take n).map (Value.int .i64)) ∧ v' ≠ .slice none 0 0 ∧ Below w.heap.size w w' := Any.slices_Clone_int Tryz.laysNm215 b off n c zs w hz hbig hc
open Go.RowKit Go.Lib in
theorem Tryz.slices_Clone_int_nil (n c : Nat) (w : World) :
    Calls Tryz.prog 102 #[.slice none n c] w fun e w' => e = .returned (.slice none 0 0) ∧ w' = w := Any.slices_Clone_int_nil Tryz.laysNm215 n c w
def Tryz.laysNm216_ren : Go.Shelf.Ren := ⟨fun | 16 => 101 | n => n, fun | 24 => 22 | 9 => 9 | 4 => 4 | n => n, fun | n => n⟩
theorem Tryz.laysNm216 : Go.Proofs.Lays2.n16 Tryz.prog Tryz.laysNm216_ren := {
  mixed := by kernel_rfl
  f16 := Tryz.func101.trans (congrArg some (by kernel_rfl))
  t4 := Tryz.underlying4
  a4 := Tryz.isAgg4
  z4 := Tryz.sizeOf4
  v4 := Tryz.zeroValue4
  t9 := Tryz.underlying9
  a9 := Tryz.isAgg9
  z9 := Tryz.sizeOf9
  v9 := Tryz.zeroValue9
  t24 := Tryz.underlying22
  a24 := Tryz.isAgg22
  z24 := Tryz.sizeOf22
  v24 := Tryz.zeroValue22
  i9 := by kernel_rfl }
open Go.RowKit Go.Lib in
theorem Tryz.slices_Clone_string (b off n c : Nat) (zs : List ByteArray) (w : World) (hz : n ≤ zs.length) (hbig : n * 16 ≤ 140737488355328) (hc : ∀ j, j < zs.length → w.cell? ⟨b, off + j, none⟩ = some (.string (zs.getD j ByteArray.empty))) :
    Calls Tryz.prog 101 #[.slice (some ⟨b, off, none⟩) n c] w fun e w' => ∃ v', e = .returned v' ∧ w'.ownsRow w.heap.size 9 1 v' n ((zs.take n).map (Value.string)) ∧ v' ≠ .slice none 0 0 ∧ Below w.heap.size w w' := Any.slices_Clone_string Tryz.laysNm216 b off n c zs w hz hbig hc
open Go.RowKit Go.Lib in
theorem Tryz.slices_Clone_string_nil (n c : Nat) (w : World) :
    Calls Tryz.prog 101 #[.slice none n c] w fun e w' => e = .returned (.slice none 0 0) ∧ w' = w := Any.slices_Clone_string_nil Tryz.laysNm216 n c w
open Go.RowKit Go.Lib in
theorem Tryz.slices_Clone_int_zero (a : Addr) (c : Nat) (w : World) :
    Calls Tryz.prog 102 #[.slice (some a) 0 c] w fun e w' => ∃ v', e = .returned v' ∧ w'.ownsRow w.heap.size 3 1 v' 0 [] ∧ v' ≠ .slice none 0 0 ∧ Below w.heap.size w w' := Any.slices_Clone_int_zero Tryz.laysNm215 a c w
open Go.RowKit Go.Lib in
theorem Tryz.slices_Clone_string_zero (a : Addr) (c : Nat) (w : World) :
    Calls Tryz.prog 101 #[.slice (some a) 0 c] w fun e w' => ∃ v', e = .returned v' ∧ w'.ownsRow w.heap.size 9 1 v' 0 [] ∧ v' ≠ .slice none 0 0 ∧ Below w.heap.size w w' := Any.slices_Clone_string_zero Tryz.laysNm216 a c w
end Go.Proofs
end
section
namespace Go.Proofs.YtpjafjnokgeifaaGreatDoor
open Go.RowKit
set_option linter.unusedVariables false

/-- So many bytes of ones alone; none, if the number is out of its range. -/
def onesL (n : Int) : List UInt8 := if 0 ≤ n ∧ n ≤ 100000 then List.replicate n.toNat 255 else []

theorem repeatL_ones /- over 147 -/ (n : Nat) : Lib.repeatL [255] n = List.replicate n 255 := by
  induction n with
  | zero => rfl
  | succ n ih => simp [Lib.repeatL, List.replicate_succ] at ih ⊢; try rw [ih]

set_option maxHeartbeats 400000 in
theorem ones_any (n : Int) (w : World) :
    Calls Tryz.prog 89 #[.int .i64 n] w fun e w' => e = .returned (.string ⟨(onesL n).toArray⟩) ∧ Below w.heap.size w w' := by
  by_cases h0 : n < 0
  · have e0 : onesL n = [] := by unfold onesL; rw [if_neg (by omega)]
    rw [e0]
    go_enter Tryz.func89, Tryz.ntmps89
    go_wp2
    go_ret
    exact ⟨rfl, Below.refl _ _⟩
  · have h0' : decide (n < 0) = false := by simpa using h0
    by_cases h1 : 100000 < n
    · have e0 : onesL n = [] := by unfold onesL; rw [if_neg (by omega)]
      rw [e0]
      go_enter Tryz.func89, Tryz.ntmps89
      go_wp2
      go_ret
      exact ⟨rfl, Below.refl _ _⟩
    · have h1' : decide (100000 < n) = false := by simpa using h1
      obtain ⟨m, rfl⟩ := Int.eq_ofNat_of_zero_le (show 0 ≤ n by omega)
      have e0 : onesL (m : Int) = List.replicate m 255 := by unfold onesL; rw [if_pos (by omega), Int.toNat_natCast]
      have E0 := Lib.hid e0
      clear e0
      go_enter Tryz.func89, Tryz.ntmps89
      go_wp2_with fail
      refine (Tryz.strings_Repeat ⟨#[255]⟩ m _ (by omega) (by show 1 * m ≤ _; omega)).mono ?_
      rintro e w' ⟨rfl, hb⟩
      go_wp2
      go_ret
      exact ⟨ret_str (by rw [E0.out]; exact repeatL_ones m), hb⟩

/-- How many bits are ones. -/
def popB (b : UInt8) : Nat := Lib.onesCount b.toNat
def countL : List UInt8 → Nat
  | [] => 0
  | b :: r => popB b + countL r

theorem countL_append (a b : List UInt8) : countL (a ++ b) = countL a + countL b := by
  induction a with
  | nil => simp [countL]
  | cons x r ih => simp [countL, ih]; omega

theorem popB_le (b : UInt8) : popB b ≤ 8 := by
  have h : ∀ n : Fin 256, Lib.onesCount n.val ≤ 8 := by decide +kernel
  exact h ⟨b.toNat, b.toNat_lt⟩

theorem countL_le (l : List UInt8) : countL l ≤ 8 * l.length := by
  induction l with
  | nil => simp [countL]
  | cons x r ih => have := popB_le x; simp [countL]; omega

theorem countL_take (s : ByteArray) (k : Nat) (h : k < s.size) : countL (s.data.toList.take (k + 1)) = countL (s.data.toList.take k) + popB s[k] := by
  rw [List.take_succ_eq_append_getElem (by simpa using h), countL_append]; simp [countL]; rfl

end Go.Proofs.YtpjafjnokgeifaaGreatDoor
end
section
namespace Go.Proofs.YtpjafjnokgeifaaGreatDoor
open Go.RowKit
set_option linter.unusedVariables false

/-- n in so many bytes, the lowest ones first. -/
def putL (n : Nat) : Nat → List UInt8
  | 0 => []
  | w + 1 => UInt8.ofNat n :: putL (n / 256) w

theorem length_putL : ∀ w n, (putL n w).length = w
  | 0, _ => rfl
  | w + 1, n => by simp [putL, length_putL w]

theorem putL_get : ∀ (w n k : Nat) (h : k < w), (putL n w)[k]'(by rw [length_putL]; exact h) = UInt8.ofNat (n / 256 ^ k)
  | w + 1, n, 0, _ => by simp [putL]
  | w + 1, n, k + 1, h => by
    have := putL_get w (n / 256) k (by omega)
    simp only [putL, List.getElem_cons_succ, this, Nat.div_div_eq_div_mul, Nat.pow_succ, Nat.mul_comm]

theorem pow8 (k : Nat) : 2 ^ (8 * k) = 256 ^ k := by rw [Nat.pow_mul]
theorem put_byte (m k : Nat) : ((m : Int) / 2 ^ (8 * k) % 256) = ((UInt8.ofNat (m / 256 ^ k)).toNat : Int) := by
  have e : ((2 : Int) ^ (8 * k)) = ((256 ^ k : Nat) : Int) := by rw [← pow8]; simp
  rw [e]
  simp

/-- Whether n is put in so many bytes. -/
def okPut (n width : Int) : Bool := isWidthB width && decide (0 ≤ n) && decide (n < 256 ^ width.toNat)

set_option maxHeartbeats 400000 in
theorem put_bad1 (n width : Int) (w : World) (h : isWidthB width = false) :
    Calls Tryz.prog 68 #[.int .i64 n, .int .i64 width] w fun e w' => e = .returned (.tuple #[.string ⟨#[]⟩, .int .i64 1]) ∧ w = w' := by
  go_enter Tryz.func68, Tryz.ntmps68
  go_wp2_with (go_at_call 126; refine (isWidth_any _ _).mono ?_; rintro e w' ⟨rfl, rfl⟩)
  go_ret2
  exact ⟨rfl, rfl⟩

set_option maxHeartbeats 400000 in
theorem put_bad2 (n width : Int) (w : World) (h : isWidthB width = true) (hn : n < 0) :
    Calls Tryz.prog 68 #[.int .i64 n, .int .i64 width] w fun e w' => e = .returned (.tuple #[.string ⟨#[]⟩, .int .i64 1]) ∧ w = w' := by
  go_enter Tryz.func68, Tryz.ntmps68
  go_wp2_with (go_at_call 126; refine (isWidth_any _ _).mono ?_; rintro e w' ⟨rfl, rfl⟩)
  go_ret2
  exact ⟨rfl, rfl⟩

set_option maxHeartbeats 400000 in
theorem put_bad3 (n width : Int) (w : World) (h : isWidthB width = true) (h1 : 1 ≤ width) (h7 : width ≤ 7) (hn : 0 ≤ n) (hz : (n / 2 ^ (8 * width).toNat != 0) = true) :
    Calls Tryz.prog 68 #[.int .i64 n, .int .i64 width] w fun e w' => e = .returned (.tuple #[.string ⟨#[]⟩, .int .i64 1]) ∧ w = w' := by
  have hn' : decide (n < 0) = false := by simp; omega
  go_enter Tryz.func68, Tryz.ntmps68
  go_wp2_with (go_at_call 126; refine (isWidth_any _ _).mono ?_; rintro e w' ⟨rfl, rfl⟩)
  go_ret2
  exact ⟨rfl, rfl⟩

set_option maxHeartbeats 400000 in
theorem put_ok (m wd : Nat) (w : World) (h : isWidthB (wd : Int) = true) (h1 : 1 ≤ wd) (h7 : wd ≤ 7) (hz : ((m : Int) / 2 ^ (8 * wd) != 0) = false) (hm : (m : Int) ≤ 9223372036854775807) :
    Calls Tryz.prog 68 #[.int .i64 (m : Int), .int .i64 (wd : Int)] w fun e w' => e = .returned (.tuple #[.string ⟨(putL m wd).toArray⟩, .int .i64 0]) ∧ Below w.heap.size w w' := by
  have hn' : decide ((m : Int) < 0) = false := by simp
  have hmk := fun W => run_make_row' (P := Tryz.prog) 82 5 (.int .u8 0) 1 Tryz.underlying82 Tryz.infoU8 rfl .i64 .i64 wd (by omega) (by omega) W
  go_enter Tryz.func68, Tryz.ntmps68
  go_wp2_with (go_at_call 126; refine (isWidth_any _ _).mono ?_; rintro e w' ⟨rfl, rfl⟩)
  clear hmk
  go_loopw [25] (fun i wr => ∃ k : Nat, k ≤ wd ∧ i = .int .i64 k ∧ BRow wr w.heap.size (mix (putL m wd) (List.replicate wd 0) k) ∧ Below w.heap.size w wr) (fun i _ => wd - (intOf i).toNat)
  case atStart => exact ⟨0, Nat.zero_le _, rfl, by rw [mix_zero]; exact BRow.made w 5 wd, (Below.refl _ _).alloc (Nat.le_refl _) _⟩
  case round =>
    obtain ⟨k, hk, rfl, hrow, hbel⟩ := hrel
    have hlen : (mix (putL m wd) (List.replicate wd 0) k).length = wd := by rw [length_mix _ _ _ (by simp [length_putL]), length_putL]
    by_cases hlt : k < wd
    · obtain ⟨v, hc⟩ := hrow.some_ (k := k) (by omega)
      have hf := hrow.free (k := k) (by omega)
      have HL := Lib.hid hlen
      clear hlen
      go_wp2
      go_roundw
      case rel =>
        go_light
        refine ⟨k + 1, by omega, by go_num, ?_, hbel.setCell (p := ⟨w.heap.size, k, none⟩) (Nat.le_refl _) _⟩
        rw [put_byte, ← mix_set _ _ k (by simp [length_putL]) (by rw [length_putL]; exact hlt) (UInt8.ofNat (m / 256 ^ k)) (putL_get wd m k hlt).symm]
        exact hrow.set_ (by rw [HL.out]; exact hlt) _
      case measure => simp [intOf]; omega
    · have hb := hrow.back (P := Tryz.prog) 82 9 5 wd wd hlen Tryz.underlying82 Tryz.underlying5 Tryz.underlying9
      clear hlen
      go_wp2
      go_ret2
      exact ⟨by rw [mix_all _ _ _ (by simp [length_putL]; omega) (by simp; omega)]; rfl, hbel⟩

def putS (n width : Int) : List UInt8 := if okPut n width = true then putL n.toNat width.toNat else []
def putE (n width : Int) : Int := if okPut n width = true then 0 else 1

theorem put_any (n width : Int) (w : World) (hm : n ≤ 9223372036854775807) :
    Calls Tryz.prog 68 #[.int .i64 n, .int .i64 width] w fun e w' => e = .returned (.tuple #[.string ⟨(putS n width).toArray⟩, .int .i64 (putE n width)]) ∧ Below w.heap.size w w' := by
  have bad : okPut n width = false → ∀ e w', (e = Ending.returned (.tuple #[.string ⟨#[]⟩, .int .i64 1]) ∧ w = w') → (e = .returned (.tuple #[.string ⟨(putS n width).toArray⟩, .int .i64 (putE n width)]) ∧ Below w.heap.size w w') := by
    rintro h e w' ⟨rfl, rfl⟩
    exact ⟨by simp [putS, putE, h], Below.refl _ _⟩
  cases h : isWidthB width with
  | false => exact (put_bad1 n width w h).mono (bad (by simp [okPut, h]))
  | true =>
    have hwd : 1 ≤ width ∧ width ≤ 7 := by simpa [isWidthB] using h
    by_cases hn : n < 0
    · exact (put_bad2 n width w h hn).mono (bad (by simp [okPut, h]; omega))
    · obtain ⟨m, rfl⟩ := Int.eq_ofNat_of_zero_le (show 0 ≤ n by omega)
      obtain ⟨wd, rfl⟩ := Int.eq_ofNat_of_zero_le (show 0 ≤ width by omega)
      have hlt : (m : Int) < 256 ^ wd ↔ m < 256 ^ wd := by
        rw [show ((256 : Int) ^ wd) = ((256 ^ wd : Nat) : Int) by simp]
        omega
      have e1 : ((m : Int) / 2 ^ (8 * wd)) = ((m / 256 ^ wd : Nat) : Int) := by
        rw [show ((2 : Int) ^ (8 * wd)) = ((256 ^ wd : Nat) : Int) by rw [← pow8]; simp]
        simp
      by_cases hz : m < 256 ^ wd
      · have hd : m / 256 ^ wd = 0 := Nat.div_eq_of_lt hz
        refine (put_ok m wd w h (by omega) (by omega) (by rw [e1, hd]; rfl) hm).mono ?_
        rintro e w' ⟨rfl, hb⟩
        have ok : okPut (m : Int) (wd : Int) = true := by
          simp only [okPut, h, Bool.true_and, Int.toNat_natCast, Bool.and_eq_true, decide_eq_true_eq]
          exact ⟨by omega, hlt.2 hz⟩
        exact ⟨by simp [putS, putE, ok], hb⟩
      · have hd : m / 256 ^ wd ≠ 0 := by
          have := Nat.div_pos (Nat.le_of_not_lt hz) (Nat.pow_pos (by omega))
          omega
        refine (put_bad3 m wd w h (by omega) (by omega) (by omega) ?_).mono (bad ?_)
        · rw [show (8 * (wd : Int)).toNat = 8 * wd by omega, e1]
          simp only [bne_iff_ne, ne_eq]
          omega
        · have hf : ¬ ((m : Int) < 256 ^ wd) := fun c => hz (hlt.1 c)
          simp only [okPut, h, Bool.true_and, Int.toNat_natCast, Bool.and_eq_false_iff, decide_eq_false_iff_not]
          exact .inr hf
end Go.Proofs.YtpjafjnokgeifaaGreatDoor
end
section
namespace Go.Proofs.YtpjafjnokgeifaaGreatDoor
open Go.RowKit Go.Shelf
set_option linter.unusedVariables false
attribute [local go_sem] Oper.semAt_some

/-- A digit: its place, below 7, and its byte. -/
abbrev Dig := Fin 7 × UInt8
def encDig (x : Dig) : Array Value := #[.int .i64 (8 * (x.1.val : Int)), .int .i64 (x.2.toNat : Int)]

def digAt (l : List UInt8) (h : l.length ≤ 7) (k : Nat) (hk : k < l.length) : Dig := (⟨k, by omega⟩, l[k])
/-- The first k digits. -/
def digs (l : List UInt8) (h : l.length ≤ 7) : Nat → List Dig
  | 0 => []
  | k + 1 => digs l h k ++ (if hk : k < l.length then [digAt l h k hk] else [])
theorem digs_succ (l : List UInt8) (h : l.length ≤ 7) (k : Nat) (hk : k < l.length) : digs l h (k + 1) = digs l h k ++ [digAt l h k hk] := by
  simp [digs, hk]
theorem length_digs (l : List UInt8) (h : l.length ≤ 7) : ∀ k, k ≤ l.length → (digs l h k).length = k
  | 0, _ => rfl
  | k + 1, hk => by rw [digs_succ l h k (by omega)]; simp [length_digs l h k (by omega)]

/-- The cell of the box stays. -/
def BoxKept (b : Nat) (W W' : World) : Prop := W'.cell? ⟨b, 0, none⟩ = W.cell? ⟨b, 0, none⟩

set_option maxRecDepth 100000 in
set_option maxHeartbeats 1000000 in
theorem digits1_in (F : Fence) (n : Nat) (hF : F.fn 163) (hro : F.round = none) (hn : 1 ≤ n) (l Bs : Nat) (s : ByteArray) (hs : s.data.toList.length ≤ 7) (J Jx : List Dig → World → Prop)
    (hY : ∀ pre x W, J pre W → pre.length < s.size → YieldAt F (n - 1) Tryz.prog l (encDig x) W fun e W' =>
      (e = .returned (.bool true) ∧ J (pre ++ [x]) W' ∧ BoxKept Bs W W') ∨ (e = .returned (.bool false) ∧ Jx (pre ++ [x]) W'))
    (W : World) (hBs : W.cell? ⟨Bs, 0, none⟩ = some (.string s)) (h0 : J [] W) :
    CallsIn F n Tryz.prog 163 #[.func (.yield l) #[] #[], .pointer (some ⟨Bs, 0, none⟩)] W fun e W' => (∃ v, e = .returned v) ∧
      ((∃ ys, ys = digs s.data.toList hs s.size ∧ J ys W') ∨ (∃ pre, True ∧ Jx pre W')) := by
  have hsz : s.size ≤ 7 := by simpa using hs
  refine callsIn_of_wp Tryz.func163 rfl hF ?_ hro
  simp only [Tryz.ntmps163, List.size_toArray, List.length_cons, List.length_nil, Nat.reduceAdd, Nat.reduceSub, Array.replicate_succ, Array.replicate_zero, List.push_toArray, List.append_toArray, List.nil_append, List.cons_append]
  gi_wp2
  gi_loopw [6] (fun i wr => ∃ k : Nat, k ≤ s.size ∧ i = .int .i64 k ∧ J (digs s.data.toList hs k) wr ∧ wr.cell? ⟨Bs, 0, none⟩ = some (.string s))
    (fun i _ => s.size - (intOf i).toNat)
  case atStart => exact ⟨0, Nat.zero_le _, rfl, h0, hBs⟩
  case round =>
    obtain ⟨k, hk, rfl, hJs, hcx⟩ := hrel
    by_cases hlt : k < s.size
    · obtain ⟨fn, tmps, assign, body, hy, hR⟩ := hY _ (⟨k, by omega⟩, s[k]'hlt) wr hJs (by rw [length_digs _ _ _ (by simpa using hk)]; exact hlt)
      simp only [encDig] at hy
      have hbt : (s[k]'hlt).toNat < 256 := UInt8.toNat_lt _
      gi_wp2
      refine hR.mono ?_
      rintro e W3 (⟨rfl, hJ3, hk3⟩ | ⟨rfl, hJx3⟩)
      · have hc3 := hk3.trans hcx
        gi_wp2
        go_roundw
        case rel => exact ⟨k + 1, by omega, by go_num, by rw [digs_succ _ _ _ (by simpa using hlt)]; exact hJ3, hc3⟩
        case measure => simp [intOf]; omega
      · gi_wp2
        refine bodyPost_ret (results_none rfl _ _ _) rfl ?_
        exact ⟨⟨_, rfl⟩, .inr ⟨_, trivial, hJx3⟩⟩
    · obtain rfl : k = s.size := by omega
      gi_wp2
      go_end0
      exact ⟨⟨_, rfl⟩, .inl ⟨_, rfl, hJs⟩⟩
end Go.Proofs.YtpjafjnokgeifaaGreatDoor
end
section
namespace Go.Proofs.YtpjafjnokgeifaaGreatDoor
open Go.RowKit Go.Shelf
set_option linter.unusedVariables false
attribute [local go_sem] Oper.semAt_some

set_option maxHeartbeats 1000000 in
theorem digits_in (F : Fence) (n : Nat) (hF : F.fn 127) (hro : F.round = none) (s : ByteArray) (w : World) :
    CallsIn F n Tryz.prog 127 #[.string s] w fun e w' => e = .returned (.func (.func 163) #[] #[.pointer (some ⟨w.heap.size, 0, none⟩)]) ∧ w' = w.alloc (.cells #[.string s] 9) := by
  refine callsIn_of_wp Tryz.func127 rfl hF ?_ hro
  simp only [Tryz.ntmps127, List.size_toArray, List.length_cons, List.length_nil, Nat.reduceAdd, Nat.reduceSub, Array.replicate_succ, Array.replicate_zero, List.push_toArray, List.append_toArray, List.nil_append, List.cons_append]
  gi_wp2
  go_ret
  exact ⟨rfl, rfl⟩

theorem newCell (W : World) (v : Value) (t : TypeId) : (W.alloc (.cells #[v] t)).cell? ⟨W.heap.size, 0, none⟩ = some v ∧ (W.alloc (.cells #[v] t)).frozen? ⟨W.heap.size, 0, none⟩ = false :=
  ⟨by rw [World.cell?_alloc_new]; rfl, World.frozen?_alloc_new W _ _ _⟩
theorem oldCell {W : World} {a : Addr} {v : Value} (o : Obj) (h : W.cell? a = some v) : (W.alloc o).cell? a = some v :=
  cell_kept h (World.grownBy_alloc W o none) (fun r e => by cases e)
theorem oldFree {W : World} {a : Addr} {v : Value} (o : Obj) (h : W.cell? a = some v) (hf : W.frozen? a = false) : (W.alloc o).frozen? a = false :=
  (frozen_kept h (World.grownBy_alloc W o none) (fun r e => by cases e)).trans hf

/-- The digits, put together one by one. -/
def valOf (pre : List Dig) : Nat := pre.foldl (fun n x => n ||| (x.2.toNat <<< (8 * x.1.val))) 0
theorem valOf_snoc (pre : List Dig) (x : Dig) : valOf (pre ++ [x]) = valOf pre ||| (x.2.toNat <<< (8 * x.1.val)) := by simp [valOf]
theorem dig_lt (x : Dig) : x.2.toNat <<< (8 * x.1.val) < 2 ^ 56 := by
  have h1 := x.2.toNat_lt
  have h2 := x.1.isLt
  rw [Nat.shiftLeft_eq]
  calc x.2.toNat * 2 ^ (8 * x.1.val) < 2 ^ 8 * 2 ^ (8 * x.1.val) := Nat.mul_lt_mul_of_pos_right h1 (Nat.pow_pos (by omega))
    _ = 2 ^ (8 + 8 * x.1.val) := by rw [Nat.pow_add]
    _ ≤ 2 ^ 56 := Nat.pow_le_pow_right (by omega) (by omega)
theorem valOf_lt (pre : List Dig) : valOf pre < 2 ^ 56 := by
  have h : ∀ (pre : List Dig) (n : Nat), n < 2 ^ 56 → pre.foldl (fun n x => n ||| (x.2.toNat <<< (8 * x.1.val))) n < 2 ^ 56 := by
    intro pre
    induction pre with
    | nil => intro n hn; exact hn
    | cons x r ih => intro n hn; exact ih _ (Nat.or_lt_two_pow hn (dig_lt x))
  exact h pre 0 (by decide)

theorem i64_or_nat (a b : Nat) (ha : a < 2 ^ 56) (hb : b < 2 ^ 56) : bits .or .i64 (a : Int) (b : Int) = ((a ||| b : Nat) : Int) := by
  have hab : a ||| b < 2 ^ 56 := Nat.or_lt_two_pow ha hb
  have e1 : (BitVec.ofInt 64 (a : Int) ||| BitVec.ofInt 64 (b : Int)).toNat = a ||| b := by
    rw [BitVec.toNat_or, ofInt_u64 a (by omega), ofInt_u64 b (by omega)]
  show IntKind.i64.wrap (((BitVec.ofInt 64 (a : Int) ||| BitVec.ofInt 64 (b : Int)).toNat : Nat) : Int) = _
  rw [e1]
  exact IntWalk.i64_in _ (by omega)

theorem valOf_step (pre : List Dig) (x : Dig) :
    bits .or .i64 (valOf pre : Int) (IntKind.i64.wrap ((x.2.toNat : Int) * 2 ^ (8 * (x.1.val : Int)).toNat)) = (valOf (pre ++ [x]) : Int) := by
  have e : ((x.2.toNat : Int) * 2 ^ (8 * (x.1.val : Int)).toNat) = ((x.2.toNat <<< (8 * x.1.val) : Nat) : Int) := by
    rw [show (8 * (x.1.val : Int)).toNat = 8 * x.1.val by omega, Nat.shiftLeft_eq]
    simp
  have h := dig_lt x
  rw [valOf_snoc, e]
  generalize x.2.toNat <<< (8 * x.1.val) = q at h ⊢
  rw [IntWalk.i64_in _ (by omega), i64_or_nat _ _ (valOf_lt pre) h]

theorem boxKept_t (b : Nat) {A B C : World} (h : BoxKept b A B) (k : BoxKept b B C) : BoxKept b A C := k.trans h
theorem boxKept_put (b m : Nat) (hb : b < m) (W : World) (l : Nat) (o o' : Obj) (h : m ≤ l) (_ : W.heap[l]? = some o) (_ : o.isCells = false) (_ : o.isWalk = false) : BoxKept b W (W.putObj l o') := by
  refine World.cell?_of_block (w := W) ?_
  simp [World.putObj, Array.getElem?_setIfInBounds]
  omega

theorem digits_stops (F : Fence) (n : Nat) (hF : F.fn 163) (hro : F.round = none) (hn : 1 ≤ n) (Bs : Nat) (s : ByteArray) (hs : s.data.toList.length ≤ 7) (w : World) (hB : Bs < w.heap.size) (hBs : w.cell? ⟨Bs, 0, none⟩ = some (.string s)) :
    SeqStopsK F n Tryz.prog 163 #[.pointer (some ⟨Bs, 0, none⟩)] encDig (BoxKept Bs) (fun ys => ys = digs s.data.toList hs s.size) (fun _ => True) s.size w := fun l J Jx W hW _ _ hY h0 =>
  digits1_in F n hF hro hn l Bs s hs J Jx hY W ((hW.cell (p := ⟨Bs, 0, none⟩) hB).trans hBs) h0

theorem mixed : Tryz.prog.follows .mixedOrders = true := by kernel_rfl

set_option maxRecDepth 100000 in
set_option maxHeartbeats 1000000 in
theorem get_in (F : Fence) (n : Nat) (hF0 : F.fn 70) (hF1 : F.fn 127) (hF2 : F.fn 163) (hF3 : F.fn 126) (hw : F = Fence.wide) (hro : F.round = none) (hn : 3 ≤ n)
    (s : ByteArray) (at_ wd : Nat) (hs : s.size ≤ 1000000000) (h1 : 1 ≤ wd) (h7 : wd ≤ 7) (hfit : at_ + wd ≤ s.size) (w : World) (hwd : isWidthB (wd : Int) = true) (hcut : (s.extract at_ (at_ + wd)).data.toList.length ≤ 7) :
    CallsIn F n Tryz.prog 70 #[.string s, .int .i64 (at_ : Int), .int .i64 (wd : Int)] w fun e W' =>
      e = .returned (.tuple #[.int .i64 (valOf (digs (s.extract at_ (at_ + wd)).data.toList hcut (s.extract at_ (at_ + wd)).size) : Int), .int .i64 0]) ∧ Below w.heap.size w W' := by
  have hn1 : 1 ≤ n := by omega
  have hd0 : decide ((at_ : Int) < 0) = false := by simp
  have hd1 : decide ((s.size : Int) - (wd : Int) < (at_ : Int)) = false := by simp; omega
  refine callsIn_of_wp_marks Tryz.func70 rfl hF0 ?_ hro
  simp only [Tryz.ntmps70, List.size_toArray, List.length_cons, List.length_nil, Nat.reduceAdd, Nat.reduceSub, Array.replicate_succ, Array.replicate_zero, List.push_toArray, List.append_toArray, List.nil_append, List.cons_append]
  subst hw
  gi_wp2_with (first | (gi_at_call 126; refine (callsIn_wide.2 (isWidth_any _ _)).mono ?_; rintro e w' ⟨rfl, rfl⟩) | (gi_at_call 127; refine (digits_in Fence.wide (n - 1) hF1 hro _ _).mono ?_; rintro e w' ⟨rfl, rfl⟩))
  generalize s.extract at_ (at_ + wd) = c at hcut ⊢
  have cn := newCell w (.int .i64 0) 3
  have cb := newCell (w.alloc (.cells #[.int .i64 0] 3)) (.string c) 9
  rw [World.size_alloc] at cb
  have hB0 : Below w.heap.size w ((w.alloc (.cells #[.int .i64 0] 3)).alloc (.cells #[.string c] 9)) := ((Below.refl _ w).alloc (Nat.le_refl _) _).alloc (by simp) _
  refine wpIn_rangeFunc_ownF hro hn1 (gf := 163) (lb := #[.pointer (some ⟨w.heap.size + 1, 0, none⟩)]) rfl hF2 (enters_of Tryz.func163 (by kernel_rfl) rfl)
    (digits_stops Fence.wide (n - 1) hF2 hro (by omega) (w.heap.size + 1) c hcut _ (by simp) cb.1) (boxKept_t _) (boxKept_put _ _ (by simp)) (Below.refl _ _) (fun _ => rfl)
    (fun pre W => (W.cell? ⟨w.heap.size, 0, none⟩ = some (.int .i64 (valOf pre : Int)) ∧ W.frozen? ⟨w.heap.size, 0, none⟩ = false) ∧ Below w.heap.size w W)
    (fun _ _ _ => False)
    (OwnFrom.and (Own.from (fun s A B row hs hg hr => ⟨cell_kept hs.1 hg hr, (frozen_kept hs.1 hg hr).trans hs.2⟩) _) (ownFrom_below (Nat.le_refl _) (by simp; omega)))
    (fun _ _ _ _ _ hs _ _ => hs)
    ⟨⟨oldCell _ cn.1, oldFree _ cn.1 cn.2⟩, hB0⟩
    (fun x => { tmps := #[Value.string s, Value.int IntKind.i64 ↑at_, Value.int IntKind.i64 ↑wd, undef, undef, undef,
          Value.int IntKind.i64 0, Value.int IntKind.i64 0, Value.pointer (some { block := w.heap.size, off := 0 }),
          .int .i64 (8 * (x.1.val : Int)), .int .i64 (x.2.toNat : Int), Value.int IntKind.i64 ↑wd, Value.bool true, Value.bool false, Value.int IntKind.i64 ↑at_,
          Value.bool false, Value.bool false, Value.int IntKind.i64 ↑at_, Value.string s, Value.int IntKind.i64 ↑s.size,
          Value.int IntKind.i64 ↑wd, Value.int IntKind.i64 (↑s.size - ↑wd), Value.bool false, Value.bool false,
          Value.string s, Value.int IntKind.i64 ↑at_, Value.int IntKind.i64 ↑at_, Value.int IntKind.i64 ↑wd,
          Value.int IntKind.i64 (↑at_ + ↑wd), Value.string c,
          Value.func (Fn.func 163) #[] #[Value.pointer (some { block := w.heap.size + 1, off := 0 })], .int .i64 (8 * (x.1.val : Int)), .int .i64 (x.2.toNat : Int),
          undef, undef, undef, undef, undef, undef], defers := [] }) ?assign ?body ?done ?stop
  case assign =>
    intro l x W K hK
    simp only [encDig]
    gi_wp2
    exact hK
  case body =>
    rintro l pre x W ⟨⟨hc, hf⟩, hB⟩ _
    have hv := valOf_lt pre
    have hx1 := x.1.isLt
    have hx2 : x.2.toNat < 256 := x.2.toNat_lt
    clear cn cb hB0
    have hmix : Tryz.prog.follows .mixedOrders = true := mixed
    gi_wp2
    gi_region_with_o (fail)
    all_goals gi_wp2
    all_goals
      go_light
      rw [valOf_step]
      exact ⟨(KeepsOthers.setCell _ _ _).trans (KeepsOthers.drew _), World.cell?_setCell_other _ _ _ _ (by intro h; injection h; omega), ⟨World.cell?_setCell_same' _ _ _ (by rw [hc]; rfl), by rw [World.frozen?_drew, World.frozen?_setCell]; exact hf⟩, (hB.setCell (p := ⟨w.heap.size, 0, none⟩) (Nat.le_refl _) _).drew⟩
  case done =>
    rintro D ys W hD rfl ⟨⟨hc, _⟩, hB⟩ hK
    gi_wp2
    refine ⟨by simp, .inl ⟨_, _, rfl, run_takeDeferred hK, ?_⟩⟩
    exact ⟨_, results_tmp2 rfl _ _ _, rfl, hB.trans (belowK_b (w := w) (Nat.le_refl _) W D _ _ (by simp at hD; omega) hK rfl rfl)⟩
  case stop =>
    rintro D c pre W _ _ h _
    exact h.elim

/-- The number that bytes are, the lowest ones first. -/
def getN : List UInt8 → Nat
  | [] => 0
  | b :: r => b.toNat + 256 * getN r

theorem getN_lt : ∀ l : List UInt8, getN l < 256 ^ l.length
  | [] => by simp [getN]
  | b :: r => by
    have h := getN_lt r
    have hb := b.toNat_lt
    simp only [getN, List.length_cons, Nat.pow_succ]
    omega

theorem getN_append : ∀ a b : List UInt8, getN (a ++ b) = getN a + 256 ^ a.length * getN b
  | [], b => by simp [getN]
  | x :: a, b => by
    simp only [List.cons_append, getN, getN_append a b, List.length_cons, Nat.pow_succ, Nat.mul_add]
    rw [show 256 ^ a.length * 256 * getN b = 256 * (256 ^ a.length * getN b) by rw [Nat.mul_comm (256 ^ a.length) 256, Nat.mul_assoc]]
    omega

theorem valOf_digs (l : List UInt8) (h : l.length ≤ 7) : ∀ k, k ≤ l.length → valOf (digs l h k) = getN (l.take k)
  | 0, _ => rfl
  | k + 1, hk => by
    have ih := valOf_digs l h k (by omega)
    have hlt := getN_lt (l.take k)
    rw [digs_succ l h k (by omega), valOf_snoc, ih, List.take_succ_eq_append_getElem (by omega), getN_append]
    have hl : (l.take k).length = k := by simp; omega
    rw [hl] at hlt ⊢
    simp only [digAt, getN, Nat.mul_zero, Nat.add_zero]
    rw [Nat.shiftLeft_eq, Nat.or_comm, nat_join (8 * k) _ _ (by simp) (by rw [pow8]; exact hlt), pow8, Nat.mul_comm (l[k].toNat)]
    omega

def okGet (s : ByteArray) (at_ wd : Int) : Bool := decide (0 ≤ at_) && decide (at_ ≤ (s.size : Int) - wd)
def getV (s : ByteArray) (at_ wd : Int) : Int := if isWidthB wd = true ∧ okGet s at_ wd = true then (getN ((s.data.toList.drop at_.toNat).take wd.toNat) : Int) else 0
def getE (s : ByteArray) (at_ wd : Int) : Int := if isWidthB wd = true then (if okGet s at_ wd = true then 0 else 2) else 1

set_option maxHeartbeats 400000 in
theorem get_bad1 (s : ByteArray) (at_ wd : Int) (w : World) (h : isWidthB wd = false) :
    Calls Tryz.prog 70 #[.string s, .int .i64 at_, .int .i64 wd] w fun e w' => e = .returned (.tuple #[.int .i64 0, .int .i64 1]) ∧ w = w' := by
  go_enter Tryz.func70, Tryz.ntmps70
  go_wp2_with (go_at_call 126; refine (isWidth_any _ _).mono ?_; rintro e w' ⟨rfl, rfl⟩)
  go_ret2
  exact ⟨rfl, rfl⟩
set_option maxHeartbeats 400000 in
theorem get_bad2 (s : ByteArray) (at_ wd : Int) (w : World) (h : isWidthB wd = true) (ha : at_ < 0) :
    Calls Tryz.prog 70 #[.string s, .int .i64 at_, .int .i64 wd] w fun e w' => e = .returned (.tuple #[.int .i64 0, .int .i64 2]) ∧ w = w' := by
  go_enter Tryz.func70, Tryz.ntmps70
  go_wp2_with (go_at_call 126; refine (isWidth_any _ _).mono ?_; rintro e w' ⟨rfl, rfl⟩)
  go_ret2
  exact ⟨rfl, rfl⟩
set_option maxHeartbeats 400000 in
theorem get_bad3 (s : ByteArray) (at_ wd : Int) (w : World) (hs : s.size ≤ 1000000000) (h : isWidthB wd = true) (h1 : 1 ≤ wd) (h7 : wd ≤ 7) (ha : 0 ≤ at_) (hb : (s.size : Int) - wd < at_) :
    Calls Tryz.prog 70 #[.string s, .int .i64 at_, .int .i64 wd] w fun e w' => e = .returned (.tuple #[.int .i64 0, .int .i64 2]) ∧ w = w' := by
  have ha' : decide (at_ < 0) = false := by simp; omega
  go_enter Tryz.func70, Tryz.ntmps70
  go_wp2_with (go_at_call 126; refine (isWidth_any _ _).mono ?_; rintro e w' ⟨rfl, rfl⟩)
  go_ret2
  exact ⟨rfl, rfl⟩

theorem get_any (s : ByteArray) (at_ wd : Int) (w : World) (hs : s.size ≤ 1000000000) :
    Calls Tryz.prog 70 #[.string s, .int .i64 at_, .int .i64 wd] w fun e w' => e = .returned (.tuple #[.int .i64 (getV s at_ wd), .int .i64 (getE s at_ wd)]) ∧ Below w.heap.size w w' := by
  cases h : isWidthB wd with
  | false =>
    refine (get_bad1 s at_ wd w h).mono ?_
    rintro e w' ⟨rfl, rfl⟩
    exact ⟨by simp [getV, getE, h], Below.refl _ _⟩
  | true =>
    have hwd : 1 ≤ wd ∧ wd ≤ 7 := by simpa [isWidthB] using h
    by_cases ha : at_ < 0
    · refine (get_bad2 s at_ wd w h ha).mono ?_
      rintro e w' ⟨rfl, rfl⟩
      have ok : okGet s at_ wd = false := by simp [okGet]; omega
      exact ⟨by simp [getV, getE, h, ok], Below.refl _ _⟩
    · by_cases hb : (s.size : Int) - wd < at_
      · refine (get_bad3 s at_ wd w hs h hwd.1 hwd.2 (by omega) hb).mono ?_
        rintro e w' ⟨rfl, rfl⟩
        have ok : okGet s at_ wd = false := by simp [okGet]; omega
        exact ⟨by simp [getV, getE, h, ok], Below.refl _ _⟩
      · have ok : okGet s at_ wd = true := by simp [okGet]; omega
        obtain ⟨a, rfl⟩ := Int.eq_ofNat_of_zero_le (show 0 ≤ at_ by omega)
        obtain ⟨b, rfl⟩ := Int.eq_ofNat_of_zero_le (show 0 ≤ wd by omega)
        have e1 : (s.extract a (a + b)).data.toList = (s.data.toList.drop a).take b := by
          rw [ByteArray.data_extract, Array.toList_extract, List.extract_eq_take_drop]
          simp
        have e2 : (s.extract a (a + b)).data.toList.length = b := by rw [e1]; simp; omega
        have e3 : (s.extract a (a + b)).size = b := by have h : (s.extract a (a + b)).size = (s.extract a (a + b)).data.toList.length := by rw [Array.length_toList]; rfl
                                                       rw [h, e2]
        refine (callsIn_wide.1 (get_in Fence.wide 3 trivial trivial trivial trivial rfl rfl (by omega) s a b hs (by omega) (by omega) (by omega) w h (by omega))).mono ?_
        rintro e w' ⟨rfl, hbel⟩
        refine ⟨?_, hbel⟩
        have e4 := valOf_digs (s.extract a (a + b)).data.toList (by omega) (s.extract a (a + b)).size (by omega)
        rw [e4]
        simp only [getV, getE, h, ok, Int.toNat_natCast, if_true, and_self]
        rw [e3, e1, List.take_of_length_le (by rw [List.length_take]; omega)]
end Go.Proofs.YtpjafjnokgeifaaGreatDoor
end
section
namespace Go.Proofs.YtpjafjnokgeifaaGreatDoor
set_option linter.unusedVariables false

theorem not_and8 (x y : UInt8) : ~~~(x &&& y) = ~~~x ||| ~~~y := by
  apply UInt8.toBitVec_inj.1
  simp only [UInt8.toBitVec_not, UInt8.toBitVec_and, UInt8.toBitVec_or]
  exact BitVec.not_and
theorem not_or8 (x y : UInt8) : ~~~(x ||| y) = ~~~x &&& ~~~y := by
  apply UInt8.toBitVec_inj.1
  simp only [UInt8.toBitVec_not, UInt8.toBitVec_and, UInt8.toBitVec_or]
  exact BitVec.not_or
theorem notL_notL (l : List UInt8) : notL (notL l) = l := by
  simp [notL, Function.comp_def]
theorem pairL_twice (f : UInt8 → UInt8 → UInt8) (h : ∀ x y, f (f x y) y = x) : ∀ a b, pairL f (pairL f a b) b = a
  | [], _ => rfl
  | x :: r, [] => rfl
  | x :: r, y :: q => by simp [pairL, h, pairL_twice f h r q]
theorem pairL_self (f : UInt8 → UInt8 → UInt8) (h : ∀ x, f x x = x) : ∀ a, pairL f a a = a
  | [] => rfl
  | x :: r => by simp [pairL, h, pairL_self f h r]
theorem pairL_comm (f : UInt8 → UInt8 → UInt8) (h : ∀ x y, f x y = f y x) : ∀ a b, a.length = b.length → pairL f a b = pairL f b a
  | [], [], _ => rfl
  | x :: r, y :: q, e => by simp only [pairL]; rw [h x y, pairL_comm f h r q (by simpa using e)]
theorem notL_pairL (f g : UInt8 → UInt8 → UInt8) (h : ∀ x y, ~~~(f x y) = g (~~~x) (~~~y)) : ∀ a b, a.length = b.length → notL (pairL f a b) = pairL g (notL a) (notL b)
  | [], [], _ => rfl
  | x :: r, y :: q, e => by
    have := notL_pairL f g h r q (by simpa using e)
    simp only [notL, pairL, List.map_cons] at this ⊢
    rw [this, h]
theorem pairL_append (f : UInt8 → UInt8 → UInt8) : ∀ a b c d, a.length = b.length → pairL f (a ++ c) (b ++ d) = pairL f a b ++ pairL f c d
  | [], [], c, d, _ => rfl
  | x :: r, y :: q, c, d, e => by simp [pairL, pairL_append f r q c d (by simpa using e)]
theorem notL_append (a b : List UInt8) : notL (a ++ b) = notL a ++ notL b := by simp [notL]
theorem absorb (f g : UInt8 → UInt8 → UInt8) (h : ∀ x y, f x (g x y) = x) : ∀ a b, a.length = b.length → pairL f a (pairL g a b) = a
  | [], [], _ => rfl
  | x :: r, y :: q, e => by simp [pairL, h, absorb f g h r q (by simpa using e)]
theorem distr (f g : UInt8 → UInt8 → UInt8) (h : ∀ x y z, f x (g y z) = g (f x y) (f x z)) : ∀ a b c, a.length = b.length → a.length = c.length → pairL f a (pairL g b c) = pairL g (pairL f a b) (pairL f a c)
  | [], [], [], _, _ => rfl
  | x :: r, y :: q, z :: s, e1, e2 => by simp [pairL, h, distr f g h r q s (by simpa using e1) (by simpa using e2)]

theorem pop_bits (x : UInt8) : popB x = (x.toNat.testBit 0).toNat + (x.toNat.testBit 1).toNat + (x.toNat.testBit 2).toNat + (x.toNat.testBit 3).toNat + (x.toNat.testBit 4).toNat + (x.toNat.testBit 5).toNat + (x.toNat.testBit 6).toNat + (x.toNat.testBit 7).toNat := by
  have h : ∀ n : Fin 256, Lib.onesCount n.val = (n.val.testBit 0).toNat + (n.val.testBit 1).toNat + (n.val.testBit 2).toNat + (n.val.testBit 3).toNat + (n.val.testBit 4).toNat + (n.val.testBit 5).toNat + (n.val.testBit 6).toNat + (n.val.testBit 7).toNat := by decide +kernel
  exact h ⟨x.toNat, x.toNat_lt⟩
theorem bool_and_or (a b : Bool) : (a && b).toNat + (a || b).toNat = a.toNat + b.toNat := by cases a <;> cases b <;> rfl
theorem bool_xor (a b : Bool) : (a ^^ b).toNat + (a && b).toNat = (a || b).toNat := by cases a <;> cases b <;> rfl
theorem pop_and_or (x y : UInt8) : popB (x &&& y) + popB (x ||| y) = popB x + popB y := by
  simp only [pop_bits, UInt8.toNat_and, UInt8.toNat_or, Nat.testBit_and, Nat.testBit_or]
  have := fun i => bool_and_or (x.toNat.testBit i) (y.toNat.testBit i)
  have h0 := this 0; have h1 := this 1; have h2 := this 2; have h3 := this 3; have h4 := this 4; have h5 := this 5; have h6 := this 6; have h7 := this 7
  omega
theorem pop_xor (x y : UInt8) : popB (x ^^^ y) + popB (x &&& y) = popB (x ||| y) := by
  simp only [pop_bits, UInt8.toNat_and, UInt8.toNat_or, UInt8.toNat_xor, Nat.testBit_and, Nat.testBit_or, Nat.testBit_xor]
  have := fun i => bool_xor (x.toNat.testBit i) (y.toNat.testBit i)
  have h0 := this 0; have h1 := this 1; have h2 := this 2; have h3 := this 3; have h4 := this 4; have h5 := this 5; have h6 := this 6; have h7 := this 7
  omega
theorem pop_not (x : UInt8) : popB x + popB (~~~x) = 8 := by
  have h : ∀ n : Fin 256, Lib.onesCount n.val + Lib.onesCount (255 - n.val) = 8 := by decide +kernel
  have := h ⟨x.toNat, x.toNat_lt⟩
  have e : (~~~x).toNat = 255 - x.toNat := by rw [UInt8.toNat_not]; simp only [UInt8.size]
  unfold popB
  rw [e]
  exact this
theorem count_and_or : ∀ a b : List UInt8, a.length = b.length → countL (pairL (· &&& ·) a b) + countL (pairL (· ||| ·) a b) = countL a + countL b
  | [], [], _ => rfl
  | x :: r, y :: q, e => by
    have := count_and_or r q (by simpa using e)
    have h := pop_and_or x y
    simp only [pairL, countL]
    omega
theorem count_xor : ∀ a b : List UInt8, a.length = b.length → countL (pairL (· ^^^ ·) a b) + countL (pairL (· &&& ·) a b) = countL (pairL (· ||| ·) a b)
  | [], [], _ => rfl
  | x :: r, y :: q, e => by
    have := count_xor r q (by simpa using e)
    have h := pop_xor x y
    simp only [pairL, countL]
    omega
theorem count_not : ∀ a : List UInt8, countL a + countL (notL a) = 8 * a.length
  | [] => rfl
  | x :: r => by
    have := count_not r
    have h := pop_not x
    simp only [notL, List.map_cons, countL, List.length_cons] at this ⊢
    omega
theorem count_ones (n : Nat) : countL (List.replicate n 255) = 8 * n := by
  induction n with
  | zero => rfl
  | succ n ih =>
    have h : popB 255 = 8 := by decide +kernel
    simp only [List.replicate_succ, countL, ih, h]
    omega
end Go.Proofs.YtpjafjnokgeifaaGreatDoor
end
section
namespace Go.Proofs.YtpjafjnokgeifaaGreatDoor
open Go.RowKit
set_option linter.unusedVariables false

theorem str_eta (a : ByteArray) : a = ⟨a.data.toList.toArray⟩ := by cases a; simp
theorem size_mk (l : List UInt8) : (ByteArray.mk l.toArray).size = l.length := by simp [ByteArray.size]

theorem and_l (a b : List UInt8) (w : World) (ha : a.length ≤ 1000000000) (hb : b.length ≤ 1000000000) :
    Calls Tryz.prog 187 #[.string ⟨a.toArray⟩, .string ⟨b.toArray⟩] w fun e w' => e = .returned (.string ⟨(pairL (· &&& ·) a b).toArray⟩) ∧ Below w.heap.size w w' :=
  and_any _ _ w (by rw [size_mk]; exact ha) (by rw [size_mk]; exact hb)
theorem xor_l (a b : List UInt8) (w : World) (ha : a.length ≤ 1000000000) (hb : b.length ≤ 1000000000) :
    Calls Tryz.prog 186 #[.string ⟨a.toArray⟩, .string ⟨b.toArray⟩] w fun e w' => e = .returned (.string ⟨(pairL (· ^^^ ·) a b).toArray⟩) ∧ Below w.heap.size w w' :=
  xor_any _ _ w (by rw [size_mk]; exact ha) (by rw [size_mk]; exact hb)
theorem not_l (a : List UInt8) (w : World) (ha : a.length ≤ 1000000000) :
    Calls Tryz.prog 99 #[.string ⟨a.toArray⟩] w fun e w' => e = .returned (.string ⟨(notL a).toArray⟩) ∧ Below w.heap.size w w' :=
  not_any _ w (by rw [size_mk]; exact ha)
end Go.Proofs.YtpjafjnokgeifaaGreatDoor
end
section
namespace Go.Proofs.YtpjafjnokgeifaaGreatDoor
open Go.RowKit
set_option linter.unusedVariables false
set_option linter.unusedSimpArgs false

/-- A fact that the walk does not look at. -/
structure Kept (p : Prop) : Prop where
  out : p
/-- A slice of just these cells. -/
def isCells (cs : List Value) : VP := fun v w => (v = .slice none 0 0 ∧ cs = []) ∨ (∃ a cap, v = .slice (some a) 0 cap ∧ cs = []) ∨
  ∃ b off cap, v = .slice (some ⟨b, off, none⟩) cs.length cap ∧ b < w.heap.size ∧ ∀ (j : Nat) (x : Value), cs[j]? = some x → w.cell? ⟨b, off + j, none⟩ = some x
theorem stable_cells (cs : List Value) : Stable (isCells cs) := by
  intro v w w' h hb
  rcases h with h | h | ⟨b, off, cap, e, hlt, hc⟩
  · exact .inl h
  · exact .inr (.inl h)
  · exact .inr (.inr ⟨b, off, cap, e, Nat.lt_of_lt_of_le hlt hb.size, fun j x hx => (hb.cell (p := ⟨b, off + j, none⟩) hlt).trans (hc j x hx)⟩)
theorem isCells.len {cs : List Value} {v : Value} {w : World} (h : isCells cs v w) : ∃ a cap, v = .slice a cs.length cap := by
  rcases h with ⟨rfl, rfl⟩ | ⟨a, cap, rfl, rfl⟩ | ⟨b, off, cap, rfl, _⟩
  · exact ⟨_, _, rfl⟩
  · exact ⟨_, _, rfl⟩
  · exact ⟨_, _, rfl⟩
theorem isCells.some_ {cs : List Value} {v : Value} {w : World} (h : isCells cs v w) (h0 : 0 < cs.length) : ∃ b off cap, v = .slice (some ⟨b, off, none⟩) cs.length cap ∧ b < w.heap.size ∧ ∀ (j : Nat) (x : Value), cs[j]? = some x → w.cell? ⟨b, off + j, none⟩ = some x := by
  rcases h with ⟨rfl, rfl⟩ | ⟨a, cap, rfl, rfl⟩ | h
  · simp at h0
  · simp at h0
  · exact h
theorem isCells_own {w : World} {B : Nat} {e : TypeId} {v : Value} {n : Nat} {cs : List Value} (h : w.ownsRow B e 1 v n cs) : isCells cs v w := by
  obtain ⟨hl, h | ⟨g, cap, cur, rfl, hB, hg, hn, _, hs, ht⟩⟩ := h
  · obtain ⟨rfl, rfl⟩ := h
    exact .inl ⟨rfl, List.eq_nil_of_length_eq_zero (by simpa using hl)⟩
  · rw [Nat.mul_one] at hl
    subst hl
    refine .inr (.inr ⟨g, 0, cap, rfl, (Array.getElem?_eq_some_iff.1 hg).1, fun j x hx => ?_⟩)
    have hj := (List.getElem?_eq_some_iff.1 hx).1
    rw [← ht] at hx
    rw [Nat.mul_one, List.getElem?_take, if_pos hj] at hx
    simp only [World.cell?, hg]
    simpa using hx

def strC (l : List UInt8) : Value := .string ⟨l.toArray⟩
def intC (n : Int) : Value := .int .i64 n
theorem get_map {α : Type} (f : α → Value) (l : List α) (j : Nat) (h : j < l.length) : (l.map f)[j]? = some (f l[j]) := by simp [h]

/-- A device. -/
structure Fl where
  pages : List (List UInt8)
  wear : List Int
  fuse : Int
  torn : List UInt8
  dead : Bool
def isFl (F : Fl) : VP := fun v w => ∃ vp vw, v = .agg #[vp, vw, .int .i64 F.fuse, strC F.torn, .bool F.dead] ∧ isCells (F.pages.map strC) vp w ∧ isCells (F.wear.map intC) vw w
theorem stable_fl (F : Fl) : Stable (isFl F) := fun v w w' ⟨vp, vw, e, hp, hw⟩ hb => ⟨vp, vw, e, stable_cells _ _ _ _ hp hb, stable_cells _ _ _ _ hw hb⟩

theorem isPages_any (n : Int) (w : World) :
    Calls Tryz.prog 86 #[.int .i64 n] w fun e w' => e = .returned (.bool (decide (1 ≤ n) && decide (n ≤ 6))) ∧ w = w' := by
  by_cases h1 : 1 ≤ n
  · have h1' : decide (1 ≤ n) = true := by simpa using h1
    go_enter Tryz.func86, Tryz.ntmps86
    go_wp2
    go_ret
    exact ⟨by simp [h1], rfl⟩
  · have h1' : decide (1 ≤ n) = false := by simpa using h1
    go_enter Tryz.func86, Tryz.ntmps86
    go_wp2
    go_ret
    exact ⟨by simp [h1], rfl⟩
theorem isSize_any (n : Int) (w : World) :
    Calls Tryz.prog 87 #[.int .i64 n] w fun e w' => e = .returned (.bool (decide (1 ≤ n) && decide (n ≤ 8192))) ∧ w = w' := by
  by_cases h1 : 1 ≤ n
  · have h1' : decide (1 ≤ n) = true := by simpa using h1
    go_enter Tryz.func87, Tryz.ntmps87
    go_wp2
    go_ret
    exact ⟨by simp [h1], rfl⟩
  · have h1' : decide (1 ≤ n) = false := by simpa using h1
    go_enter Tryz.func87, Tryz.ntmps87
    go_wp2
    go_ret
    exact ⟨by simp [h1], rfl⟩
theorem stands_any (s : List UInt8) (at_ size : Int) (w : World) (hs : s.length ≤ 1000000000) (h2 : -1000000000000 ≤ size) (h3 : size ≤ 1000000000000) :
    Calls Tryz.prog 256 #[.string ⟨s.toArray⟩, .int .i64 at_, .int .i64 size] w fun e w' => e = .returned (.bool (decide (0 ≤ at_) && decide (at_ ≤ size - s.length))) ∧ w = w' := by
  have hsz : (⟨s.toArray⟩ : ByteArray).size = s.length := size_mk s
  by_cases h1 : 0 ≤ at_
  · have h1' : decide (0 ≤ at_) = true := by simpa using h1
    go_enter Tryz.func256, Tryz.ntmps256
    go_wp2
    go_ret
    exact ⟨by simp [h1], rfl⟩
  · have h1' : decide (0 ≤ at_) = false := by simpa using h1
    go_enter Tryz.func256, Tryz.ntmps256
    go_wp2
    go_ret
    exact ⟨by simp [h1], rfl⟩

/-- The place of the first one, or -1. -/
def firstAt (p : Value → Bool) (cs : List Value) : Int := match cs.findIdx? p with | some i => (i : Int) | none => -1
end Go.Proofs.YtpjafjnokgeifaaGreatDoor
end
section
namespace Go.Proofs.YtpjafjnokgeifaaGreatDoor
open Go.RowKit
set_option linter.unusedVariables false
set_option linter.unusedSimpArgs false

theorem firstAt_some (p : Value → Bool) (cs : List Value) (k : Nat) (x : Value) (h : cs[k]? = some x) (hp : p x = true) (hb : ∀ (j : Nat) (y : Value), j < k → cs[j]? = some y → p y = false) : firstAt p cs = (k : Int) := by
  obtain ⟨hk, hx⟩ := List.getElem?_eq_some_iff.1 h
  have : cs.findIdx? p = some k := by
    rw [List.findIdx?_eq_some_iff_getElem]
    refine ⟨hk, by rw [hx]; exact hp, fun j hj => ?_⟩
    rw [hb j cs[j] hj (List.getElem?_eq_getElem _)]; simp
  unfold firstAt
  rw [this]
theorem firstAt_none (p : Value → Bool) (cs : List Value) (hb : ∀ (j : Nat) (y : Value), cs[j]? = some y → p y = false) : firstAt p cs = -1 := by
  have : cs.findIdx? p = none := by
    rw [List.findIdx?_eq_none_iff]
    intro x hx
    obtain ⟨j, hj⟩ := List.getElem?_of_mem hx
    exact hb j x hj
  unfold firstAt
  rw [this]
theorem firstAt_any (p : Value → Bool) (cs : List Value) : decide (0 ≤ firstAt p cs) = cs.any p := by
  unfold firstAt
  cases h : cs.findIdx? p with
  | none =>
    rw [List.findIdx?_eq_none_iff] at h
    show decide ((0 : Int) ≤ -1) = _
    rw [decide_eq_false (by omega)]
    symm
    rw [List.any_eq_false]
    intro x hx
    rw [h x hx]; simp
  | some k =>
    rw [List.findIdx?_eq_some_iff_getElem] at h
    obtain ⟨hk, hp, _⟩ := h
    show decide ((0 : Int) ≤ (k : Int)) = _
    rw [decide_eq_true (by omega)]
    symm
    rw [List.any_eq_true]
    exact ⟨cs[k], List.getElem_mem _, hp⟩

set_option maxRecDepth 20000 in
set_option maxHeartbeats 400000 in
theorem index_s (p : Value → Bool) (g : Nat) (caps : Array Value) (hent : Enters Tryz.prog g) (cs : List Value) (v : Value) (w : World) (hv : isCells cs v w) (hlen : cs.length ≤ 140737488355328)
    (HF0 : ∀ x ∈ cs, Calls Tryz.prog g (#[x] ++ caps) w fun e w' => e = .returned (.bool (p x)) ∧ w = w') :
    Calls Tryz.prog 216 #[v, .func (.func g) #[] caps] w fun e w' => e = .returned (.int .i64 (firstAt p cs)) ∧ w = w' := by
  have HF := Lib.hid HF0
  clear HF0
  obtain ⟨a, cap, rfl⟩ := hv.len
  have HV := Lib.hid hv
  clear hv
  go_enter Tryz.func216, Tryz.ntmps216
  go_wp2
  go_loop [8] (fun i => ∃ k : Nat, k ≤ cs.length ∧ i = .int .i64 k ∧ Hid (∀ (j : Nat) (y : Value), j < k → cs[j]? = some y → p y = false)) (fun i => cs.length - (intOf i).toNat)
  case atStart => exact ⟨0, Nat.zero_le _, rfl, Lib.hid (fun j y hj => absurd hj (by omega))⟩
  case round =>
    obtain ⟨k, hk, rfl, HB⟩ := hrel
    by_cases hlt : k < cs.length
    · obtain ⟨b, off, cap', hs, hb, hc⟩ := HV.out.some_ (by omega)
      injection hs with h1 h2 h3
      subst h1 h3
      obtain ⟨x, hx⟩ : ∃ x, cs[k]? = some x := ⟨_, List.getElem?_eq_getElem hlt⟩
      have hcell := hc k x hx
      have HC := Lib.hid hc
      have HX := Lib.hid hx
      clear hc hx
      go_wp2_with fail
      rw [hent]
      simp only [Oper.upon]
      refine (HF.out x (List.mem_of_getElem? HX.out)).mono ?_
      rintro e w' ⟨rfl, rfl⟩
      cases hp : p x with
      | true =>
        go_wp2
        go_ret
        exact ⟨ret_int (firstAt_some p cs k x HX.out hp HB.out).symm, rfl⟩
      | false =>
        go_wp2
        go_round
        case rel =>
          refine ⟨k + 1, by omega, by go_num, Lib.hid ?_⟩
          intro j y hj hy
          by_cases e : j = k
          · subst e; rw [HX.out] at hy; injection hy with hy; rw [← hy]; exact hp
          · exact HB.out j y (by omega) hy
        case measure => simp [intOf]; omega
    · go_wp2
      go_ret
      exact ⟨ret_int (firstAt_none p cs (fun j y hy => HB.out j y (by have := (List.getElem?_eq_some_iff.1 hy).1; omega) hy)).symm, rfl⟩

set_option maxHeartbeats 400000 in
theorem contains_s (p : Value → Bool) (g : Nat) (caps : Array Value) (hent : Enters Tryz.prog g) (cs : List Value) (v : Value) (w : World) (hv : isCells cs v w) (hlen : cs.length ≤ 140737488355328)
    (HF0 : ∀ x ∈ cs, Calls Tryz.prog g (#[x] ++ caps) w fun e w' => e = .returned (.bool (p x)) ∧ w = w') :
    Calls Tryz.prog 201 #[v, .func (.func g) #[] caps] w fun e w' => e = .returned (.bool (cs.any p)) ∧ w = w' := by
  have H := Lib.hid (firstAt_any p cs)
  have HF := Lib.hid HF0
  have HV := Lib.hid hv
  clear HF0 hv
  go_enter Tryz.func201, Tryz.ntmps201
  go_wp2_with fail
  refine (index_s p g caps hent cs v _ HV.out hlen HF.out).mono ?_
  rintro e w' ⟨rfl, rfl⟩
  go_wp2
  go_ret
  exact ⟨by rw [← H.out]; rfl, rfl⟩

set_option maxRecDepth 20000 in
set_option maxHeartbeats 400000 in
theorem index_i (p : Value → Bool) (g : Nat) (caps : Array Value) (hent : Enters Tryz.prog g) (cs : List Value) (v : Value) (w : World) (hv : isCells cs v w) (hlen : cs.length ≤ 140737488355328)
    (HF0 : ∀ x ∈ cs, Calls Tryz.prog g (#[x] ++ caps) w fun e w' => e = .returned (.bool (p x)) ∧ w = w') :
    Calls Tryz.prog 217 #[v, .func (.func g) #[] caps] w fun e w' => e = .returned (.int .i64 (firstAt p cs)) ∧ w = w' := by
  have HF := Lib.hid HF0
  clear HF0
  obtain ⟨a, cap, rfl⟩ := hv.len
  have HV := Lib.hid hv
  clear hv
  go_enter Tryz.func217, Tryz.ntmps217
  go_wp2
  go_loop [8] (fun i => ∃ k : Nat, k ≤ cs.length ∧ i = .int .i64 k ∧ Hid (∀ (j : Nat) (y : Value), j < k → cs[j]? = some y → p y = false)) (fun i => cs.length - (intOf i).toNat)
  case atStart => exact ⟨0, Nat.zero_le _, rfl, Lib.hid (fun j y hj => absurd hj (by omega))⟩
  case round =>
    obtain ⟨k, hk, rfl, HB⟩ := hrel
    by_cases hlt : k < cs.length
    · obtain ⟨b, off, cap', hs, hb, hc⟩ := HV.out.some_ (by omega)
      injection hs with h1 h2 h3
      subst h1 h3
      obtain ⟨x, hx⟩ : ∃ x, cs[k]? = some x := ⟨_, List.getElem?_eq_getElem hlt⟩
      have hcell := hc k x hx
      have HC := Lib.hid hc
      have HX := Lib.hid hx
      clear hc hx
      go_wp2_with fail
      rw [hent]
      simp only [Oper.upon]
      refine (HF.out x (List.mem_of_getElem? HX.out)).mono ?_
      rintro e w' ⟨rfl, rfl⟩
      cases hp : p x with
      | true =>
        go_wp2
        go_ret
        exact ⟨ret_int (firstAt_some p cs k x HX.out hp HB.out).symm, rfl⟩
      | false =>
        go_wp2
        go_round
        case rel =>
          refine ⟨k + 1, by omega, by go_num, Lib.hid ?_⟩
          intro j y hj hy
          by_cases e : j = k
          · subst e; rw [HX.out] at hy; injection hy with hy; rw [← hy]; exact hp
          · exact HB.out j y (by omega) hy
        case measure => simp [intOf]; omega
    · go_wp2
      go_ret
      exact ⟨ret_int (firstAt_none p cs (fun j y hy => HB.out j y (by have := (List.getElem?_eq_some_iff.1 hy).1; omega) hy)).symm, rfl⟩

set_option maxHeartbeats 400000 in
theorem contains_i (p : Value → Bool) (g : Nat) (caps : Array Value) (hent : Enters Tryz.prog g) (cs : List Value) (v : Value) (w : World) (hv : isCells cs v w) (hlen : cs.length ≤ 140737488355328)
    (HF0 : ∀ x ∈ cs, Calls Tryz.prog g (#[x] ++ caps) w fun e w' => e = .returned (.bool (p x)) ∧ w = w') :
    Calls Tryz.prog 203 #[v, .func (.func g) #[] caps] w fun e w' => e = .returned (.bool (cs.any p)) ∧ w = w' := by
  have H := Lib.hid (firstAt_any p cs)
  have HF := Lib.hid HF0
  have HV := Lib.hid hv
  clear HF0 hv
  go_enter Tryz.func203, Tryz.ntmps203
  go_wp2_with fail
  refine (index_i p g caps hent cs v _ HV.out hlen HF.out).mono ?_
  rintro e w' ⟨rfl, rfl⟩
  go_wp2
  go_ret
  exact ⟨by rw [← H.out]; rfl, rfl⟩

end Go.Proofs.YtpjafjnokgeifaaGreatDoor
end
section
namespace Go.Proofs.YtpjafjnokgeifaaGreatDoor
open Go.RowKit
set_option linter.unusedVariables false
set_option linter.unusedSimpArgs false

def oneSize (pages : List (List UInt8)) : Bool := decide (1 ≤ ((pages.headD []).length : Int)) && decide (((pages.headD []).length : Int) ≤ 8192) && pages.all fun p => decide (p.length = (pages.headD []).length)
def okWear (wear : List Int) (n : Nat) : Bool := decide (wear.length = n) && wear.all fun x => decide (0 ≤ x) && decide (x ≤ 2147483647)
def mayB (F : Fl) : Bool := decide (1 ≤ (F.pages.length : Int)) && decide ((F.pages.length : Int) ≤ 6) && oneSize F.pages && okWear F.wear F.pages.length && decide ((F.torn.length : Int) ≤ 64)
def checkE (F : Fl) : Int := if mayB F then 0 else 1
def hasB (F : Fl) (n : Int) : Bool := mayB F && decide (0 ≤ n) && decide (n < F.pages.length)

/-- A block of five cells. -/
def Cells5 (w : World) (g : Nat) (v0 v1 v2 v3 v4 : Value) : Prop := g < w.heap.size ∧ w.cell? ⟨g, 0, none⟩ = some v0 ∧ w.cell? ⟨g, 1, none⟩ = some v1 ∧ w.cell? ⟨g, 2, none⟩ = some v2 ∧ w.cell? ⟨g, 3, none⟩ = some v3 ∧ w.cell? ⟨g, 4, none⟩ = some v4
theorem Cells5.keep {w w' : World} {g B : Nat} {v0 v1 v2 v3 v4 : Value} (h : Cells5 w g v0 v1 v2 v3 v4) (hb : Below B w w') (hB : g < B) : Cells5 w' g v0 v1 v2 v3 v4 := by
  obtain ⟨hg, h0, h1, h2, h3, h4⟩ := h
  exact ⟨Nat.lt_of_lt_of_le hg hb.size, (hb.cell (p := ⟨g, 0, none⟩) hB).trans h0, (hb.cell (p := ⟨g, 1, none⟩) hB).trans h1, (hb.cell (p := ⟨g, 2, none⟩) hB).trans h2, (hb.cell (p := ⟨g, 3, none⟩) hB).trans h3, (hb.cell (p := ⟨g, 4, none⟩) hB).trans h4⟩
theorem cells5_new (w : World) (t : TypeId) (v0 v1 v2 v3 v4 : Value) : Cells5 (w.alloc (.cells #[v0, v1, v2, v3, v4] t)) w.heap.size v0 v1 v2 v3 v4 := by
  refine ⟨by simp, ?_, ?_, ?_, ?_, ?_⟩ <;> rw [World.cell?_alloc_new] <;> rfl

theorem wear1_any (x : Int) (w : World) : Calls Tryz.prog 204 #[.int .i64 x] w fun e w' => e = .returned (.bool (!(decide (0 ≤ x) && decide (x ≤ 2147483647)))) ∧ w = w' := by
  by_cases h1 : x < 0
  · have h1' : decide (x < 0) = true := by simpa using h1
    have h2 : ¬ 0 ≤ x := by omega
    go_enter Tryz.func204, Tryz.ntmps204
    go_wp2
    go_ret
    exact ⟨by simp [h2], rfl⟩
  · have h1' : decide (x < 0) = false := by simpa using h1
    have h2 : 0 ≤ x := by omega
    have H := Lib.hid (show decide (2147483647 < x) = !decide (x ≤ 2147483647) by by_cases h : x ≤ 2147483647 <;> simp [h] <;> omega)
    go_enter Tryz.func204, Tryz.ntmps204
    go_wp2
    go_ret
    exact ⟨congrArg (fun b => Ending.returned (.bool b)) H.out, rfl⟩

def badWear : Value → Bool
  | .int .i64 x => !(decide (0 ≤ x) && decide (x ≤ 2147483647))
  | _ => false
theorem badWear_int (x : Int) : badWear (intC x) = !(decide (0 ≤ x) && decide (x ≤ 2147483647)) := rfl
theorem okWear_eq (wear : List Int) : (wear.all fun x => decide (0 ≤ x) && decide (x ≤ 2147483647)) = !(wear.map intC).any badWear := by
  induction wear with
  | nil => rfl
  | cons x r ih => rw [List.all_cons, List.map_cons, List.any_cons, badWear_int, ih, Bool.not_or, Bool.not_not]
def badPage (n : Nat) : Value → Bool
  | .string s => decide (s.size ≠ n)
  | _ => false
theorem okPage_eq (pages : List (List UInt8)) (n : Nat) : (pages.all fun p => decide (p.length = n)) = !(pages.map strC).any (badPage n) := by
  induction pages with
  | nil => rfl
  | cons x r ih =>
    rw [List.all_cons, List.map_cons, List.any_cons, ih, Bool.not_or]
    congr 1
    show decide (x.length = n) = !decide ((⟨x.toArray⟩ : ByteArray).size ≠ n)
    rw [size_mk]
    by_cases h : x.length = n <;> simp [h]
theorem badPage_str (n : Nat) (y : List UInt8) : badPage n (strC y) = decide (y.length ≠ n) := by
  show decide ((⟨y.toArray⟩ : ByteArray).size ≠ n) = _
  rw [size_mk]
attribute [irreducible] badWear badPage

set_option maxRecDepth 20000 in
theorem areWear_any (wear : List Int) (n : Nat) (v : Value) (w : World) (hv : isCells (wear.map intC) v w) (hl : wear.length ≤ 140737488355328) (hn : n ≤ 140737488355328) :
    Calls Tryz.prog 185 #[v, .int .i64 (n : Int)] w fun e w' => e = .returned (.bool (okWear wear n)) ∧ w = w' := by
  have hen : Enters Tryz.prog 204 := enters_of Tryz.func204 (by kernel_rfl) rfl
  obtain ⟨a, cap, hva⟩ := hv.len
  rw [List.length_map] at hva
  subst hva
  have HV := Lib.hid hv
  clear hv
  by_cases h : n = wear.length
  · subst h
    have HE := Lib.hid (show okWear wear wear.length = !(wear.map intC).any badWear by
      unfold okWear
      rw [decide_eq_true rfl, Bool.true_and, okWear_eq])
    go_enter Tryz.func185, Tryz.ntmps185
    go_wp2_with fail
    refine (contains_i badWear 204 #[] hen (wear.map intC) _ _ HV.out (by simpa using hl) ?_).mono ?_
    · intro x hx
      obtain ⟨y, _, rfl⟩ := List.mem_map.1 hx
      rw [badWear_int]
      exact wear1_any y _
    rintro e w' ⟨rfl, rfl⟩
    generalize (wear.map intC).any badWear = z at *
    go_wp2
    go_ret
    exact ⟨by rw [HE.out]; rfl, rfl⟩
  · have h' : ((wear.length : Int) == (n : Int)) = false := by simp; omega
    go_enter Tryz.func185, Tryz.ntmps185
    go_wp2
    go_ret
    exact ⟨by unfold okWear; rw [decide_eq_false (fun e => h e.symm)]; rfl, rfl⟩

theorem size1_any (s : List UInt8) (n : Nat) (p : Addr) (w : World) (hp : w.cell? p = some (.int .i64 (n : Int))) :
    Calls Tryz.prog 202 #[.string ⟨s.toArray⟩, .pointer (some p)] w fun e w' => e = .returned (.bool (decide (s.length ≠ n))) ∧ w = w' := by
  have hsz : (⟨s.toArray⟩ : ByteArray).size = s.length := size_mk s
  have H := Lib.hid (show ((s.length : Int) != (n : Int)) = decide (s.length ≠ n) by by_cases h : s.length = n <;> simp [h] <;> omega)
  go_enter Tryz.func202, Tryz.ntmps202
  go_wp2
  go_ret
  exact ⟨by rw [← H.out]; rfl, rfl⟩

set_option maxRecDepth 20000 in
set_option maxHeartbeats 400000 in
theorem areOne_any (pages : List (List UInt8)) (v : Value) (w : World) (hv : isCells (pages.map strC) v w) (h0 : 0 < pages.length) (hl : pages.length ≤ 140737488355328) :
    Calls Tryz.prog 184 #[v] w fun e w' => e = .returned (.bool (oneSize pages)) ∧ Below w.heap.size w w' := by
  obtain ⟨b, off, cap, hva, hb, hc⟩ := hv.some_ (by simpa using h0)
  rw [List.length_map] at hva
  subst hva
  have hen : Enters Tryz.prog 202 := enters_of Tryz.func202 (by kernel_rfl) rfl
  have hc0 : w.cell? ⟨b, off, none⟩ = some (.string ⟨(pages.headD []).toArray⟩) := by
    refine hc 0 _ ?_
    cases pages with
    | nil => simp at h0
    | cons q r => rfl
  have HO := Lib.hid (show oneSize pages = (decide (1 ≤ ((pages.headD []).length : Int)) && decide (((pages.headD []).length : Int) ≤ 8192) && !(pages.map strC).any (badPage (pages.headD []).length)) by
    unfold oneSize; rw [okPage_eq])
  generalize pages.headD [] = q at *
  have hsz : (⟨q.toArray⟩ : ByteArray).size = q.length := size_mk q
  have HV := Lib.hid hv
  clear hv hc
  go_enter Tryz.func184, Tryz.ntmps184
  go_wp2_with fail
  refine (isSize_any _ _).mono ?_
  rintro e w1 ⟨rfl, rfl⟩
  cases hs : (decide (1 ≤ (q.length : Int)) && decide ((q.length : Int) ≤ 8192)) with
  | false =>
    go_wp2
    go_ret
    exact ⟨by rw [HO.out, hs]; rfl, (Below.refl _ _).alloc (Nat.le_refl _) _⟩
  | true =>
    go_wp2_with fail
    have hb0 : Below w.heap.size w (w.alloc (.cells #[.int .i64 (q.length : Int)] 3)) := (Below.refl _ _).alloc (Nat.le_refl _) _
    refine (contains_s (badPage q.length) 202 #[.pointer (some ⟨w.heap.size, 0, none⟩)] hen (pages.map strC) _ _ (stable_cells _ _ _ _ HV.out hb0) (by simpa using hl) ?_).mono ?_
    · intro x hx
      obtain ⟨y, _, rfl⟩ := List.mem_map.1 hx
      rw [show badPage q.length (strC y) = decide (y.length ≠ q.length) by rw [badPage_str]]
      exact size1_any y q.length ⟨w.heap.size, 0, none⟩ _ (by rw [World.cell?_alloc_new]; rfl)
    rintro e w' ⟨rfl, rfl⟩
    generalize (pages.map strC).any (badPage q.length) = z at *
    go_wp2
    go_ret
    exact ⟨by rw [HO.out, hs]; rfl, hb0⟩

set_option maxRecDepth 20000 in
set_option maxHeartbeats 1000000 in
theorem mayBe_any (F : Fl) (v : Value) (w : World) (hv : isFl F v w) (h1 : F.pages.length ≤ 140737488355328) (h2 : F.wear.length ≤ 140737488355328) :
    Calls Tryz.prog 152 #[v] w fun e w' => e = .returned (.bool (mayB F)) ∧ Below w.heap.size w w' := by
  obtain ⟨pages, wear, fuse, torn, dead⟩ := F
  obtain ⟨vp, vw, rfl, hp, hw⟩ := hv
  simp only at hp hw h1 h2
  unfold strC
  have htz : (⟨torn.toArray⟩ : ByteArray).size = torn.length := size_mk torn
  obtain ⟨a, cap, hva⟩ := hp.len
  rw [List.length_map] at hva
  have HP := Lib.hid hp
  have HW := Lib.hid hw
  have HM := Lib.hid (show mayB ⟨pages, wear, fuse, torn, dead⟩ = (decide (1 ≤ (pages.length : Int)) && decide ((pages.length : Int) ≤ 6) && oneSize pages && okWear wear pages.length && decide ((torn.length : Int) ≤ 64)) from rfl)
  clear hp hw
  subst hva
  go_enter Tryz.func152, Tryz.ntmps152
  go_wp2_with fail
  have hb0 : Below w.heap.size w (w.alloc (.cells #[.slice a pages.length cap, vw, .int .i64 fuse, .string ⟨torn.toArray⟩, .bool dead] 25)) := (Below.refl _ _).alloc (Nat.le_refl _) _
  refine (isPages_any _ _).mono ?_
  rintro e w1 ⟨rfl, rfl⟩
  cases c1 : (decide (1 ≤ (pages.length : Int)) && decide ((pages.length : Int) ≤ 6)) with
  | false =>
    go_wp2
    go_ret
    exact ⟨by rw [HM.out, c1]; rfl, hb0⟩
  | true =>
    have hpos : 0 < pages.length := by simp at c1; omega
    go_wp2_with fail
    refine (areOne_any pages _ _ (stable_cells _ _ _ _ HP.out hb0) hpos h1).mono ?_
    rintro e w2 ⟨rfl, hb1⟩
    obtain ⟨hg, k0, k1, k2, k3, k4⟩ := (cells5_new w 25 (.slice a pages.length cap) vw (.int .i64 fuse) (.string ⟨torn.toArray⟩) (.bool dead)).keep hb1 (by simp)
    have hB := hb0.trans (hb1.mono hb0.size)
    clear hb1
    cases c2 : oneSize pages with
    | false =>
      go_wp2
      go_ret
      exact ⟨by rw [HM.out, c1, c2]; rfl, hB⟩
    | true =>
      go_wp2_with fail
      refine (areWear_any wear pages.length _ _ (stable_cells _ _ _ _ HW.out hB) h2 h1).mono ?_
      rintro e w3 ⟨rfl, rfl⟩
      cases c3 : okWear wear pages.length with
      | false =>
        go_wp2
        go_ret
        exact ⟨by rw [HM.out, c1, c2, c3]; rfl, hB⟩
      | true =>
        go_wp2
        go_ret
        exact ⟨by rw [HM.out, c1, c2, c3]; rfl, hB⟩

set_option maxRecDepth 20000 in
set_option maxHeartbeats 1000000 in
theorem hasPage_any (F : Fl) (n : Int) (v : Value) (w : World) (hv : isFl F v w) (h1 : F.pages.length ≤ 140737488355328) (h2 : F.wear.length ≤ 140737488355328) :
    Calls Tryz.prog 154 #[v, .int .i64 n] w fun e w' => e = .returned (.bool (hasB F n)) ∧ Below w.heap.size w w' := by
  have HF := Lib.hid hv
  obtain ⟨vp, vw, rfl, hp, hw⟩ := hv
  obtain ⟨a, cap, hva⟩ := hp.len
  rw [List.length_map] at hva
  clear hp hw
  subst hva
  have HM := Lib.hid (show hasB F n = (mayB F && decide (0 ≤ n) && decide (n < F.pages.length)) from rfl)
  unfold strC at HF ⊢
  go_enter Tryz.func154, Tryz.ntmps154
  go_wp2_with fail
  have hb0 : Below w.heap.size w (w.alloc (.cells #[.slice a F.pages.length cap, vw, .int .i64 F.fuse, .string ⟨F.torn.toArray⟩, .bool F.dead] 25)) := (Below.refl _ _).alloc (Nat.le_refl _) _
  refine (mayBe_any F _ _ (stable_fl _ _ _ _ HF.out hb0) h1 h2).mono ?_
  rintro e w2 ⟨rfl, hb1⟩
  obtain ⟨hg, k0, k1, k2, k3, k4⟩ := (cells5_new w 25 (.slice a F.pages.length cap) vw (.int .i64 F.fuse) (.string ⟨F.torn.toArray⟩) (.bool F.dead)).keep hb1 (by simp)
  have hB := hb0.trans (hb1.mono hb0.size)
  clear hb1
  cases c1 : mayB F with
  | false =>
    go_wp2
    go_ret
    exact ⟨by rw [HM.out, c1]; rfl, hB⟩
  | true =>
    by_cases c2 : 0 ≤ n
    · have c2' : decide (0 ≤ n) = true := by simpa using c2
      go_wp2
      go_ret
      exact ⟨by rw [HM.out, c1, c2']; rfl, hB⟩
    · have c2' : decide (0 ≤ n) = false := by simpa using c2
      go_wp2
      go_ret
      exact ⟨by rw [HM.out, c1, c2']; rfl, hB⟩

set_option maxHeartbeats 400000 in
theorem check_any (F : Fl) (v : Value) (w : World) (hv : isFl F v w) (h1 : F.pages.length ≤ 140737488355328) (h2 : F.wear.length ≤ 140737488355328) :
    Calls Tryz.prog 100 #[v] w fun e w' => e = .returned (.int .i64 (checkE F)) ∧ Below w.heap.size w w' := by
  have HF := Lib.hid hv
  obtain ⟨vp, vw, rfl, hp, hw⟩ := hv
  clear hp hw
  unfold strC at HF ⊢
  go_enter Tryz.func100, Tryz.ntmps100
  go_wp2_with fail
  have hb0 : Below w.heap.size w (w.alloc (.cells #[vp, vw, .int .i64 F.fuse, .string ⟨F.torn.toArray⟩, .bool F.dead] 25)) := (Below.refl _ _).alloc (Nat.le_refl _) _
  refine (mayBe_any F _ _ (stable_fl _ _ _ _ HF.out hb0) h1 h2).mono ?_
  rintro e w2 ⟨rfl, hb1⟩
  have hB := hb0.trans (hb1.mono hb0.size)
  clear hb1
  cases c1 : mayB F with
  | false =>
    have H := Lib.hid (show checkE F = 1 by unfold checkE; rw [c1]; rfl)
    go_wp2
    go_ret
    exact ⟨by rw [H.out]; rfl, hB⟩
  | true =>
    have H := Lib.hid (show checkE F = 0 by unfold checkE; rw [c1]; rfl)
    go_wp2
    go_ret
    exact ⟨by rw [H.out]; rfl, hB⟩
end Go.Proofs.YtpjafjnokgeifaaGreatDoor
end
section
namespace Go.Proofs.YtpjafjnokgeifaaGreatDoor
open Go.RowKit
set_option linter.unusedVariables false
set_option linter.unusedSimpArgs false

theorem clone_s (l : List (List UInt8)) (v : Value) (w : World) (hv : isCells (l.map strC) v w) (hl : l.length * 16 ≤ 140737488355328) :
    Calls Tryz.prog 101 #[v] w fun e w' => ∃ v', e = .returned v' ∧ w'.ownsRow w.heap.size 9 1 v' l.length (l.map strC) ∧ Below w.heap.size w w' := by
  rcases hv with ⟨rfl, h⟩ | ⟨a, cap, rfl, h⟩ | ⟨b, off, cap, rfl, hb, hc⟩
  · obtain rfl : l = [] := by simpa using h
    refine (Tryz.slices_Clone_string_nil 0 0 w).mono ?_
    rintro e w' ⟨rfl, rfl⟩
    exact ⟨_, rfl, World.ownsRow_nil _ _ _ _, Below.refl _ _⟩
  · obtain rfl : l = [] := by simpa using h
    refine (Tryz.slices_Clone_string_zero a cap w).mono ?_
    rintro e w' ⟨v', rfl, h1, _, h2⟩
    exact ⟨_, rfl, h1, h2⟩
  · rw [List.length_map]
    refine (Tryz.slices_Clone_string b off l.length cap (l.map fun x => ⟨x.toArray⟩) w (by simp) hl (fun j hj => ?_)).mono ?_
    · have hj' : j < l.length := by simpa using hj
      rw [hc j _ (get_map strC l j hj')]
      simp [strC, List.getD_eq_getElem?_getD, hj']
    · rintro e w' ⟨v', rfl, h1, _, h2⟩
      refine ⟨_, rfl, ?_, h2⟩
      have : ((l.map fun x => (⟨x.toArray⟩ : ByteArray)).take l.length).map Value.string = l.map strC := by
        rw [List.take_of_length_le (by simp), List.map_map]; rfl
      rwa [this] at h1
theorem clone_i (l : List Int) (v : Value) (w : World) (hv : isCells (l.map intC) v w) (hl : l.length * 8 ≤ 140737488355328) :
    Calls Tryz.prog 102 #[v] w fun e w' => ∃ v', e = .returned v' ∧ w'.ownsRow w.heap.size 3 1 v' l.length (l.map intC) ∧ Below w.heap.size w w' := by
  rcases hv with ⟨rfl, h⟩ | ⟨a, cap, rfl, h⟩ | ⟨b, off, cap, rfl, hb, hc⟩
  · obtain rfl : l = [] := by simpa using h
    refine (Tryz.slices_Clone_int_nil 0 0 w).mono ?_
    rintro e w' ⟨rfl, rfl⟩
    exact ⟨_, rfl, World.ownsRow_nil _ _ _ _, Below.refl _ _⟩
  · obtain rfl : l = [] := by simpa using h
    refine (Tryz.slices_Clone_int_zero a cap w).mono ?_
    rintro e w' ⟨v', rfl, h1, _, h2⟩
    exact ⟨_, rfl, h1, h2⟩
  · rw [List.length_map]
    refine (Tryz.slices_Clone_int b off l.length cap l w (Nat.le_refl _) hl (fun j hj => ?_)).mono ?_
    · rw [hc j _ (get_map intC l j hj)]
      simp [intC, List.getD_eq_getElem?_getD, hj]
    · rintro e w' ⟨v', rfl, h1, _, h2⟩
      refine ⟨_, rfl, ?_, h2⟩
      rw [List.take_of_length_le (Nat.le_refl _)] at h1
      exact h1

/-! ### More operations of a drawn region -/
section
variable {P : Program} {ops : Array Oper} {base : World} {a0 : Act} {Q : Exit → Act → World → Prop} {kn : Nat → VP} {i : Nat} {V : VP}
/-- A field's place. -/
theorem step_field (t : TypeId) (x : Operand) (k : Nat) (p q : Addr) (hop : (ops[i]?).map (·.op) = some (.fieldAddr t x k)) (hw : Wanted ops a0 kn i) (hx : Knows ops a0 kn i x (isVal (.pointer (some p))))
    (hr : ∀ w, (Instr.fieldAt t (.pointer (some p)) k).run P w = .ok (.pointer (some q)) w) : FStep P ops base a0 Q kn i (isVal (.pointer (some q))) :=
  step_pure _ hop hw fun o a w ho hk hd => by
    have e1 : a.eval x = .pointer (some p) := hx a w hk hd
    unfold execOp
    rw [ho]
    simp only [e1, Sem.run_bind, hr, Result.andThen_ok, Sem.run_pure]
/-- What stands in a place that was there ahead of the region. -/
theorem step_read (t : TypeId) (x : Operand) (p : Addr) (v : Value) (hop : (ops[i]?).map (·.op) = some (.load t x)) (hw : Wanted ops a0 kn i) (hx : Knows ops a0 kn i x (isVal (.pointer (some p))))
    (hc : base.cell? p = some v) (hp : p.block < base.heap.size) (hu : ∀ w, (isAgg t).run P w = .ok false w) : FStep P ops base a0 Q kn i (isVal v) :=
  step_mk (stable_val _) hw fun o ho a w hk hb hd => by
    have e1 : a.eval x = .pointer (some p) := hx a w hk hd
    have e2 : w.cell? p = some v := (hb.cell hp).trans hc
    unfold Oper.wp execOp
    rw [op_of hop ho]
    simp only [e1, Instr.loadAt, Instr.sureAddr, Sem.run_bind, Sem.run_pure, Result.andThen_ok, loadVar, hu]
    simp [e2, Oper.upon]
    exact ⟨v, rfl, rfl, Below.refl _ _⟩

/-! ### .. and of its tail -/
variable {a : Act} {w : World} {c : Nat}
theorem tail_op {OP : Op} (K : Act → World → Prop) (hop : (ops[i]?).map (fun o => (o.op, o.guard)) = some (OP, none)) (h : ∀ o, ops[i]? = some o → o.op = OP → o.wp P a w (fun a' w' => Tail P ops Q c (i + 1) a' w') Q) : Tail P ops Q (c + 1) i a w := by
  cases ho : ops[i]? with
  | none => rw [ho] at hop; simp at hop
  | some o =>
    rw [ho] at hop
    simp only [Option.map_some, Option.some.injEq, Prod.mk.injEq] at hop
    unfold Tail wpOp
    simp only [ho]
    rw [show Region.wanted o (yielded ops a.tmps) = true by simp [Region.wanted, hop.2]]
    exact .inl (h o ho hop.1)
theorem tail_field (t : TypeId) (x : Operand) (k : Nat) (p q : Addr) (d : Tmp) (hop : (ops[i]?).map (fun o => (o.op, o.guard)) = some (.fieldAddr t x k, none)) (hd : (ops[i]?).bind (·.dst) = some d) (hx : a.eval x = .pointer (some p))
    (hr : ∀ w, (Instr.fieldAt t (.pointer (some p)) k).run P w = .ok (.pointer (some q)) w) (h : Tail P ops Q c (i + 1) (a.put (some d) (.pointer (some q))) w) : Tail P ops Q (c + 1) i a w :=
  tail_op (fun _ _ => True) hop fun o ho e => by
    rw [ho] at hd
    simp only [Option.bind_some] at hd
    unfold Oper.wp execOp
    rw [e]
    simp only [hx, Sem.run_bind, hr, Result.andThen_ok, Sem.run_pure, Oper.upon, hd]
    exact h
theorem tail_store (t : TypeId) (x y : Operand) (p : Addr) (v old : Value) (hop : (ops[i]?).map (fun o => (o.op, o.guard)) = some (.store t x y, none)) (hdst : (ops[i]?).map (·.dst) = some none) (hx : a.eval x = .pointer (some p)) (hy : a.eval y = v)
    (hs : (P.info? t).map (·.size) = some 1) (hv : v.cells = #[v]) (hv1 : v.oneCell' = true) (hc : w.cell? p = some old) (hf : w.frozen? p = false) (h : Tail P ops Q c (i + 1) a (w.setCell p v)) : Tail P ops Q (c + 1) i a w :=
  tail_op (fun _ _ => True) hop fun o ho e => by
    obtain ⟨ie, hie, hz⟩ := Option.map_eq_some_iff.1 hs
    have hsz : (sizeOf t).run P w = .ok 1 w := by simp [sizeOf, typeInfo, hie, hz]
    unfold Oper.wp execOp
    rw [e]
    simp only [hx, hy, Instr.storeAt, Instr.sureAddr, Sem.run_bind, Sem.run_pure, Result.andThen_ok, storeVar, hsz, hv]
    have hst : (storeCells p [v]).run P w = .ok () (w.setCell p v) := by
      unfold storeCells
      rw [Sem.run_bind, show p.add 0 = p by simp [Addr.add], run_store P w p v _ hv1, hc]
      simp [hf, storeCells]
    rw [if_neg (by simp), hst]
    rw [ho] at hdst
    simp only [Option.map_some, Option.some.injEq] at hdst
    simp only [Result.andThen_ok, Oper.upon, hdst]
    exact h
end

theorem Cells5.set0 {w : World} {g : Nat} {v0 v1 v2 v3 v4 : Value} (h : Cells5 w g v0 v1 v2 v3 v4) (x : Value) : Cells5 (w.setCell ⟨g, 0, none⟩ x) g x v1 v2 v3 v4 := by
  obtain ⟨hg, h0, h1, h2, h3, h4⟩ := h
  refine ⟨by simpa using hg, World.cell?_setCell_same w _ _ h0, ?_, ?_, ?_, ?_⟩ <;> (rw [World.cell?_setCell_other w _ _ _ (by intro h; injection h; contradiction)]; assumption)
theorem Cells5.set1 {w : World} {g : Nat} {v0 v1 v2 v3 v4 : Value} (h : Cells5 w g v0 v1 v2 v3 v4) (x : Value) : Cells5 (w.setCell ⟨g, 1, none⟩ x) g v0 x v2 v3 v4 := by
  obtain ⟨hg, h0, h1, h2, h3, h4⟩ := h
  refine ⟨by simpa using hg, ?_, World.cell?_setCell_same w _ _ h1, ?_, ?_, ?_⟩ <;> (rw [World.cell?_setCell_other w _ _ _ (by intro h; injection h; contradiction)]; assumption)
theorem Cells5.set2 {w : World} {g : Nat} {v0 v1 v2 v3 v4 : Value} (h : Cells5 w g v0 v1 v2 v3 v4) (x : Value) : Cells5 (w.setCell ⟨g, 2, none⟩ x) g v0 v1 x v3 v4 := by
  obtain ⟨hg, h0, h1, h2, h3, h4⟩ := h
  refine ⟨by simpa using hg, ?_, ?_, World.cell?_setCell_same w _ _ h2, ?_, ?_⟩ <;> (rw [World.cell?_setCell_other w _ _ _ (by intro h; injection h; contradiction)]; assumption)
theorem Cells5.set4 {w : World} {g : Nat} {v0 v1 v2 v3 v4 : Value} (h : Cells5 w g v0 v1 v2 v3 v4) (x : Value) : Cells5 (w.setCell ⟨g, 4, none⟩ x) g v0 v1 v2 v3 x := by
  obtain ⟨hg, h0, h1, h2, h3, h4⟩ := h
  refine ⟨by simpa using hg, ?_, ?_, ?_, ?_, World.cell?_setCell_same w _ _ h4⟩ <;> (rw [World.cell?_setCell_other w _ _ _ (by intro h; injection h; contradiction)]; assumption)
theorem Cells5.apart {w : World} {g b o : Nat} {v0 v1 v2 v3 v4 : Value} (h : Cells5 w g v0 v1 v2 v3 v4) (x : Value) (hne : b ≠ g) : Cells5 (w.setCell ⟨b, o, none⟩ x) g v0 v1 v2 v3 v4 := by
  obtain ⟨hg, h0, h1, h2, h3, h4⟩ := h
  refine ⟨by simpa using hg, ?_, ?_, ?_, ?_, ?_⟩ <;> (rw [World.cell?_setCell_other w _ _ _ (by intro h; injection h; contradiction)]; assumption)
/-- No place of the block is frozen. -/
def Free5 (w : World) (g : Nat) : Prop := ∀ j, w.frozen? ⟨g, j, none⟩ = false
theorem Free5.keep {w w' : World} {g B : Nat} (h : Free5 w g) (hb : Below B w w') (hB : g < B) : Free5 w' g := fun j => (hb.frozen (p := ⟨g, j, none⟩) hB).trans (h j)
theorem Free5.set {w : World} {g : Nat} (h : Free5 w g) (p : Addr) (x : Value) : Free5 (w.setCell p x) g := fun j => by rw [World.frozen?_setCell]; exact h j
theorem free5_new (w : World) (cs : Array Value) (t : TypeId) : Free5 (w.alloc (.cells cs t)) w.heap.size := fun j => World.frozen?_alloc_new w _ _ _
/-- Five cells written at once. -/
def set5 (w : World) (g : Nat) (v0 v1 v2 v3 v4 : Value) : World := ((((w.setCell ⟨g, 0, none⟩ v0).setCell ⟨g, 1, none⟩ v1).setCell ⟨g, 2, none⟩ v2).setCell ⟨g, 3, none⟩ v3).setCell ⟨g, 4, none⟩ v4
theorem Cells5.set3 {w : World} {g : Nat} {v0 v1 v2 v3 v4 : Value} (h : Cells5 w g v0 v1 v2 v3 v4) (x : Value) : Cells5 (w.setCell ⟨g, 3, none⟩ x) g v0 v1 v2 x v4 := by
  obtain ⟨hg, h0, h1, h2, h3, h4⟩ := h
  refine ⟨by simpa using hg, ?_, ?_, ?_, World.cell?_setCell_same w _ _ h3, ?_⟩ <;> (rw [World.cell?_setCell_other w _ _ _ (by intro h; injection h; contradiction)]; assumption)
theorem Cells5.set5_ {w : World} {g : Nat} {o0 o1 o2 o3 o4 : Value} (h : Cells5 w g o0 o1 o2 o3 o4) (v0 v1 v2 v3 v4 : Value) : Cells5 (set5 w g v0 v1 v2 v3 v4) g v0 v1 v2 v3 v4 := ((((h.set0 v0).set1 v1).set2 v2).set3 v3).set4 v4
theorem Cells5.apart5 {w : World} {g b : Nat} {o0 o1 o2 o3 o4 : Value} (h : Cells5 w g o0 o1 o2 o3 o4) (v0 v1 v2 v3 v4 : Value) (hne : b ≠ g) : Cells5 (set5 w b v0 v1 v2 v3 v4) g o0 o1 o2 o3 o4 := ((((h.apart v0 hne).apart v1 hne).apart v2 hne).apart v3 hne).apart v4 hne
theorem Free5.set5_ {w : World} {g : Nat} (h : Free5 w g) (b : Nat) (v0 v1 v2 v3 v4 : Value) : Free5 (set5 w b v0 v1 v2 v3 v4) g := ((((h.set _ v0).set _ v1).set _ v2).set _ v3).set _ v4
theorem below_set5 {B : Nat} {w0 w : World} (h : Below B w0 w) {g : Nat} (hg : B ≤ g) (v0 v1 v2 v3 v4 : Value) : Below B w0 (set5 w g v0 v1 v2 v3 v4) :=
  ((((h.setCell (p := ⟨g, 0, none⟩) hg v0).setCell (p := ⟨g, 1, none⟩) hg v1).setCell (p := ⟨g, 2, none⟩) hg v2).setCell (p := ⟨g, 3, none⟩) hg v3).setCell (p := ⟨g, 4, none⟩) hg v4
theorem size_set5 (w : World) (g : Nat) (v0 v1 v2 v3 v4 : Value) : (set5 w g v0 v1 v2 v3 v4).heap.size = w.heap.size := by simp [set5]
theorem store5 (g : Nat) (w : World) (o0 o1 o2 o3 o4 v0 v1 v2 v3 v4 : Value) (h : Cells5 w g o0 o1 o2 o3 o4) (hf : Free5 w g) (n0 : v0.oneCell' = true) (n1 : v1.oneCell' = true) (n2 : v2.oneCell' = true) (n3 : v3.oneCell' = true) (n4 : v4.oneCell' = true) :
    (Instr.storeAt 25 (.pointer (some ⟨g, 0, none⟩)) (.agg #[v0, v1, v2, v3, v4])).run Tryz.prog w = .ok () (set5 w g v0 v1 v2 v3 v4) := by
  have hs : (Tryz.prog.info? 25).map (·.size) = some 5 := by kernel_rfl
  obtain ⟨ie, hie, hz⟩ := Option.map_eq_some_iff.1 hs
  have hsz : (sizeOf 25).run Tryz.prog w = .ok 5 w := by simp [sizeOf, typeInfo, hie, hz]
  have hst : ∀ (w : World) (k : Nat) (v old : Value), v.oneCell' = true → w.cell? ⟨g, k, none⟩ = some old → w.frozen? ⟨g, k, none⟩ = false → (store ⟨g, k, none⟩ v).run Tryz.prog w = .ok () (w.setCell ⟨g, k, none⟩ v) := by
    intro w k v old h1 h2 h3
    rw [run_store Tryz.prog w _ v _ h1, h2]
    simp [h3]
  have a0 : (⟨g, 0, none⟩ : Addr).add 0 = ⟨g, 0, none⟩ := by simp [Addr.add]
  have a1 : (⟨g, 0, none⟩ : Addr).add 1 = ⟨g, 1, none⟩ := by simp [Addr.add]
  have a2 : (⟨g, 0, none⟩ : Addr).add 2 = ⟨g, 2, none⟩ := by simp [Addr.add]
  have a3 : (⟨g, 0, none⟩ : Addr).add 3 = ⟨g, 3, none⟩ := by simp [Addr.add]
  have a4 : (⟨g, 0, none⟩ : Addr).add 4 = ⟨g, 4, none⟩ := by simp [Addr.add]
  simp only [Instr.storeAt, Instr.sureAddr, Sem.run_bind, Sem.run_pure, Result.andThen_ok, storeVar, hsz]
  rw [if_neg (show ¬ ((Value.agg #[v0, v1, v2, v3, v4]).cells.size ≠ 5) by show ¬ (5 ≠ 5); simp)]
  show (storeCells ⟨g, 0, none⟩ [v0, v1, v2, v3, v4]).run Tryz.prog w = _
  simp only [storeCells, Sem.run_bind, a0, a1, a2, a3, a4, Nat.zero_add]
  rw [hst w 0 v0 o0 n0 h.2.1 (hf 0)]
  simp only [Result.andThen_ok]
  rw [hst _ 1 v1 o1 n1 (h.set0 v0).2.2.1 ((hf.set _ v0) 1)]
  simp only [Result.andThen_ok]
  rw [hst _ 2 v2 o2 n2 ((h.set0 v0).set1 v1).2.2.2.1 (((hf.set _ v0).set _ v1) 2)]
  simp only [Result.andThen_ok]
  rw [hst _ 3 v3 o3 n3 (((h.set0 v0).set1 v1).set2 v2).2.2.2.2.1 ((((hf.set _ v0).set _ v1).set _ v2) 3)]
  simp only [Result.andThen_ok]
  rw [hst _ 4 v4 o4 n4 ((((h.set0 v0).set1 v1).set2 v2).set3 v3).2.2.2.2.2 (((((hf.set _ v0).set _ v1).set _ v2).set _ v3) 4)]
  simp [set5]
theorem wpList_store5 {ops : Array Oper} {rest : List Oper} {o : Oper} {a : Act} {w : World} {Q : Exit → Act → World → Prop} (hgd : o.guard = none) (x y : Operand) (ho : o.op = .store 25 x y)
    (g : Nat) (v0 v1 v2 v3 v4 : Value) (hx : a.eval x = .pointer (some ⟨g, 0, none⟩)) (hy : a.eval y = .agg #[v0, v1, v2, v3, v4]) {o0 o1 o2 o3 o4 : Value} (h5 : Cells5 w g o0 o1 o2 o3 o4) (hf : Free5 w g)
    (n0 : v0.oneCell' = true) (n1 : v1.oneCell' = true) (n2 : v2.oneCell' = true) (n3 : v3.oneCell' = true) (n4 : v4.oneCell' = true)
    (h : wpList Tryz.prog ops Q rest (a.put o.dst undef) (set5 w g v0 v1 v2 v3 v4)) : wpList Tryz.prog ops Q (o :: rest) a w :=
  wpList_plain hgd fun K hK => by
    unfold Oper.wp execOp
    rw [ho]
    simp only [hx, hy, Sem.run_bind, store5 g w o0 o1 o2 o3 o4 v0 v1 v2 v3 v4 h5 hf n0 n1 n2 n3 n4, Result.andThen_ok, Sem.run_pure, Oper.upon]
    exact hK _ _ h
theorem load5 (g : Nat) (w : World) (v0 v1 v2 v3 v4 : Value) (h : Cells5 w g v0 v1 v2 v3 v4) : (loadVar 25 ⟨g, 0, none⟩).run Tryz.prog w = .ok (.agg #[v0, v1, v2, v3, v4]) w := by
  have hs : (Tryz.prog.info? 25).map (·.size) = some 5 := by kernel_rfl
  obtain ⟨ie, hie, hz⟩ := Option.map_eq_some_iff.1 hs
  have hsz : (sizeOf 25).run Tryz.prog w = .ok 5 w := by simp [sizeOf, typeInfo, hie, hz]
  have hag : (isAgg 25).run Tryz.prog w = .ok true w := by simp [isAgg, run_underlying Tryz.underlying25]
  obtain ⟨_, h0, h1, h2, h3, h4⟩ := h
  simp only [loadVar, Sem.run_bind, hag, Result.andThen_ok, if_true, hsz, loadCells, loadCellsFrom]
  simp [Addr.add, h0, h1, h2, h3, h4]
theorem results1 {fn : Func} {p : Tmp} (h : fn.results = #[.cell p 25]) (tmps : Array Value) (w : World) (g : Nat) (v0 v1 v2 v3 v4 : Value) (hp : tmps.getD p undef = .pointer (some ⟨g, 0, none⟩)) (h5 : Cells5 w g v0 v1 v2 v3 v4) :
    (results fn tmps).run Tryz.prog w = .ok (.agg #[v0, v1, v2, v3, v4]) w := by
  have hp' : tmps[p]?.getD undef = .pointer (some ⟨g, 0, none⟩) := by simpa using hp
  simp [results, h, hp', asAddr, load5 g w v0 v1 v2 v3 v4 h5]
theorem results2 {fn : Func} {p u : Tmp} (h : fn.results = #[.cell p 25, .tmp u]) (tmps : Array Value) (w : World) (g : Nat) (v0 v1 v2 v3 v4 x : Value) (hp : tmps.getD p undef = .pointer (some ⟨g, 0, none⟩)) (hx : tmps.getD u undef = x) (h5 : Cells5 w g v0 v1 v2 v3 v4) :
    (results fn tmps).run Tryz.prog w = .ok (.tuple #[.agg #[v0, v1, v2, v3, v4], x]) w := by
  rw [results_cell_tmp h, hp, hx]
  simp [asAddr, load5 g w v0 v1 v2 v3 v4 h5]
theorem cells5_at (w : World) (t : TypeId) (v0 v1 v2 v3 v4 : Value) (n : Nat) (hn : n = w.heap.size) : Cells5 (w.alloc (.cells #[v0, v1, v2, v3, v4] t)) n v0 v1 v2 v3 v4 := by subst hn; exact cells5_new w t v0 v1 v2 v3 v4
theorem free5_at (w : World) (cs : Array Value) (t : TypeId) (n : Nat) (hn : n = w.heap.size) : Free5 (w.alloc (.cells cs t)) n := by subst hn; exact free5_new w cs t
theorem field_fl (g k : Nat) (hk : k < 5) (w : World) : (Instr.fieldAt 25 (.pointer (some ⟨g, 0, none⟩)) k).run Tryz.prog w = .ok (.pointer (some ⟨g, k, none⟩)) w := by
  have h : k = 0 ∨ k = 1 ∨ k = 2 ∨ k = 3 ∨ k = 4 := by omega
  rcases h with rfl | rfl | rfl | rfl | rfl <;> simp [Instr.fieldAt, run_underlying Tryz.underlying25, Instr.sureAddr, fieldPlace, Addr.add]
theorem agg_strs (w : World) : (isAgg 22).run Tryz.prog w = .ok false w := by simp [isAgg, run_underlying Tryz.underlying22]
theorem agg_ints (w : World) : (isAgg 23).run Tryz.prog w = .ok false w := by simp [isAgg, run_underlying Tryz.underlying23]
theorem agg_str (w : World) : (isAgg 9).run Tryz.prog w = .ok false w := by simp [isAgg, run_underlying Tryz.underlying9]
theorem agg_int (w : World) : (isAgg 3).run Tryz.prog w = .ok false w := by simp [isAgg, run_underlying Tryz.underlying3]
theorem agg_bool (w : World) : (isAgg 4).run Tryz.prog w = .ok false w := by simp [isAgg, run_underlying Tryz.underlying4]

/-- A row of the call's own. -/
def isOwn (B : Nat) (e : TypeId) (cs : List Value) : VP := fun v w => w.ownsRow B e 1 v cs.length cs
theorem stable_own (B : Nat) (e : TypeId) (cs : List Value) : Stable (isOwn B e cs) := by
  intro v w w' h hb
  obtain ⟨hl, h | ⟨g, cap, cur, hv, hB, hg, rest⟩⟩ := h
  · exact ⟨hl, .inl h⟩
  · exact ⟨hl, .inr ⟨g, cap, cur, hv, hB, (hb.block g (Array.getElem?_eq_some_iff.1 hg).1).trans hg, rest⟩⟩
theorem isOwn.low {B B' : Nat} {e : TypeId} {cs : List Value} {v : Value} {w : World} (h : isOwn B e cs v w) (hB : B' ≤ B) : isOwn B' e cs v w := by
  obtain ⟨hl, h | ⟨g, cap, cur, hv, hg, rest⟩⟩ := h
  · exact ⟨hl, .inl h⟩
  · exact ⟨hl, .inr ⟨g, cap, cur, hv, Nat.le_trans hB hg, rest⟩⟩
theorem isOwn.set {B : Nat} {e : TypeId} {cs : List Value} {v : Value} {w : World} (h : isOwn B e cs v w) {p : Addr} (hp : p.block < B) (u : Value) : isOwn B e cs v (w.setCell p u) := ownsRow_setCell_below h hp u
theorem isOwn.set5_ {B : Nat} {e : TypeId} {cs : List Value} {v : Value} {w : World} (h : isOwn B e cs v w) {g : Nat} (hg : g < B) (v0 v1 v2 v3 v4 : Value) : isOwn B e cs v (set5 w g v0 v1 v2 v3 v4) :=
  ((((h.set (p := ⟨g, 0, none⟩) hg v0).set (p := ⟨g, 1, none⟩) hg v1).set (p := ⟨g, 2, none⟩) hg v2).set (p := ⟨g, 3, none⟩) hg v3).set (p := ⟨g, 4, none⟩) hg v4
theorem isOwn.cells {B : Nat} {e : TypeId} {cs : List Value} {v : Value} {w : World} (h : isOwn B e cs v w) : isCells cs v w := isCells_own h
theorem isOwn.one {B : Nat} {e : TypeId} {cs : List Value} {v : Value} {w : World} (h : isOwn B e cs v w) : v.cells = #[v] ∧ v.oneCell' = true := by
  obtain ⟨hl, ⟨rfl, _⟩ | ⟨g, cap, cur, rfl, _⟩⟩ := h
  · exact ⟨rfl, rfl⟩
  · exact ⟨rfl, rfl⟩
theorem clone_s' (B : Nat) (l : List (List UInt8)) (v : Value) (w : World) (hv : isCells (l.map strC) v w) (hl : l.length * 16 ≤ 140737488355328) (hB : B ≤ w.heap.size) :
    Calls Tryz.prog 101 #[v] w fun e w' => ∃ v', e = .returned v' ∧ isOwn B 9 (l.map strC) v' w' ∧ Below w.heap.size w w' :=
  (clone_s l v w hv hl).mono (by rintro e w' ⟨v', rfl, h1, h2⟩; exact ⟨v', rfl, isOwn.low (B := w.heap.size) (by unfold isOwn; rw [List.length_map]; exact h1) hB, h2⟩)
theorem clone_i' (B : Nat) (l : List Int) (v : Value) (w : World) (hv : isCells (l.map intC) v w) (hl : l.length * 8 ≤ 140737488355328) (hB : B ≤ w.heap.size) :
    Calls Tryz.prog 102 #[v] w fun e w' => ∃ v', e = .returned v' ∧ isOwn B 3 (l.map intC) v' w' ∧ Below w.heap.size w w' :=
  (clone_i l v w hv hl).mono (by rintro e w' ⟨v', rfl, h1, h2⟩; exact ⟨v', rfl, isOwn.low (B := w.heap.size) (by unfold isOwn; rw [List.length_map]; exact h1) hB, h2⟩)
theorem fdone_of {ops : Array Oper} {kn : Nat → VP} {a : Act} {w : World} {j : Nat} {t : Tmp} {V : VP} (h : FDone ops kn a w j) (hd : (ops[j]?).bind (·.dst) = some t) (hV : kn j = V) : V (a.tmps.getD t undef) w := by
  cases ho : ops[j]? with
  | none => rw [ho] at hd; simp at hd
  | some o => rw [ho] at hd; rw [← hV]; exact h o ho t (by simpa using hd)
theorem arr_eta (a : Array Value) {n : Nat} (h : a.size = n) : a = ((List.range n).map fun i => a.getD i undef).toArray := by
  subst h
  apply Array.ext
  · simp
  · intro i h1 h2
    simp [Array.getD, h1]

noncomputable def copyOps : Array Oper := regionOf Tryz.f153 1
set_option maxRecDepth 100000 in
set_option maxHeartbeats 1000000 in
theorem copied_region (Q : Exit → Act → World → Prop) (a0 : Act) (w0 : World) (hsz : a0.tmps.size = 12) (g : Nat) (pages : List (List UInt8)) (wear : List Int) (vp vw v2 v3 v4 : Value)
    (h1 : a0.tmps.getD 1 undef = .pointer (some ⟨g, 0, none⟩)) (hc : Cells5 w0 g vp vw v2 v3 v4) (hf : Free5 w0 g) (hp : isCells (pages.map strC) vp w0) (hw : isCells (wear.map intC) vw w0)
    (hl1 : pages.length * 16 ≤ 140737488355328) (hl2 : wear.length * 8 ≤ 140737488355328)
    (hQ : ∀ (a : Act) (w1 : World) (vp' vw' : Value), a.defers = a0.defers → a.tmps.size = a0.tmps.size → (∀ t, (copyOps.toList.all fun o => o.dst != some t) = true → a.tmps.getD t undef = a0.tmps.getD t undef) →
      Below w0.heap.size w0 w1 → isOwn w0.heap.size 9 (pages.map strC) vp' w1 → isOwn w0.heap.size 3 (wear.map intC) vw' w1 → Q .normal a ((w1.setCell ⟨g, 0, none⟩ vp').setCell ⟨g, 1, none⟩ vw')) :
    (Code.region 1 copyOps true).wp Tryz.prog Q a0 w0 := by
  refine wp_region_tail 7 mixed (by rw [hsz]; kernel_rfl) (by kernel_rfl) ?_
  rw [show copyOps.size - 7 = 3 by kernel_rfl]
  refine ⟨isVal (.pointer (some ⟨g, 0, none⟩)), step_field 25 (.tmp 1) 0 ⟨g, 0, none⟩ ⟨g, 0, none⟩ (by kernel_rfl) (wanted_none (by kernel_rfl)) (knows_old 1 (.pointer (some ⟨g, 0, none⟩)) (by kernel_rfl) h1) (field_fl g 0 (by omega)), ?_⟩
  refine ⟨isVal vp, step_read 22 (.tmp 3) ⟨g, 0, none⟩ vp (by kernel_rfl) (wanted_none (by kernel_rfl)) (knows_new (V := isVal (.pointer (some ⟨g, 0, none⟩))) 3 0 (by kernel_rfl) (by kernel_rfl) (by kernel_rfl)) hc.2.1 hc.1 agg_strs, ?_⟩
  refine ⟨(isOwn w0.heap.size 9 (pages.map strC)), step_call 101 #[.tmp 4] #[22] #[vp] (by kernel_rfl) (wanted_none (by kernel_rfl)) (stable_own _ _ _) (args1 (.tmp 4) vp (knows_new (V := isVal vp) 4 1 (by kernel_rfl) (by kernel_rfl) (by kernel_rfl))) (enters_of Tryz.func101 (by kernel_rfl) rfl) (by intro w hb; exact clone_s' w0.heap.size pages vp w (stable_cells _ _ _ _ hp hb) hl1 hb.size), ?_⟩
  refine ⟨isVal (.pointer (some ⟨g, 1, none⟩)), step_field 25 (.tmp 1) 1 ⟨g, 0, none⟩ ⟨g, 1, none⟩ (by kernel_rfl) (wanted_none (by kernel_rfl)) (knows_old 1 (.pointer (some ⟨g, 0, none⟩)) (by kernel_rfl) h1) (field_fl g 1 (by omega)), ?_⟩
  refine ⟨isVal vw, step_read 23 (.tmp 6) ⟨g, 1, none⟩ vw (by kernel_rfl) (wanted_none (by kernel_rfl)) (knows_new (V := isVal (.pointer (some ⟨g, 1, none⟩))) 6 3 (by kernel_rfl) (by kernel_rfl) (by kernel_rfl)) hc.2.2.1 hc.1 agg_ints, ?_⟩
  refine ⟨(isOwn w0.heap.size 3 (wear.map intC)), step_call 102 #[.tmp 7] #[23] #[vw] (by kernel_rfl) (wanted_none (by kernel_rfl)) (stable_own _ _ _) (args1 (.tmp 7) vw (knows_new (V := isVal vw) 7 4 (by kernel_rfl) (by kernel_rfl) (by kernel_rfl))) (enters_of Tryz.func102 (by kernel_rfl) rfl) (by intro w hb; exact clone_i' w0.heap.size wear vw w (stable_cells _ _ _ _ hw hb) hl2 hb.size), ?_⟩
  refine ⟨isVal (.pointer (some ⟨g, 0, none⟩)), step_field 25 (.tmp 1) 0 ⟨g, 0, none⟩ ⟨g, 0, none⟩ (by kernel_rfl) (wanted_none (by kernel_rfl)) (knows_old 1 (.pointer (some ⟨g, 0, none⟩)) (by kernel_rfl) h1) (field_fl g 0 (by omega)), ?_⟩
  intro a w hk hb hd
  have d5 := fdone_of (hd 2 (by decide)) (t := 5) (V := isOwn w0.heap.size 9 (pages.map strC)) (by kernel_rfl) (by kernel_rfl)
  have d8 := fdone_of (hd 5 (by decide)) (t := 8) (V := isOwn w0.heap.size 3 (wear.map intC)) (by kernel_rfl) (by kernel_rfl)
  have d9 := fdone_of (hd 6 (by decide)) (t := 9) (V := isVal (.pointer (some ⟨g, 0, none⟩))) (by kernel_rfl) (by kernel_rfl)
  have e1 : a.tmps.getD 1 undef = .pointer (some ⟨g, 0, none⟩) := (hk.2.2 1 (by kernel_rfl)).trans h1
  have hcw := hc.keep hb hc.1
  have hfw := hf.keep hb hc.1
  have hgw : g < w0.heap.size := hc.1
  have hs10 : 10 < a.tmps.size := by rw [hk.2.1, hsz]; decide
  refine tail_store 22 (.tmp 9) (.tmp 5) ⟨g, 0, none⟩ (a.tmps.getD 5 undef) _ (by kernel_rfl) (by kernel_rfl) d9 rfl (by kernel_rfl) d5.one.1 d5.one.2 hcw.2.1 (hfw 0) ?_
  refine tail_field 25 (.tmp 1) 1 ⟨g, 0, none⟩ ⟨g, 1, none⟩ 10 (by kernel_rfl) (by kernel_rfl) e1 (field_fl g 1 (by omega)) ?_
  refine tail_store 23 (.tmp 10) (.tmp 8) ⟨g, 1, none⟩ (a.tmps.getD 8 undef) _ (by kernel_rfl) (by kernel_rfl) (getD_put_self hs10) (getD_put (by decide)) (by kernel_rfl) d8.one.1 d8.one.2 (hcw.set0 _).2.2.1 (hfw.set _ _ 1) ?_
  refine hQ _ w _ _ ((defers_put (a := a)).trans hk.1) ((size_put (a := a)).trans hk.2.1) (fun t ht => ?_) hb d5 d8
  have hall : (copyOps.toList.all fun o => o.dst != some 10) = false := by kernel_rfl
  rw [getD_put (fun e => by rw [e, hall] at ht; cases ht)]
  exact hk.2.2 t ht

set_option maxRecDepth 100000 in
set_option maxHeartbeats 1000000 in
theorem copied_any (F : Fl) (v : Value) (w : World) (hv : isFl F v w) (h1 : F.pages.length * 16 ≤ 140737488355328) (h2 : F.wear.length * 8 ≤ 140737488355328) :
    Calls Tryz.prog 153 #[v] w fun e w' => ∃ vp vw, e = .returned (.agg #[vp, vw, .int .i64 F.fuse, strC F.torn, .bool F.dead]) ∧ isOwn w.heap.size 9 (F.pages.map strC) vp w' ∧ isOwn w.heap.size 3 (F.wear.map intC) vw w' ∧ Below w.heap.size w w' := by
  obtain ⟨vp, vw, rfl, hp, hw⟩ := hv
  have HP := Lib.hid hp
  have HW := Lib.hid hw
  clear hp hw
  go_enter Tryz.func153, Tryz.ntmps153
  go_wp2_with fail
  have hb0 : Below w.heap.size w ((w.alloc (.cells #[vp, vw, .int .i64 F.fuse, strC F.torn, .bool F.dead] 25)).alloc (.cells #[.slice none 0 0, .slice none 0 0, .int .i64 0, .string ⟨#[]⟩, .bool false] 25)) := ((Below.refl _ _).alloc (Nat.le_refl _) _).alloc (by simp <;> omega) _
  have hc1 := cells5_new w 25 vp vw (.int .i64 F.fuse) (strC F.torn) (.bool F.dead)
  have hf1 := free5_new w #[vp, vw, .int .i64 F.fuse, strC F.torn, .bool F.dead] 25
  have hc2 := cells5_at (w.alloc (.cells #[vp, vw, .int .i64 F.fuse, strC F.torn, .bool F.dead] 25)) 25 (.slice none 0 0) (.slice none 0 0) (.int .i64 0) (.string ⟨#[]⟩) (.bool false) (w.heap.size + 1) (by simp)
  have hf2 := free5_at (w.alloc (.cells #[vp, vw, .int .i64 F.fuse, strC F.torn, .bool F.dead] 25)) #[.slice none 0 0, .slice none 0 0, .int .i64 0, .string ⟨#[]⟩, .bool false] 25 (w.heap.size + 1) (by simp)
  have hbn := (Below.refl (w.alloc (.cells #[vp, vw, .int .i64 F.fuse, strC F.torn, .bool F.dead] 25)).heap.size (w.alloc (.cells #[vp, vw, .int .i64 F.fuse, strC F.torn, .bool F.dead] 25))).alloc (Nat.le_refl _) (.cells #[.slice none 0 0, .slice none 0 0, .int .i64 0, .string ⟨#[]⟩, .bool false] 25)
  refine copied_region _ _ _ rfl w.heap.size F.pages F.wear vp vw (.int .i64 F.fuse) (strC F.torn) (.bool F.dead) rfl (hc1.keep hbn (by simp <;> omega)) (hf1.keep hbn (by simp <;> omega)) (stable_cells _ _ _ _ HP.out hb0) (stable_cells _ _ _ _ HW.out hb0) h1 h2 ?_
  intro act w1 vp' vw' hdf hsz hkeep hb1 ho1 ho2
  have hk1 : act.tmps.getD 1 undef = .pointer (some ⟨w.heap.size, 0, none⟩) := hkeep 1 (by kernel_rfl)
  have hk2 : act.tmps.getD 2 undef = .pointer (some ⟨w.heap.size + 1, 0, none⟩) := hkeep 2 (by kernel_rfl)
  obtain ⟨tm, df⟩ := act
  obtain rfl : df = [] := hdf
  clear hkeep
  obtain ⟨f, rfl, hk1, hk2⟩ : ∃ f : Nat → Value, tm = ((List.range 12).map f).toArray ∧ f 1 = .pointer (some ⟨w.heap.size, 0, none⟩) ∧ f 2 = .pointer (some ⟨w.heap.size + 1, 0, none⟩) := ⟨fun i => tm.getD i undef, arr_eta tm hsz, hk1, hk2⟩
  rw [show ((List.range 12).map f).toArray = #[f 0, f 1, f 2, f 3, f 4, f 5, f 6, f 7, f 8, f 9, f 10, f 11] from rfl]
  rw [hk1, hk2]
  clear hsz hk1 hk2
  have q1 := (((hc1.keep hbn (by simp <;> omega)).keep hb1 (by simp <;> omega)).set0 vp').set1 vw'
  have q2 := (((hc2.keep hb1 (by simp <;> omega)).apart (b := w.heap.size) (o := 0) vp' (by simp <;> omega)).apart (b := w.heap.size) (o := 1) vw' (by simp <;> omega))
  have q3 := ((hf2.keep hb1 (by simp <;> omega)).set ⟨w.heap.size, 0, none⟩ vp').set ⟨w.heap.size, 1, none⟩ vw'
  have hB : Below w.heap.size w ((w1.setCell ⟨w.heap.size, 0, none⟩ vp').setCell ⟨w.heap.size, 1, none⟩ vw') := ((hb0.trans (hb1.mono hb0.size)).setCell (p := ⟨w.heap.size, 0, none⟩) (Nat.le_refl _) vp').setCell (p := ⟨w.heap.size, 1, none⟩) (Nat.le_refl _) vw'
  replace ho1 := (ho1.set (p := ⟨w.heap.size, 0, none⟩) (by simp <;> omega) vp').set (p := ⟨w.heap.size, 1, none⟩) (by simp <;> omega) vw'
  replace ho2 := (ho2.set (p := ⟨w.heap.size, 0, none⟩) (by simp <;> omega) vp').set (p := ⟨w.heap.size, 1, none⟩) (by simp <;> omega) vw'
  obtain ⟨oc1, oo1⟩ := ho1.one
  obtain ⟨oc2, oo2⟩ := ho2.one
  generalize (w1.setCell ⟨w.heap.size, 0, none⟩ vp').setCell ⟨w.heap.size, 1, none⟩ vw' = W at *
  have HO1 := Lib.hid ho1
  have HO2 := Lib.hid ho2
  clear ho1 ho2 hc1 hc2 hf1 hf2 hbn hb1 hb0 HP HW
  have hB5 := below_set5 hB (g := w.heap.size + 1) (by omega) vp' vw' (.int .i64 F.fuse) (strC F.torn) (.bool F.dead)
  obtain ⟨g1, k0, k1, k2, k3, k4⟩ := q1
  obtain ⟨g2, j0, j1, j2, j3, j4⟩ := q2.set5_ vp' vw' (.int .i64 F.fuse) (strC F.torn) (.bool F.dead)
  have HQ2 := Lib.hid q2
  have HQ5 := Lib.hid (q2.set5_ vp' vw' (.int .i64 F.fuse) (strC F.torn) (.bool F.dead))
  have HQ3 := Lib.hid q3
  clear q2 q3
  have HP1 := Lib.hid (show isOwn w.heap.size 9 (F.pages.map strC) vp' (set5 W (w.heap.size + 1) vp' vw' (.int .i64 F.fuse) (strC F.torn) (.bool F.dead)) from (HO1.out.set5_ (by simp <;> omega) _ _ _ _ _).low (by simp <;> omega))
  have HP2 := Lib.hid (show isOwn w.heap.size 3 (F.wear.map intC) vw' (set5 W (w.heap.size + 1) vp' vw' (.int .i64 F.fuse) (strC F.torn) (.bool F.dead)) from (HO2.out.set5_ (by simp <;> omega) _ _ _ _ _).low (by simp <;> omega))
  go_wp2_with (refine wpList_store5 rfl _ _ rfl (w.heap.size + 1) vp' vw' (.int .i64 F.fuse) (strC F.torn) (.bool F.dead) rfl rfl HQ2.out HQ3.out oo1 oo2 rfl rfl rfl ?_)
  exact bodyPost_ret (results1 rfl _ _ (w.heap.size + 1) vp' vw' (.int .i64 F.fuse) (strC F.torn) (.bool F.dead) rfl HQ5.out) rfl ⟨_, _, rfl, HP1.out, HP2.out, hB5⟩
end Go.Proofs.YtpjafjnokgeifaaGreatDoor
end
section
namespace Go.Proofs.YtpjafjnokgeifaaGreatDoor
open Go.RowKit
set_option linter.unusedVariables false
set_option linter.unusedSimpArgs false

section
variable {P : Program} {ops : Array Oper} {base : World} {a0 : Act} {Q : Exit → Act → World → Prop} {kn : Nat → VP} {i : Nat} {V : VP}

theorem step_len (t : TypeId) (x : Operand) (v r : Value) (hop : (ops[i]?).map (·.op) = some (.call { callee := .builtin .len, args := #[x], argTypes := #[t] })) (hw : Wanted ops a0 kn i) (hx : Knows ops a0 kn i x (isVal v))
    (hr : ∀ ty w, (Builtin.len_ #[t] ty #[v]).run P w = .ok r w) : FStep P ops base a0 Q kn i (isVal r) :=
  step_pure r hop hw fun o a w ho hk hd => by
    have e1 : a.eval x = v := hx a w hk hd
    unfold execOp
    rw [ho]
    simp only [resolve, Sem.run_bind, Sem.run_pure, Result.andThen_ok, invoke, builtin, List.map_toArray, List.map_cons, List.map_nil, e1, hr]
/-- A place in a row. -/
theorem step_place (t e : TypeId) (x y : Operand) (b off n cap k : Nat) (hop : (ops[i]?).map (·.op) = some (.indexAddr t x y)) (hw : Wanted ops a0 kn i) (hx : Knows ops a0 kn i x (isVal (.slice (some ⟨b, off, none⟩) n cap))) (hy : Knows ops a0 kn i y (isVal (.int .i64 (k : Int))))
    (ht : P.underlying t = some (.slice e)) (hi : (P.info? e).map (·.size) = some 1) (hk : k < n) : FStep P ops base a0 Q kn i (isVal (.pointer (some ⟨b, off + k, none⟩))) :=
  step_pure _ hop hw fun o a w ho hk' hd => by
    have e1 : a.eval x = _ := hx a w hk' hd
    have e2 : a.eval y = _ := hy a w hk' hd
    obtain ⟨ie, hie, hz⟩ := Option.map_eq_some_iff.1 hi
    have hsz : (sizeOf e).run P w = .ok 1 w := by simp [sizeOf, typeInfo, hie, hz]
    unfold execOp
    rw [ho]
    simp only [e1, e2, Sem.run_bind]
    simp [Instr.indexAt, run_underlying ht, asIntOf, hsz, hk, Addr.add]
/-- The head, and the rest, of a text. -/
theorem step_head (t : TypeId) (x y : Operand) (l : List UInt8) (k : Nat) (hop : (ops[i]?).map (·.op) = some (.slice t x none (some y) none)) (hw : Wanted ops a0 kn i) (hx : Knows ops a0 kn i x (isVal (.string ⟨l.toArray⟩))) (hy : Knows ops a0 kn i y (isVal (.int .i64 (k : Int))))
    (hr : ∀ w, (Instr.sliceAt t (.string ⟨l.toArray⟩) none (some (.int .i64 (k : Int))) none).run P w = .ok (.string ⟨(l.take k).toArray⟩) w) : FStep P ops base a0 Q kn i (isVal (.string ⟨(l.take k).toArray⟩)) :=
  step_pure _ hop hw fun o a w ho hk' hd => by
    have e1 : a.eval x = _ := hx a w hk' hd
    have e2 : a.eval y = _ := hy a w hk' hd
    unfold execOp
    rw [ho]
    simp only [e1, e2, Sem.run_bind, Option.map_none, Option.map_some, hr, Result.andThen_ok, Sem.run_pure]
theorem step_rest (t : TypeId) (x y : Operand) (l : List UInt8) (k : Nat) (hop : (ops[i]?).map (·.op) = some (.slice t x (some y) none none)) (hw : Wanted ops a0 kn i) (hx : Knows ops a0 kn i x (isVal (.string ⟨l.toArray⟩))) (hy : Knows ops a0 kn i y (isVal (.int .i64 (k : Int))))
    (hr : ∀ w, (Instr.sliceAt t (.string ⟨l.toArray⟩) (some (.int .i64 (k : Int))) none none).run P w = .ok (.string ⟨(l.drop k).toArray⟩) w) : FStep P ops base a0 Q kn i (isVal (.string ⟨(l.drop k).toArray⟩)) :=
  step_pure _ hop hw fun o a w ho hk' hd => by
    have e1 : a.eval x = _ := hx a w hk' hd
    have e2 : a.eval y = _ := hy a w hk' hd
    unfold execOp
    rw [ho]
    simp only [e1, e2, Sem.run_bind, Option.map_none, Option.map_some, hr, Result.andThen_ok, Sem.run_pure]
/-- A method's value, and that it is none of nil. -/
theorem step_method (name : String) (x : Operand) (v : Value) (hop : (ops[i]?).map (·.op) = some (.makeFunc (.method name) #[x] #[])) (hw : Wanted ops a0 kn i) (hx : Knows ops a0 kn i x (isVal v)) : FStep P ops base a0 Q kn i (isVal (.func (.method name) #[v] #[])) :=
  step_pure _ hop hw fun o a w ho hk' hd => by
    have e1 : a.eval x = v := hx a w hk' hd
    unfold execOp
    rw [ho]
    simp [e1, Instr.makeFunc]
theorem step_nil (name : String) (x : Operand) (t : TypeId) (v : Value) (hop : (ops[i]?).map (·.op) = some (.nilCheck x)) (hw : Wanted ops a0 kn i) (hx : Knows ops a0 kn i x (isVal (.func (.method name) #[.iface t v] #[])))
    (hr : ∀ w, (nilAhead (P.types.size + Made.depth) t v name).run P w = .ok (some false) w) : FStep P ops base a0 Q kn i (isVal (.func (.method name) #[.iface t v] #[])) :=
  step_pure _ hop hw fun o a w ho hk' hd => by
    have e1 : a.eval x = _ := hx a w hk' hd
    unfold execOp
    rw [ho]
    simp only [e1]
    simp [run_program, hr]
/-- A call by an interface. -/
theorem step_invoke (name : String) (r : Operand) (recv : Value) (f : FuncId) (xs : Array Operand) (ts : Array TypeId) (vs ws : Array Value) (hop : (ops[i]?).map (·.op) = some (.call { callee := .invoke r name, args := xs, argTypes := ts })) (hw : Wanted ops a0 kn i) (hst : Stable V)
    (hx : ∀ a w, FKept ops a0 a → FDeps ops kn i a w → xs.map a.eval = vs) (hrv : Knows ops a0 kn i r (isVal recv)) (hr : ∀ w, (invoke (.fn (.method name) #[]) (#[recv] ++ vs)).run P w = .ok (.enter f ws) w)
    (hc : ∀ w, Below base.heap.size base w → Calls P f ws w fun e w' => ∃ v, e = .returned v ∧ V v w' ∧ Below w.heap.size w w') : FStep P ops base a0 Q kn i V :=
  step_mk hst hw fun o ho a w hk hb hd => by
    unfold Oper.wp execOp
    rw [op_of hop ho]
    have e1 : xs.map a.eval = vs := hx a w hk hd
    have e2 : a.eval r = recv := hrv a w hk hd
    simp only [resolve, e1, e2, Sem.run_bind, Sem.run_pure, Result.andThen_ok, hr]
    simp only [Oper.upon]
    refine (hc w hb).mono ?_
    rintro e w' ⟨v, rfl, hv, hbw⟩
    exact ⟨v, rfl, hv, hbw⟩
end
theorem ext_takeG (l : List UInt8) (n : Nat) : (⟨l.toArray⟩ : ByteArray).extract 0 n = ⟨(l.take n).toArray⟩ := by
  apply ByteArray.ext
  apply Array.toList_inj.1
  rw [ByteArray.data_extract, Array.toList_extract, List.extract_eq_take_drop]
  simp
theorem ext_dropG (l : List UInt8) (n : Nat) : (⟨l.toArray⟩ : ByteArray).extract n (⟨l.toArray⟩ : ByteArray).size = ⟨(l.drop n).toArray⟩ := by
  apply ByteArray.ext
  apply Array.toList_inj.1
  rw [ByteArray.data_extract, Array.toList_extract, List.extract_eq_take_drop, size_mk]
  simp
  exact List.take_of_length_le (by simp)
theorem len_str (l : List UInt8) (ty : TypeId) (w : World) : (Builtin.len_ #[9] ty #[.string ⟨l.toArray⟩]).run Tryz.prog w = .ok (.int .i64 (l.length : Int)) w := by
  simp [Builtin.len_, run_underlying Tryz.underlying9, goInt]
  rw [size_mk]
theorem head_str (l : List UInt8) (k : Nat) (hk : k ≤ l.length) (w : World) : (Instr.sliceAt 9 (.string ⟨l.toArray⟩) none (some (.int .i64 (k : Int))) none).run Tryz.prog w = .ok (.string ⟨(l.take k).toArray⟩) w := by
  rw [run_sliceAt_string _ _ _ _ _ _ Tryz.underlying9, run_slice_string_h (ht := Tryz.underlying9) (h0 := by omega) (h2 := by rw [size_mk]; omega)]
  rw [Int.toNat_natCast, ext_takeG]
theorem rest_str (l : List UInt8) (k : Nat) (hk : k ≤ l.length) (w : World) : (Instr.sliceAt 9 (.string ⟨l.toArray⟩) (some (.int .i64 (k : Int))) none none).run Tryz.prog w = .ok (.string ⟨(l.drop k).toArray⟩) w := by
  rw [run_sliceAt_string _ _ _ _ _ _ Tryz.underlying9, run_slice_string_l (ht := Tryz.underlying9) (h0 := by omega) (h1 := by rw [size_mk]; omega)]
  rw [Int.toNat_natCast, ext_dropG]
end Go.Proofs.YtpjafjnokgeifaaGreatDoor
end
section
namespace Go.Proofs.YtpjafjnokgeifaaGreatDoor
open Go.RowKit
set_option linter.unusedVariables false
set_option linter.unusedSimpArgs false
section
variable {P : Program} {ops : Array Oper} {base : World} {a0 : Act} {Q : Exit → Act → World → Prop} {kn : Nat → VP} {i : Nat} {V : VP}
theorem step_callP (f : FuncId) (xs : Array Operand) (ts : Array TypeId) (hop : (ops[i]?).map (·.op) = some (.call { callee := .value (.func f), args := xs, argTypes := ts })) (hw : Wanted ops a0 kn i) (hst : Stable V) (hent : Enters P f)
    (Pre : Array Value → World → Prop) (hx : ∀ a w, FKept ops a0 a → FDeps ops kn i a w → Pre (xs.map a.eval) w)
    (hc : ∀ vs w, Below base.heap.size base w → Pre vs w → Calls P f vs w fun e w' => ∃ v, e = .returned v ∧ V v w' ∧ Below w.heap.size w w') : FStep P ops base a0 Q kn i V :=
  step_mk hst hw fun o ho a w hk hb hd => by
    have hp := hx a w hk hd
    generalize hvs : xs.map a.eval = vs at hp
    unfold Oper.wp execOp
    rw [op_of hop ho]
    have e2 : a.eval (.func f) = .func (.func f) #[] #[] := rfl
    simp only [resolve, hvs, e2, Deferred.ofValue, Sem.run_bind, Sem.run_pure, Result.andThen_ok, invoke, Array.append_empty, Array.empty_append]
    rw [hent]
    simp only [Oper.upon]
    refine (hc vs w hb hp).mono ?_
    rintro e w' ⟨v, rfl, hv, hbw⟩
    exact ⟨v, rfl, hv, hbw⟩
theorem pre2 {x y : Operand} {V1 V2 : VP} (h1 : Knows ops a0 kn i x V1) (h2 : Knows ops a0 kn i y V2) : ∀ a w, FKept ops a0 a → FDeps ops kn i a w → (fun vs w => ∃ u v, vs = #[u, v] ∧ V1 u w ∧ V2 v w) (#[x, y].map a.eval) w := fun a w hk hd =>
  ⟨_, _, by simp, h1 a w hk hd, h2 a w hk hd⟩
theorem pre1 {x : Operand} {V1 : VP} (h1 : Knows ops a0 kn i x V1) : ∀ a w, FKept ops a0 a → FDeps ops kn i a w → (fun vs w => ∃ u, vs = #[u] ∧ V1 u w) (#[x].map a.eval) w := fun a w hk hd =>
  ⟨_, by simp, h1 a w hk hd⟩
theorem step_ints4 (t e : TypeId) (x0 x1 x2 x3 : Operand) (a0' a1 a2 a3 : Int) (ie : TypeInfo) (hop : (ops[i]?).map (·.op) = some (.buildSlice t 4 #[(0, x0), (1, x1), (2, x2), (3, x3)])) (hw : Wanted ops a0 kn i)
    (h0 : Knows ops a0 kn i x0 (isVal (.int .i64 a0'))) (h1 : Knows ops a0 kn i x1 (isVal (.int .i64 a1))) (h2 : Knows ops a0 kn i x2 (isVal (.int .i64 a2))) (h3 : Knows ops a0 kn i x3 (isVal (.int .i64 a3)))
    (hu : P.underlying t = some (.slice e)) (hie : P.info? e = some ie) (hz : ie.zero = some (.int .i64 0)) (hsz : ie.size = 1) : FStep P ops base a0 Q kn i (isCells [intC a0', intC a1, intC a2, intC a3]) :=
  step_mk (stable_cells _) hw fun o ho a w hk hb hd => by
    have e0 : a.eval x0 = intC a0' := h0 a w hk hd
    have e1 : a.eval x1 = intC a1 := h1 a w hk hd
    have e2 : a.eval x2 = intC a2 := h2 a w hk hd
    have e3 : a.eval x3 = intC a3 := h3 a w hk hd
    have hf : Instr.fill (fun i => some (i * ie.size, ie.size)) ((Array.range (4 * ie.size)).map ((Value.int .i64 0).cells[· % (Value.int .i64 0).cells.size]!)) ((#[(0, x0), (1, x1), (2, x2), (3, x3)] : Array (Nat × Operand)).map fun (i, x) => (i, a.eval x)).toList = some #[intC a0', intC a1, intC a2, intC a3] := by
      have e1 : ((#[(0, x0), (1, x1), (2, x2), (3, x3)] : Array (Nat × Operand)).map fun (i, x) => (i, a.eval x)).toList = (([intC a0', intC a1, intC a2, intC a3] : List Value).zipIdx 0).map fun x => (x.2, x.1) := by simp [e0, e1, e2, e3]
      rw [e1, hsz, Great.fill_flat _ _ (fun v hv => by simp only [List.mem_cons, List.not_mem_nil, or_false] at hv; rcases hv with rfl | rfl | rfl | rfl <;> rfl) (by simp)]
    refine wp_buildSlice t e 4 _ (op_of hop ho) _ ie (.int .i64 0) hu hie hz (by rw [hsz]; omega) (by rw [hsz]; omega) hf ?_
    refine ⟨_, rfl, .inr (.inr ⟨w.heap.size, 0, 4, rfl, by simp, fun j v hv => ?_⟩), (Below.refl _ _).alloc (Nat.le_refl _) _⟩
    rw [World.cell?_alloc_new]
    simpa using hv
theorem step_strs2 (t e : TypeId) (x y : List UInt8) (ie : TypeInfo) (hop : (ops[i]?).map (·.op) = some (.buildSlice t 2 #[(0, .const (.string ⟨x.toArray⟩)), (1, .const (.string ⟨y.toArray⟩))])) (hw : Wanted ops a0 kn i)
    (hu : P.underlying t = some (.slice e)) (hie : P.info? e = some ie) (hz : ie.zero = some (.string ⟨#[]⟩)) (hsz : ie.size = 1) : FStep P ops base a0 Q kn i (isCells [strC x, strC y]) :=
  step_mk (stable_cells _) hw fun o ho a w hk hb hd => by
    have hf : Instr.fill (fun i => some (i * ie.size, ie.size)) ((Array.range (2 * ie.size)).map ((Value.string ⟨#[]⟩).cells[· % (Value.string ⟨#[]⟩).cells.size]!)) ((#[(0, Operand.const (.string ⟨x.toArray⟩)), (1, Operand.const (.string ⟨y.toArray⟩))] : Array (Nat × Operand)).map fun (i, x) => (i, a.eval x)).toList = some #[strC x, strC y] := by
      have e1 : ((#[(0, Operand.const (.string ⟨x.toArray⟩)), (1, Operand.const (.string ⟨y.toArray⟩))] : Array (Nat × Operand)).map fun (i, x) => (i, a.eval x)).toList = (([strC x, strC y] : List Value).zipIdx 0).map fun x => (x.2, x.1) := by simp; exact ⟨rfl, rfl⟩
      rw [e1, hsz, Great.fill_flat _ _ (fun v hv => by simp only [List.mem_cons, List.not_mem_nil, or_false] at hv; rcases hv with rfl | rfl <;> rfl) (by simp)]
    refine wp_buildSlice t e 2 _ (op_of hop ho) _ ie (.string ⟨#[]⟩) hu hie hz (by rw [hsz]; omega) (by rw [hsz]; omega) hf ?_
    refine ⟨_, rfl, .inr (.inr ⟨w.heap.size, 0, 2, rfl, by simp, fun j v hv => ?_⟩), (Below.refl _ _).alloc (Nat.le_refl _) _⟩
    rw [World.cell?_alloc_new]
    simpa using hv
end
end Go.Proofs.YtpjafjnokgeifaaGreatDoor
end
section
namespace Go.Proofs.YtpjafjnokgeifaaGreatDoor
open Go.RowKit
set_option linter.unusedVariables false
set_option linter.unusedSimpArgs false

theorem below_drewN (w : World) (q : Nat) : Below w.heap.size w (w.drewN q) := ⟨rfl, rfl, rfl, Nat.le_refl _, fun _ _ => rfl⟩

set_option maxHeartbeats 400000 in
theorem unlike_i (n m : Nat) (a b : Option Addr) (c d : Nat) (w : World) (h : n ≠ m) (hn : n ≤ 1000000000) (hm : m ≤ 1000000000) :
    Calls Tryz.prog 208 #[.slice a n c, .slice b m d] w fun e w' => e = .returned (.bool false) ∧ Below w.heap.size w w' := by
  have h' : ((n : Int) != (m : Int)) = true := by simp [bne]; omega
  have h2 : ((n : Int) == (m : Int)) = false := by simp; omega
  go_enter Tryz.func208, Tryz.ntmps208
  go_wp2
  go_ret
  exact ⟨rfl, Below.refl _ _⟩

theorem equal_i (l m : List Int) (v u : Value) (w : World) (hv : isCells (l.map intC) v w) (hu : isCells (m.map intC) u w) (h1 : l.length ≤ 1000000000) (h2 : m.length ≤ 1000000000) :
    Calls Tryz.prog 208 #[v, u] w fun e w' => e = .returned (.bool (decide (l = m))) ∧ Below w.heap.size w w' := by
  by_cases hlen : l.length = m.length
  · by_cases h0 : l = []
    · subst h0
      obtain rfl : m = [] := List.eq_nil_of_length_eq_zero (by simpa using hlen.symm)
      obtain ⟨a, cap, rfl⟩ := hv.len
      obtain ⟨b, cap2, rfl⟩ := hu.len
      refine (Tryz.slices_Equal_int_empty a b cap 0 cap2 w (by omega)).mono ?_
      rintro e w' ⟨rfl, rfl⟩
      exact ⟨by simp, Below.refl _ _⟩
    · have hl0 : 0 < l.length := List.length_pos_iff.2 h0
      obtain ⟨b, off, cap, hv', hb, hc⟩ := hv.some_ (by simpa using hl0)
      obtain ⟨b2, off2, cap2, hu', hb2, hc2⟩ := hu.some_ (by rw [List.length_map]; omega)
      rw [List.length_map] at hv' hu'
      subst hv' hu'
      refine (Tryz.slices_Equal_int b off l.length cap b2 off2 m.length cap2 l m w (Nat.le_refl _) (Nat.le_refl _) (by omega) (by omega) (fun j hj => ?_) (fun j hj => ?_)).mono ?_
      · rw [hc j _ (get_map intC l j hj)]
        simp [intC, List.getD_eq_getElem?_getD, hj]
      · rw [hc2 j _ (get_map intC m j hj)]
        simp [intC, List.getD_eq_getElem?_getD, hj]
      · rintro e w' ⟨rfl, q, rfl⟩
        refine ⟨?_, below_drewN w q⟩
        rw [List.take_of_length_le (Nat.le_refl _), List.take_of_length_le (Nat.le_refl _)]
        congr 2
        by_cases h : l = m <;> simp [h]
  · obtain ⟨a, cap, rfl⟩ := hv.len
    obtain ⟨b, cap2, rfl⟩ := hu.len
    rw [List.length_map, List.length_map]
    rw [show decide (l = m) = false by simp; rintro rfl; exact hlen rfl]
    exact unlike_i l.length m.length a b cap cap2 w hlen h1 h2

end Go.Proofs.YtpjafjnokgeifaaGreatDoor
end
section
namespace Go.Proofs.YtpjafjnokgeifaaGreatDoor
open Go.RowKit
set_option linter.unusedVariables false

theorem setAll_size (g : Nat → Value) : ∀ (L : List Nat) (t : Array Value), (L.foldl (fun t s => t.setIfInBounds s (g s)) t).size = t.size
  | [], t => rfl
  | s :: L, t => by rw [List.foldl_cons, setAll_size g L]; simp
theorem setAll_get (g : Nat → Value) : ∀ (L : List Nat) (t : Array Value) (i : Nat), i < t.size → (L.foldl (fun t s => t.setIfInBounds s (g s)) t)[i]? = if L.contains i then some (g i) else t[i]?
  | [], t, i, hi => by simp
  | s :: L, t, i, hi => by
    rw [List.foldl_cons, setAll_get g L _ i (by simpa using hi), List.contains_cons]
    by_cases h : L.contains i = true
    · rw [h, Bool.or_true]; simp only [if_true]
    · simp only [h, Bool.false_eq_true, if_false, Bool.or_false]
      by_cases e : i = s
      · subst e; simp [hi]
      · simp [Ne.symm e, e]
theorem act_of {a a0 : Act} (hd : a.defers = a0.defers) (hs : a.tmps.size = a0.tmps.size) (L : List Nat) (hk : ∀ t, L.contains t = false → a.tmps.getD t undef = a0.tmps.getD t undef) :
    a = { tmps := L.foldl (fun t s => t.setIfInBounds s (a.tmps.getD s undef)) a0.tmps, defers := a0.defers } := by
  obtain ⟨tm, df⟩ := a
  simp only at hd hs hk ⊢
  subst hd
  congr 1
  apply Array.ext_getElem?
  intro i
  by_cases hi : i < a0.tmps.size
  · rw [setAll_get _ _ _ _ hi]
    by_cases h : L.contains i = true
    · rw [if_pos h]; simp [show i < tm.size by omega]
    · rw [if_neg h]
      have := hk i (by simpa using h)
      simpa [Array.getD_eq_getD_getElem?, show i < tm.size by omega, hi] using this
  · rw [Array.getElem?_eq_none (by omega), Array.getElem?_eq_none (by rw [setAll_size]; omega)]
theorem kept_of {ops : Array Oper} {a0 a : Act} (h : FKept ops a0 a) (D : List (Option Nat)) (L : List Nat) (hD : ops.toList.map (·.dst) = D) (hL : D.filterMap id = L) :
    a = { tmps := L.foldl (fun t s => t.setIfInBounds s (a.tmps.getD s undef)) a0.tmps, defers := a0.defers } := by
  refine act_of h.1 h.2.1 L (fun t ht => h.2.2 t ?_)
  rw [List.all_eq_true]
  intro o ho
  have hm : o.dst ∈ D := by rw [← hD]; exact List.mem_map.2 ⟨o, ho, rfl⟩
  cases hdst : o.dst with
  | none => rfl
  | some s =>
    rw [hdst] at hm
    have : s ∈ L := by rw [← hL]; exact List.mem_filterMap.2 ⟨some s, hm, rfl⟩
    simp only [bne_iff_ne, ne_eq, Option.some.injEq]
    rintro rfl
    rw [List.contains_eq_mem] at ht
    simp [this] at ht
end Go.Proofs.YtpjafjnokgeifaaGreatDoor
end
section
namespace Go.Proofs.YtpjafjnokgeifaaGreatDoor
open Go.RowKit
set_option linter.unusedVariables false
set_option linter.unusedSimpArgs false

/-- Block g begins with just these cells. -/
def CellsN (w : World) (g : Nat) (l : List Value) : Prop := g < w.heap.size ∧ ∀ (j : Nat) (x : Value), l[j]? = some x → w.cell? ⟨g, j, none⟩ = some x
theorem CellsN.keep {w w' : World} {g B : Nat} {l : List Value} (h : CellsN w g l) (hb : Below B w w') (hB : g < B) : CellsN w' g l :=
  ⟨Nat.lt_of_lt_of_le h.1 hb.size, fun j x hx => (hb.cell (p := ⟨g, j, none⟩) hB).trans (h.2 j x hx)⟩
theorem cellsN_new (w : World) (t : TypeId) (l : List Value) : CellsN (w.alloc (.cells l.toArray t)) w.heap.size l := by
  refine ⟨by simp, fun j x hx => ?_⟩
  rw [World.cell?_alloc_new]
  simpa using hx
theorem cellsN_at (w : World) (t : TypeId) (l : List Value) (n : Nat) (hn : n = w.heap.size) : CellsN (w.alloc (.cells l.toArray t)) n l := by subst hn; exact cellsN_new w t l

/-- Cells written one behind the other. -/
def setN (w : World) (g : Nat) : Nat → List Value → World
  | _, [] => w
  | k, v :: r => setN (w.setCell ⟨g, k, none⟩ v) g (k + 1) r
theorem size_setN (g : Nat) : ∀ (l : List Value) (k : Nat) (w : World), (setN w g k l).heap.size = w.heap.size
  | [], _, _ => rfl
  | v :: r, k, w => by rw [setN, size_setN g r]; simp
theorem setN_other (g : Nat) : ∀ (l : List Value) (k : Nat) (w : World) (p : Addr), (p.block ≠ g ∨ p.off < k) → (setN w g k l).cell? p = w.cell? p
  | [], _, _, _, _ => rfl
  | v :: r, k, w, p, h => by
    rw [setN, setN_other g r (k + 1) _ p (by omega), World.cell?_setCell_other w _ _ _ (by rintro rfl; simp at h)]
theorem setN_cell (g : Nat) : ∀ (l : List Value) (k : Nat) (w : World), (∀ j, j < l.length → ∃ o, w.cell? ⟨g, k + j, none⟩ = some o) → ∀ (j : Nat) (x : Value), l[j]? = some x → (setN w g k l).cell? ⟨g, k + j, none⟩ = some x
  | [], _, _, _, j, x, hx => by simp at hx
  | v :: r, k, w, h, j, x, hx => by
    rw [setN]
    obtain ⟨o, ho⟩ := h 0 (by simp)
    cases j with
    | zero =>
      simp only [List.getElem?_cons_zero, Option.some.injEq] at hx
      subst hx
      rw [setN_other g r (k + 1) _ _ (.inr (by simp))]
      exact World.cell?_setCell_same w _ _ ho
    | succ j =>
      have e : k + (j + 1) = k + 1 + j := by omega
      rw [e]
      refine setN_cell g r (k + 1) _ (fun i hi => ?_) j x (by simpa using hx)
      obtain ⟨o', ho'⟩ := h (i + 1) (by simp; omega)
      refine ⟨o', ?_⟩
      rw [World.cell?_setCell_other w _ _ _ (by intro hh; injection hh; omega), show k + 1 + i = k + (i + 1) by omega]
      exact ho'
theorem heap_setN (g : Nat) : ∀ (l : List Value) (k : Nat) (w : World) (b : Nat), b ≠ g → (setN w g k l).heap[b]? = w.heap[b]?
  | [], _, _, _, _ => rfl
  | v :: r, k, w, b, h => by rw [setN, heap_setN g r (k + 1) _ b h]; exact heap_setCell_other w ⟨g, k, none⟩ b v h
theorem setN_frozen (g : Nat) : ∀ (l : List Value) (k : Nat) (w : World) (p : Addr), (setN w g k l).frozen? p = w.frozen? p
  | [], _, _, _ => rfl
  | v :: r, k, w, p => by rw [setN, setN_frozen g r, World.frozen?_setCell]
theorem CellsN.setN_ {w : World} {g : Nat} {old : List Value} (h : CellsN w g old) (l : List Value) (hl : old.length = l.length) : CellsN (setN w g 0 l) g l := by
  refine ⟨by rw [size_setN]; exact h.1, fun j x hx => ?_⟩
  have := setN_cell g l 0 w (fun j hj => ⟨_, by rw [Nat.zero_add]; exact h.2 j _ (List.getElem?_eq_getElem (by omega))⟩) j x hx
  rwa [Nat.zero_add] at this
theorem CellsN.apartN {w : World} {g b : Nat} {old : List Value} (h : CellsN w g old) (k : Nat) (l : List Value) (hne : b ≠ g) : CellsN (setN w b k l) g old :=
  ⟨by rw [size_setN]; exact h.1, fun j x hx => (setN_other b l k w _ (.inl (by simpa using Ne.symm hne))).trans (h.2 j x hx)⟩
theorem Free5.setN_ {w : World} {g : Nat} (h : Free5 w g) (b k : Nat) (l : List Value) : Free5 (setN w b k l) g := fun j => by rw [setN_frozen]; exact h j
theorem below_setN {B : Nat} {w0 : World} {g : Nat} (hg : B ≤ g) : ∀ (l : List Value) (k : Nat) (w : World), Below B w0 w → Below B w0 (setN w g k l)
  | [], _, _, h => h
  | v :: r, k, w, h => by rw [setN]; exact below_setN hg r (k + 1) _ (h.setCell (p := ⟨g, k, none⟩) hg v)
theorem isOwn.setN_ {B : Nat} {e : TypeId} {cs : List Value} {v : Value} {g : Nat} (hg : g < B) : ∀ (l : List Value) (k : Nat) (w : World), isOwn B e cs v w → isOwn B e cs v (setN w g k l)
  | [], _, _, h => h
  | u :: r, k, w, h => by rw [setN]; exact isOwn.setN_ hg r (k + 1) _ (h.set (p := ⟨g, k, none⟩) hg u)

/-- Each is one cell. -/
def Ones : List Value → Prop
  | [] => True
  | v :: r => v.oneCell' = true ∧ Ones r
theorem storeCellsN {P : Program} (g : Nat) : ∀ (l : List Value) (k : Nat) (w : World), Ones l → (∀ j, j < l.length → ∃ o, w.cell? ⟨g, k + j, none⟩ = some o) → Free5 w g → (storeCells ⟨g, 0, none⟩ l k).run P w = .ok () (setN w g k l)
  | [], _, _, _, _, _ => rfl
  | v :: r, k, w, h1, h, hf => by
    obtain ⟨o, ho⟩ := h 0 (by simp)
    have ea : (⟨g, 0, none⟩ : Addr).add k = ⟨g, k, none⟩ := by
      by_cases e : k = 0
      · subst e; simp [Addr.add]
      · simp [Addr.add, e]
    unfold storeCells
    rw [Sem.run_bind, ea, run_store P w _ v _ h1.1, show w.cell? ⟨g, k, none⟩ = some o from ho]
    simp only [hf k, Bool.false_eq_true, if_false]
    rw [Result.andThen_ok, storeCellsN g r (k + 1) _ h1.2 (fun j hj => ?_) (hf.set _ _)]
    · rfl
    · obtain ⟨o', ho'⟩ := h (j + 1) (by simp; omega)
      refine ⟨o', ?_⟩
      rw [World.cell?_setCell_other w _ _ _ (by intro hh; injection hh; omega), show k + 1 + j = k + (j + 1) by omega]
      exact ho'
theorem storeN {P : Program} (t : TypeId) (g : Nat) (w : World) (old l : List Value) (hs : (P.info? t).map (·.size) = some l.length) (h : CellsN w g old) (hl : old.length = l.length) (hf : Free5 w g) (h1 : Ones l) :
    (Instr.storeAt t (.pointer (some ⟨g, 0, none⟩)) (.agg l.toArray)).run P w = .ok () (setN w g 0 l) := by
  obtain ⟨ie, hie, hz⟩ := Option.map_eq_some_iff.1 hs
  have hsz : (sizeOf t).run P w = .ok l.length w := by simp [sizeOf, typeInfo, hie, hz]
  simp only [Instr.storeAt, Instr.sureAddr, Sem.run_bind, Sem.run_pure, Result.andThen_ok, storeVar, hsz]
  rw [if_neg (show ¬ ((Value.agg l.toArray).cells.size ≠ l.length) by show ¬ (l.toArray.size ≠ l.length); simp)]
  show (storeCells ⟨g, 0, none⟩ l.toArray.toList 0).run P w = _
  exact storeCellsN g l 0 w h1 (fun j hj => ⟨_, by rw [Nat.zero_add]; exact h.2 j _ (List.getElem?_eq_getElem (by omega))⟩) hf
theorem wpList_storeN {P : Program} {ops : Array Oper} {rest : List Oper} {o : Oper} {a : Act} {w : World} {Q : Exit → Act → World → Prop} (t : TypeId) (hgd : o.guard = none) (x y : Operand) (ho : o.op = .store t x y)
    (g : Nat) (l : List Value) (hs : (P.info? t).map (·.size) = some l.length) (hx : a.eval x = .pointer (some ⟨g, 0, none⟩)) (hy : a.eval y = .agg l.toArray) {old : List Value} (h : CellsN w g old) (hl : old.length = l.length) (hf : Free5 w g) (h1 : Ones l)
    (hr : wpList P ops Q rest (a.put o.dst undef) (setN w g 0 l)) : wpList P ops Q (o :: rest) a w :=
  wpList_plain hgd fun K hK => by
    unfold Oper.wp execOp
    rw [ho]
    simp only [hx, hy, Sem.run_bind, storeN t g w old l hs h hl hf h1, Result.andThen_ok, Sem.run_pure, Oper.upon]
    exact hK _ _ hr
theorem loadCellsN {P : Program} (g : Nat) (w : World) : ∀ (l : List Value) (k : Nat) (acc : Array Value), (∀ j x, l[j]? = some x → w.cell? ⟨g, k + j, none⟩ = some x) → (loadCellsFrom ⟨g, 0, none⟩ k l.length acc).run P w = .ok (acc ++ l.toArray) w
  | [], k, acc, _ => by simp [loadCellsFrom]
  | v :: r, k, acc, h => by
    have ea : (⟨g, 0, none⟩ : Addr).add k = ⟨g, k, none⟩ := by
      by_cases e : k = 0
      · subst e; simp [Addr.add]
      · simp [Addr.add, e]
    have h0 : w.cell? ⟨g, k, none⟩ = some v := h 0 v rfl
    rw [List.length_cons]
    unfold loadCellsFrom
    rw [Sem.run_bind, ea]
    have hl : (load ⟨g, k, none⟩).run P w = .ok v w := by simp [h0]
    rw [hl, Result.andThen_ok, loadCellsN g w r (k + 1) (acc.push v) (fun j x hx => by rw [show k + 1 + j = k + (j + 1) by omega]; exact h (j + 1) x (by simpa using hx))]
    simp
theorem loadN {P : Program} (t : TypeId) (g : Nat) (w : World) (l : List Value) (hs : (P.info? t).map (·.size) = some l.length) (ha : ∀ w, (isAgg t).run P w = .ok true w) (h : CellsN w g l) : (loadVar t ⟨g, 0, none⟩).run P w = .ok (.agg l.toArray) w := by
  obtain ⟨ie, hie, hz⟩ := Option.map_eq_some_iff.1 hs
  have hsz : (sizeOf t).run P w = .ok l.length w := by simp [sizeOf, typeInfo, hie, hz]
  have hc := loadCellsN (P := P) g w l 0 #[] (fun j x hx => by rw [Nat.zero_add]; exact h.2 j x hx)
  simp only [loadVar, Sem.run_bind, ha, Result.andThen_ok, if_true, hsz, loadCells, hc, Sem.run_pure]
  simp
theorem resultsN1 {P : Program} {fn : Func} {p : Tmp} {t : TypeId} (h : fn.results = #[.cell p t]) (tmps : Array Value) (w : World) (g : Nat) (l : List Value) (hs : (P.info? t).map (·.size) = some l.length) (ha : ∀ w, (isAgg t).run P w = .ok true w) (hp : tmps.getD p undef = .pointer (some ⟨g, 0, none⟩)) (hc : CellsN w g l) :
    (results fn tmps).run P w = .ok (.agg l.toArray) w := by
  have hp' : tmps[p]?.getD undef = .pointer (some ⟨g, 0, none⟩) := by simpa using hp
  simp [results, h, hp', asAddr, loadN t g w l hs ha hc]
theorem resultsN2 {P : Program} {fn : Func} {p u : Tmp} {t : TypeId} (h : fn.results = #[.cell p t, .tmp u]) (tmps : Array Value) (w : World) (g : Nat) (l : List Value) (x : Value) (hs : (P.info? t).map (·.size) = some l.length) (ha : ∀ w, (isAgg t).run P w = .ok true w) (hp : tmps.getD p undef = .pointer (some ⟨g, 0, none⟩)) (hx : tmps.getD u undef = x) (hc : CellsN w g l) :
    (results fn tmps).run P w = .ok (.tuple #[.agg l.toArray, x]) w := by
  rw [results_cell_tmp h, hp, hx]
  simp [asAddr, loadN t g w l hs ha hc]
section
variable {P : Program} {ops : Array Oper} {base : World} {a0 : Act} {Q : Exit → Act → World → Prop} {kn : Nat → VP} {i : Nat} {V : VP}
theorem step_loadN (t : TypeId) (x : Operand) (g : Nat) (l : List Value) (hop : (ops[i]?).map (·.op) = some (.load t x)) (hw : Wanted ops a0 kn i) (hx : Knows ops a0 kn i x (isVal (.pointer (some ⟨g, 0, none⟩))))
    (hs : (P.info? t).map (·.size) = some l.length) (ha : ∀ w, (isAgg t).run P w = .ok true w) (hc : CellsN base g l) : FStep P ops base a0 Q kn i (isVal (.agg l.toArray)) :=
  step_mk (stable_val _) hw fun o ho a w hk hb hd => by
    have e1 : a.eval x = .pointer (some ⟨g, 0, none⟩) := hx a w hk hd
    unfold Oper.wp execOp
    rw [op_of hop ho]
    simp only [e1, Instr.loadAt, Instr.sureAddr, Sem.run_bind, Sem.run_pure, Result.andThen_ok, loadN t g w l hs ha (hc.keep hb hc.1), Oper.upon]
    exact ⟨_, rfl, rfl, Below.refl _ _⟩
/-- A struct put together out of what is known. -/
theorem step_buildP (t : TypeId) (parts : Array (Nat × Operand)) (hop : (ops[i]?).map (·.op) = some (.build t parts)) (hw : Wanted ops a0 kn i) (hst : Stable V)
    (hx : ∀ a w, FKept ops a0 a → FDeps ops kn i a w → ∃ cs, P.built t (parts.map fun (i, x) => (i, a.eval x)).toList = some cs ∧ V (.agg cs) w) : FStep P ops base a0 Q kn i V :=
  step_mk hst hw fun o ho a w hk hb hd => by
    obtain ⟨cs, h1, h2⟩ := hx a w hk hd
    unfold Oper.wp execOp
    rw [op_of hop ho]
    simp only [Sem.run_bind]
    rw [run_build (P := P) w t _ cs (by simpa using h1)]
    exact ⟨_, rfl, h2, Below.refl _ _⟩
variable {a : Act} {w : World} {c : Nat}
theorem tail_build (t : TypeId) (parts : Array (Nat × Operand)) (cs : Array Value) (d : Tmp) (hop : (ops[i]?).map (fun o => (o.op, o.guard)) = some (.build t parts, none)) (hd : (ops[i]?).bind (·.dst) = some d)
    (hb : P.built t (parts.map fun (i, x) => (i, a.eval x)).toList = some cs) (h : Tail P ops Q c (i + 1) (a.put (some d) (.agg cs)) w) : Tail P ops Q (c + 1) i a w :=
  tail_op (fun _ _ => True) hop fun o ho e => by
    rw [ho] at hd
    simp only [Option.bind_some] at hd
    unfold Oper.wp execOp
    rw [e]
    simp only [Sem.run_bind]
    rw [run_build (P := P) w t _ cs (by simpa using hb)]
    simp only [Result.andThen_ok, Sem.run_pure, Oper.upon, hd]
    exact h
theorem tail_storeN (t : TypeId) (x y : Operand) (g : Nat) (l old : List Value) (hop : (ops[i]?).map (fun o => (o.op, o.guard)) = some (.store t x y, none)) (hdst : (ops[i]?).map (·.dst) = some none) (hs : (P.info? t).map (·.size) = some l.length) (hx : a.eval x = .pointer (some ⟨g, 0, none⟩)) (hy : a.eval y = .agg l.toArray)
    (hc : CellsN w g old) (hl : old.length = l.length) (hf : Free5 w g) (h1 : Ones l) (h : Tail P ops Q c (i + 1) a (setN w g 0 l)) : Tail P ops Q (c + 1) i a w :=
  tail_op (fun _ _ => True) hop fun o ho e => by
    rw [ho] at hdst
    simp only [Option.map_some, Option.some.injEq] at hdst
    unfold Oper.wp execOp
    rw [e]
    simp only [hx, hy, Sem.run_bind, storeN t g w old l hs hc hl hf h1, Result.andThen_ok, Sem.run_pure, Oper.upon, hdst]
    exact h
end
end Go.Proofs.YtpjafjnokgeifaaGreatDoor
end
section
namespace Go.Proofs.YtpjafjnokgeifaaGreatDoor
open Go.RowKit
set_option linter.unusedVariables false
set_option linter.unusedSimpArgs false

theorem isCells.one {cs : List Value} {v : Value} {w : World} (h : isCells cs v w) : v.oneCell' = true := by
  obtain ⟨a, cap, rfl⟩ := h.len
  rfl
def blk : Value → Option Nat
  | .slice (some a) _ _ => some a.block
  | _ => none
def NewB (B : Nat) (v : Value) : Prop := ∀ b, blk v = some b → B ≤ b
theorem NewB.low {B B' : Nat} {v : Value} (h : NewB B v) (hB : B' ≤ B) : NewB B' v := fun b hb => Nat.le_trans hB (h b hb)
theorem newB_nil (B : Nat) : NewB B (.slice none 0 0) := fun b h => by cases h
theorem newB_row {B g : Nat} (h : B ≤ g) (o n c : Nat) : NewB B (.slice (some ⟨g, o, none⟩) n c) := fun b hb => by cases hb; exact h
theorem NewB.ne {B g : Nat} {v : Value} (h : NewB B v) (hg : g < B) : blk v ≠ some g := fun e => by have := h g e; omega
/-- Block b holds just these cells, and may be written. -/
structure Blk (W : World) (b : Nat) (cs : List Value) : Prop where
  cells : CellsN W b cs
  free : Free5 W b
theorem Blk.lt {W : World} {b : Nat} {cs : List Value} (h : Blk W b cs) : b < W.heap.size := h.cells.1
theorem Blk.keep {W W' : World} {b : Nat} {cs : List Value} (h : Blk W b cs) (k : Below W.heap.size W W') : Blk W' b cs := ⟨h.cells.keep k h.lt, h.free.keep k h.lt⟩
theorem Blk.set {W : World} {b : Nat} {cs : List Value} (h : Blk W b cs) (k : Nat) (x : Value) (hk : k < cs.length) : Blk (W.setCell ⟨b, k, none⟩ x) b (cs.set k x) := by
  refine ⟨⟨by simpa using h.lt, fun j y hy => ?_⟩, fun j => by rw [World.frozen?_setCell]; exact h.free j⟩
  by_cases e : k = j
  · subst e
    rw [World.cell?_setCell_same W _ _ (h.cells.2 k _ (List.getElem?_eq_getElem hk))]
    rw [List.getElem?_set_self hk] at hy
    exact hy
  · rw [World.cell?_setCell_other W _ _ _ (by intro h; injection h; contradiction)]
    rw [List.getElem?_set_ne e] at hy
    exact h.cells.2 j y hy
theorem Blk.apart {W : World} {b b' : Nat} {cs : List Value} (h : Blk W b cs) (hne : b ≠ b') (k : Nat) (x : Value) : Blk (W.setCell ⟨b', k, none⟩ x) b cs :=
  ⟨⟨by simpa using h.lt, fun j y hy => by rw [World.cell?_setCell_other W _ _ _ (by intro h; injection h with h1; exact hne h1.symm)]; exact h.cells.2 j y hy⟩, fun j => by rw [World.frozen?_setCell]; exact h.free j⟩
theorem Blk.all_ {W : World} {b : Nat} {cs l : List Value} (h : Blk W b cs) (hl : cs.length = l.length) : Blk (setN W b 0 l) b l := ⟨h.cells.setN_ l hl, h.free.setN_ b 0 l⟩
theorem Blk.apartN {W : World} {b b' : Nat} {cs : List Value} (h : Blk W b cs) (hne : b ≠ b') (k : Nat) (l : List Value) : Blk (setN W b' k l) b cs := ⟨h.cells.apartN k l (fun e => hne e.symm), h.free.setN_ b' k l⟩
theorem Blk.new (W : World) (t : TypeId) (l : List Value) (n : Nat) (hn : n = W.heap.size) : Blk (W.alloc (.cells l.toArray t)) n l := ⟨cellsN_at W t l n hn, free5_at W l.toArray t n hn⟩
theorem Blk.alloc {W : World} {b : Nat} {cs : List Value} (h : Blk W b cs) (o : Obj) : Blk (W.alloc o) b cs := h.keep ((Below.refl _ _).alloc (Nat.le_refl _) _)

theorem cells_apart {cs : List Value} {v : Value} {w : World} (h : isCells cs v w) {g : Nat} (hg : ∀ b off cap, v = .slice (some ⟨b, off, none⟩) cs.length cap → cs ≠ [] → b ≠ g) (k : Nat) (l : List Value) : isCells cs v (setN w g k l) := by
  rcases h with h | h | ⟨b, off, cap, e, hlt, hc⟩
  · exact .inl h
  · exact .inr (.inl h)
  · by_cases h0 : cs = []
    · subst h0; exact .inr (.inl ⟨_, _, e, rfl⟩)
    · exact .inr (.inr ⟨b, off, cap, e, by rw [size_setN]; exact hlt, fun j x hx => (setN_other g l k w _ (.inl (hg b off cap e h0))).trans (hc j x hx)⟩)
theorem isCells.setCell_apart {cs : List Value} {v : Value} {w : World} (h : isCells cs v w) (g k : Nat) (x : Value) (hg : blk v ≠ some g) : isCells cs v (w.setCell ⟨g, k, none⟩ x) := by
  rcases h with h | h | ⟨b, off, cap, e, hlt, hc⟩
  · exact .inl h
  · exact .inr (.inl h)
  · have hne : b ≠ g := by rintro rfl; exact hg (by rw [e]; rfl)
    exact .inr (.inr ⟨b, off, cap, e, by simpa using hlt, fun j y hy => by rw [World.cell?_setCell_other w _ _ _ (by intro e; injection e with e1; exact hne e1.symm)]; exact hc j y hy⟩)
theorem own_slice {B : Nat} {e : TypeId} {cs : List Value} {v : Value} {w : World} (h : isOwn B e cs v w) : NewB B v ∧ ∃ a n c, v = .slice a n c := by
  obtain ⟨hl, ⟨rfl, _⟩ | ⟨g, cap, cur, rfl, hB, _⟩⟩ := h
  · exact ⟨newB_nil B, _, _, _, rfl⟩
  · exact ⟨newB_row hB _ _ _, _, _, _, rfl⟩
theorem cells_src {cs : List Value} {v : Value} {w : World} (h : isCells cs v w) : (v = .slice none 0 0 ∧ cs = []) ∨ ∃ ad cap, v = .slice (some ad) cs.length cap ∧ ∀ (j : Nat) (u : Value), cs[j]? = some u → w.cell? (ad.add j) = some u := by
  rcases h with h | ⟨a, cap, rfl, rfl⟩ | ⟨b, off, cap, rfl, _, hc⟩
  · exact .inl h
  · exact .inr ⟨a, cap, rfl, fun j u h => by simp at h⟩
  · exact .inr ⟨_, cap, rfl, fun j u h => by have h2 := hc j u h; cases j <;> simpa [Addr.add] using h2⟩
theorem ownsRow_block {w : World} {base : Nat} {e : TypeId} {z : Nat} {v : Value} {k : Nat} {xs : List Value} (h : w.ownsRow base e z v k xs) : ∀ j, v.ownBlock = some j → base ≤ j := by
  intro j hj
  obtain ⟨_, ⟨rfl, _⟩ | ⟨g, cap, cur, rfl, hb, _⟩⟩ := h
  · simp [Value.ownBlock] at hj
  · simp only [Value.ownBlock, Option.some.injEq] at hj
    omega
/-- A row of one's own, as a block. -/
theorem own_blk {w : World} {B : Nat} {e : TypeId} {v : Value} {n : Nat} {xs : List Value} (h : w.ownsRow B e 1 v n xs) (h0 : 0 < n) : ∃ g cap, v = .slice (some ⟨g, 0, none⟩) n cap ∧ B ≤ g ∧ n ≤ cap ∧ Blk w g xs := by
  have hi := isCells_own h
  obtain ⟨hl, ⟨_, rfl⟩ | ⟨g, cap, cur, rfl, hB, hg, hc, _⟩⟩ := h
  · omega
  · refine ⟨g, cap, rfl, hB, hc, ⟨⟨(Array.getElem?_eq_some_iff.1 hg).1, fun j x hx => ?_⟩, fun j => by simp [World.frozen?, hg]⟩⟩
    rcases hi with ⟨hn, _⟩ | ⟨a, c, hn, hx0⟩ | ⟨b, off, c, hn, _, hcell⟩
    · cases hn
    · subst hx0; simp at hx
    · injection hn with h1 h2 h3
      injection h1 with h1
      injection h1 with h1 h4
      subst h1 h4
      have := hcell j x hx
      rwa [Nat.zero_add] at this
theorem blk_cells {w : World} {g n cap : Nat} {xs : List Value} (h : Blk w g xs) (hn : xs.length = n) : isCells xs (.slice (some ⟨g, 0, none⟩) n cap) w := by
  subst hn
  exact .inr (.inr ⟨g, 0, cap, rfl, h.lt, fun j x hx => by rw [Nat.zero_add]; exact h.cells.2 j x hx⟩)
theorem size_fl : (Tryz.prog.info? 25).map (·.size) = some 5 := by kernel_rfl
theorem agg_fl (w : World) : (isAgg 25).run Tryz.prog w = .ok true w := by simp [isAgg, run_underlying Tryz.underlying25]
theorem lit_below (W : World) (o : Obj) : Below W.heap.size W (W.alloc o) := (Below.refl _ _).alloc (Nat.le_refl _) _
end Go.Proofs.YtpjafjnokgeifaaGreatDoor
end
