/- Joined texts: contracts of the program's functions, and the mathematics that they lean on. -/
import Derived.Test.YtipiioggdalkoaaGreatDoorPartA
import Derived.Laws.ResultCell
section
namespace Go.Proofs.YtipiioggdalkoaaGreatDoor
open Go.RowKit
set_option linter.unusedVariables false
set_option linter.unusedSimpArgs false

/-- What may happen to memory. -/
structure Pre (R : World → World → Prop) : Prop where
  refl : ∀ w, R w w
  trans : ∀ a b c, R a b → R b c → R a c
  grow : ∀ w w', Below w.heap.size w w' → R w w'
  drew : ∀ w, R w w.drew
/-- What the first k operations do not write is as it was. -/
def FKeptN (ops : Array Oper) (k : Nat) (a0 a : Act) : Prop := a.defers = a0.defers ∧ a.tmps.size = a0.tmps.size ∧ ∀ t, ((List.range k).all fun i => (ops[i]?).all fun o => o.dst != some t) = true → a.tmps.getD t undef = a0.tmps.getD t undef
theorem FKeptN.f {ops : Array Oper} {k : Nat} {a0 a : Act} (h : FKeptN ops k a0 a) : FKept ops a0 a := by
  refine ⟨h.1, h.2.1, fun t ht => h.2.2 t ?_⟩
  rw [List.all_eq_true]
  intro i _
  cases ho : ops[i]? with
  | none => rfl
  | some o => exact List.all_eq_true.1 ht o (by rw [Array.mem_toList_iff]; exact Array.mem_of_getElem? ho)
def StableR (R : World → World → Prop) (V : VP) : Prop := ∀ v w w', V v w → R w w' → V v w'

section
variable (R : World → World → Prop) (P : Program) (ops : Array Oper) (base : World) (a0 : Act) (Q : Exit → Act → World → Prop)
/-- What operation j yielded, or did, is as it should be. -/
def RDone (kn : Nat → VP) (a : Act) (w : World) (j : Nat) : Prop := ∀ o, ops[j]? = some o → kn j (match o.dst with | some t => a.tmps.getD t undef | none => undef) w
def RDeps (kn : Nat → VP) (i : Nat) (a : Act) (w : World) : Prop := ∀ o, ops[i]? = some o → ∀ e ∈ o.after.toList, Region.binds .any e = true → RDone ops kn a w e.on
def RStep (k0 : Nat) (kn : Nat → VP) (i : Nat) (V : VP) : Prop := StableR R V ∧ ∀ o, ops[i]? = some o → ∀ a w, FKeptN ops k0 a0 a → R base w → RDeps ops kn i a w →
  wpOp P ops Q i (fun a' w' => ∃ v, a' = a.put o.dst v ∧ (o.dst = none → v = undef) ∧ V v w' ∧ R w w') a w
def RelTail (k0 c : Nat) : Nat → Nat → (Nat → VP) → Prop
  | 0, _, kn => ∀ a w, FKeptN ops k0 a0 a → R base w → (∀ j, j < k0 → RDone ops kn a w j) → Tail P ops Q c k0 a w
  | k + 1, i, kn => ∃ V, RStep R P ops base a0 Q k0 kn i V ∧ RelTail k0 c k (i + 1) (upd kn i V)
end

section
variable {R : World → World → Prop} {P : Program} {ops : Array Oper} {base : World} {a0 : Act} {Q : Exit → Act → World → Prop}
theorem rdone_congr {kn kn' : Nat → VP} {a : Act} {w : World} {j : Nat} (h : kn j = kn' j) (hd : RDone ops kn a w j) : RDone ops kn' a w j := by
  intro o ho
  rw [← h]
  exact hd o ho
theorem rdone_f {kn : Nat → VP} {a : Act} {w : World} {j : Nat} (h : RDone ops kn a w j) : FDone ops kn a w j := by
  intro o ho t ht
  have := h o ho
  rwa [ht] at this
/-- An operation that only reads, or makes memory. -/
theorem RStep.of {k0 : Nat} {kn : Nat → VP} {i : Nat} {V : VP} (hR : Pre R) (hst : StableR R V) (hd : ((ops[i]?).bind (·.dst)).isSome = true) (h : ∀ w, R base w → FStep P ops w a0 Q kn i V) : RStep R P ops base a0 Q k0 kn i V := by
  refine ⟨hst, fun o ho a w hk hb hdp => ?_⟩
  refine wpOp_mono ?_ ((h w hb).2 o ho a w hk.f (Below.refl _ _) (fun o' ho' e he hbd => rdone_f (hdp o' ho' e he hbd)))
  rintro a' w' ⟨v, e, hV, hbw⟩
  refine ⟨v, e, fun hn => ?_, hV, hR.grow _ _ hbw⟩
  rw [ho] at hd
  simp [hn] at hd

theorem wpAny_relTail {k0 : Nat} (hR : Pre R) (hok : flowOk ops a0.tmps.size = true) (ht : tailOk ops k0 = true) {kn : Nat → VP} (hs : ∀ m, m < k0 → RStep R P ops base a0 Q k0 kn m (kn m))
    (he : RelTail R P ops base a0 Q k0 (ops.size - k0) 0 k0 kn) :
    ∀ (u fuel : Nat) (listed : Array Bool) (a : Act) (w : World), listed.size = ops.size → ((List.range k0).filter fun i => !listed.getD i false).length ≤ u → u + (ops.size - k0) ≤ fuel → (∀ j, k0 ≤ j → listed.getD j false = false) →
      FKeptN ops k0 a0 a → R base w → (∀ j, listed.getD j false = true → RDone ops kn a w j) → wpAny P .any ops Q fuel listed a w := by
  obtain ⟨ok1, ok2, ok3⟩ := flowOk_spec hok
  have hk0 : k0 ≤ ops.size := by unfold tailOk at ht; simp only [Bool.and_eq_true, decide_eq_true_eq] at ht; exact ht.1
  have tk : ∀ j, j < ops.size → k0 < j → waits ops j (j - 1) = true := by
    intro j hj hk
    unfold tailOk at ht
    simp only [Bool.and_eq_true, List.all_eq_true, List.mem_range] at ht
    have := ht.2 j hj
    rwa [if_neg (by omega), if_neg (by omega)] at this
  have tk0 : ∀ m, k0 < ops.size → m < k0 → waits ops k0 m = true := by
    intro m hj hk
    unfold tailOk at ht
    simp only [Bool.and_eq_true, List.all_eq_true, List.mem_range] at ht
    have := ht.2 k0 hj
    rw [if_neg (by omega), if_pos rfl] at this
    exact List.all_eq_true.1 this m (by simpa using hk)
  intro u
  induction u with
  | zero =>
    intro fuel listed a w hl hu hf htl hk hb hd
    have hall : ∀ j, j < k0 → listed.getD j false = true := by
      intro j hj
      have h0 : ((List.range k0).filter fun i => !listed.getD i false) = [] := List.eq_nil_of_length_eq_zero (by omega)
      rw [List.filter_eq_nil_iff] at h0
      have := h0 j (by simpa using hj)
      simpa using this
    refine wpAny_tail hok ht (ops.size - k0) k0 fuel listed a w (by omega) (Nat.le_refl _) (by omega) hl ?_ (he a w hk hb (fun j hj => hd j (hall j hj)))
    intro j hj
    by_cases e : j < k0
    · rw [hall j e]; simp [e]
    · rw [htl j (by omega)]; simp [e]
  | succ u ih =>
    intro fuel listed a w hl hu hf htl hk hb hd
    by_cases hall : ∀ j, j < k0 → listed.getD j false = true
    · refine wpAny_tail hok ht (ops.size - k0) k0 fuel listed a w (by omega) (Nat.le_refl _) (by omega) hl ?_ (he a w hk hb (fun j hj => hd j (hall j hj)))
      intro j hj
      by_cases e : j < k0
      · rw [hall j e]; simp [e]
      · rw [htl j (by omega)]; simp [e]
    · -- the least that is not yet done
      have hex : ∃ m, m < k0 ∧ listed.getD m false = false ∧ ∀ j, j < m → listed.getD j false = true := by
        have key : ∀ n, n ≤ k0 → (∀ j, j < n → listed.getD j false = true) ∨ ∃ m, m < n ∧ listed.getD m false = false ∧ ∀ j, j < m → listed.getD j false = true := by
          intro n
          induction n with
          | zero => intro _; exact .inl (fun j hj => absurd hj (by omega))
          | succ n ihn =>
            intro hn
            rcases ihn (by omega) with h | ⟨m, hm, h1, h2⟩
            · cases hc : listed.getD n false with
              | true => exact .inl (fun j hj => by by_cases e : j = n; exact e ▸ hc; exact h j (by omega))
              | false => exact .inr ⟨n, by omega, hc, h⟩
            · exact .inr ⟨m, by omega, h1, h2⟩
        rcases key k0 (Nat.le_refl _) with h | h
        · exact absurd h hall
        · exact h
      obtain ⟨m, hm, hmu, hmd⟩ := hex
      have hmem : m ∈ Region.ready .any ops listed := ready_of hok hl (by omega) hmu hmd
      cases fuel with
      | zero => omega
      | succ fuel =>
        refine ⟨fun hr => (by rw [hr] at hmem; cases hmem), fun i hi => ?_⟩
        have hiu := ready_un hl hi
        have hik : i < k0 := by
          by_cases e : i < k0
          · exact e
          · exfalso
            by_cases e2 : i = k0
            · subst e2
              have := waits_ready hi (tk0 m hiu.1 hm)
              rw [hmu] at this
              cases this
            · have := waits_ready hi (tk i hiu.1 (by omega))
              rw [htl (i - 1) (by omega)] at this
              cases this
        obtain ⟨o, ho⟩ : ∃ o, ops[i]? = some o := ⟨_, Array.getElem?_eq_getElem hiu.1⟩
        have hstep := (hs i hik).2 o ho a w hk hb (by
          intro o' ho' e he' hbd
          rw [ho] at ho'
          cases ho'
          refine hd e.on (waits_ready hi ?_)
          unfold waits
          rw [ho]
          simp only [Option.any_some, List.any_eq_true, Bool.and_eq_true, beq_iff_eq]
          exact ⟨e, he', rfl, hbd⟩)
        refine wpOp_mono ?_ hstep
        rintro a' w' ⟨v, rfl, hvn, hV, hbw⟩
        refine ih fuel (listed.setIfInBounds i true) _ w' (by simpa using hl) ?_ (by omega) ?_ ?_ (hR.trans _ _ _ hb hbw) ?_
        · have hsub : ((List.range k0).filter fun j => !(listed.setIfInBounds i true).getD j false).length < ((List.range k0).filter fun j => !listed.getD j false).length := by
            have e1 : ((List.range k0).filter fun j => !(listed.setIfInBounds i true).getD j false) = ((List.range k0).filter fun j => !listed.getD j false).filter (fun j => j != i) := by
              rw [List.filter_filter]
              apply List.filter_congr
              intro j hj
              by_cases e : j = i
              · subst e; rw [getD_set_same (by omega)]; simp
              · rw [getD_set_ne e]; simp [e]
            rw [e1]
            refine List.length_filter_lt_length_iff_exists.2 ⟨i, ?_, by simp⟩
            simp only [List.mem_filter, List.mem_range]
            exact ⟨hik, by rw [hiu.2]; rfl⟩
          omega
        · intro j hj
          rw [getD_set_ne (by omega)]
          exact htl j hj
        · refine ⟨by rw [defers_put]; exact hk.1, by rw [size_put]; exact hk.2.1, fun t ht' => ?_⟩
          cases hdst : o.dst with
          | none => simp only [Act.put]; exact hk.2.2 t ht'
          | some s =>
            have : s ≠ t := by
              rintro rfl
              have := List.all_eq_true.1 ht' i (by simpa using hik)
              rw [ho] at this
              simp [hdst] at this
            rw [getD_put (fun h => this h.symm)]
            exact hk.2.2 t ht'
        · intro j hj o' ho'
          by_cases e : j = i
          · subst e
            rw [ho] at ho'
            cases ho'
            cases hdst : o.dst with
            | none => rw [hvn hdst] at hV; exact hV
            | some t =>
              show kn j (_) w'
              simp only []
              rw [getD_put_self (by rw [hk.2.1]; exact ok3 j o t ho hdst)]
              exact hV
          · rw [getD_set_ne e] at hj
            have hold := hd j hj o' ho'
            have hjk : j < k0 := by
              by_cases e2 : j < k0
              · exact e2
              · rw [htl j (by omega)] at hj; cases hj
            refine (hs j hjk).1 _ _ _ ?_ hbw
            cases hdst' : o'.dst with
            | none => rw [hdst'] at hold; exact hold
            | some t =>
              rw [hdst'] at hold
              have hne : o.dst ≠ some t := fun hh => e (ok2 j i o' o t ho' ho hdst' hh)
              have hslot : (a.put o.dst v).tmps.getD t undef = a.tmps.getD t undef := by
                cases hdst : o.dst with
                | none => rfl
                | some s => exact getD_put (fun h => hne (by rw [hdst, h]))
              simp only [hslot]
              exact hold

theorem relTail_family {n k0 c : Nat} (hok : flowOk ops n = true) : ∀ k i kn, i + k = k0 → (∀ m, m < i → RStep R P ops base a0 Q k0 kn m (kn m)) → RelTail R P ops base a0 Q k0 c k i kn →
    ∃ kn', (∀ m, m < k0 → RStep R P ops base a0 Q k0 kn' m (kn' m)) ∧ RelTail R P ops base a0 Q k0 c 0 k0 kn'
  | 0, i, kn, hi, hs, hf => ⟨kn, fun m hm => hs m (by omega), hf⟩
  | k + 1, i, kn, hi, hs, ⟨V, hV, hf⟩ => by
    have agree : ∀ m, m ≠ i → upd kn i V m = kn m := fun m hm => by simp [upd, hm]
    have self : upd kn i V i = V := by simp [upd]
    have shift : ∀ m W, m ≤ i → RStep R P ops base a0 Q k0 kn m W → RStep R P ops base a0 Q k0 (upd kn i V) m W := by
      intro m W hm h
      refine ⟨h.1, fun o ho a w hk hb hd => h.2 o ho a w hk hb ?_⟩
      intro o' ho' e he hbd
      have hlt := (flowOk_spec hok).1 m o' ho' e he hbd
      exact rdone_congr (agree e.on (by omega)) (hd o' ho' e he hbd)
    refine relTail_family hok k (i + 1) (upd kn i V) (by omega) (fun m hm => ?_) hf
    by_cases hmi : m = i
    · subst hmi; rw [self]; exact shift m V (Nat.le_refl _) hV
    · rw [agree m hmi]; exact shift m _ (by omega) (hs m (by omega))

/-- THE LAW. -/
theorem wp_region_rel (hR : Pre R) (k0 : Nat) {id : Nat} {a : Act} {w : World} (hm : P.follows .mixedOrders = true) (hok : flowOk ops a.tmps.size = true) (ht : tailOk ops k0 = true)
    (h : RelTail R P ops w a Q k0 (ops.size - k0) k0 0 (fun _ _ _ => False)) : (Code.region id ops true).wp P Q a w := by
  refine wp_region_any hm ?_
  obtain ⟨kn, hs, he⟩ := relTail_family hok k0 0 _ (by omega) (fun m hm => absurd hm (by omega)) h
  have hk0 : k0 ≤ ops.size := by unfold tailOk at ht; simp only [Bool.and_eq_true, decide_eq_true_eq] at ht; exact ht.1
  refine wpAny_relTail hR hok ht hs he k0 ops.size _ a _ (by simp) ?_ (by omega) ?_ ⟨rfl, rfl, fun _ _ => rfl⟩ (hR.drew w) ?_
  · exact Nat.le_trans (List.length_filter_le _ _) (by simp)
  · intro j hj
    simp [Array.getD_eq_getD_getElem?, Array.getElem?_replicate]
    split <;> rfl
  · intro j hj
    simp [Array.getD_eq_getD_getElem?, Array.getElem?_replicate] at hj
    split at hj <;> simp at hj
end
end Go.Proofs.YtipiioggdalkoaaGreatDoor
end
section
namespace Go.Proofs.YtipiioggdalkoaaGreatDoor
open Go.RowKit
set_option linter.unusedVariables false
set_option linter.unusedSimpArgs false

/-- A slice of just these cells. -/
def isCells (cs : List Value) : VP := fun v w => (v = .slice none 0 0 ∧ cs = []) ∨ (∃ a cap, v = .slice (some a) 0 cap ∧ cs = []) ∨
  ∃ b off cap, v = .slice (some ⟨b, off, none⟩) cs.length cap ∧ b < w.heap.size ∧ ∀ (j : Nat) (x : Value), cs[j]? = some x → w.cell? ⟨b, off + j, none⟩ = some x
theorem stable_cells (cs : List Value) : Stable (isCells cs) := by
  intro v w w' h hb
  rcases h with h | h | ⟨b, off, cap, e, hlt, hc⟩
  · exact .inl h
  · exact .inr (.inl h)
  · exact .inr (.inr ⟨b, off, cap, e, Nat.lt_of_lt_of_le hlt hb.size, fun j x hx => (hb.cell (p := ⟨b, off + j, none⟩) hlt).trans (hc j x hx)⟩)
theorem isCells.len {cs : List Value} {v : Value} {w : World} (h : isCells cs v w) : ∃ a cap, v = .slice a cs.length cap := by
  rcases h with ⟨rfl, rfl⟩ | ⟨a, cap, rfl, rfl⟩ | ⟨b, off, cap, rfl, _⟩
  · exact ⟨_, _, rfl⟩
  · exact ⟨_, _, rfl⟩
  · exact ⟨_, _, rfl⟩
theorem isCells.some_ {cs : List Value} {v : Value} {w : World} (h : isCells cs v w) (h0 : 0 < cs.length) : ∃ b off cap, v = .slice (some ⟨b, off, none⟩) cs.length cap ∧ b < w.heap.size ∧ ∀ (j : Nat) (x : Value), cs[j]? = some x → w.cell? ⟨b, off + j, none⟩ = some x := by
  rcases h with ⟨rfl, rfl⟩ | ⟨a, cap, rfl, rfl⟩ | h
  · simp at h0
  · simp at h0
  · exact h
theorem isCells_own {w : World} {B : Nat} {e : TypeId} {v : Value} {n : Nat} {cs : List Value} (h : w.ownsRow B e 1 v n cs) : isCells cs v w := by
  obtain ⟨hl, h | ⟨g, cap, cur, rfl, hB, hg, hn, _, hs, ht⟩⟩ := h
  · obtain ⟨rfl, rfl⟩ := h
    exact .inl ⟨rfl, List.eq_nil_of_length_eq_zero (by simpa using hl)⟩
  · rw [Nat.mul_one] at hl
    subst hl
    refine .inr (.inr ⟨g, 0, cap, rfl, (Array.getElem?_eq_some_iff.1 hg).1, fun j x hx => ?_⟩)
    have hj := (List.getElem?_eq_some_iff.1 hx).1
    rw [← ht] at hx
    rw [Nat.mul_one, List.getElem?_take, if_pos hj] at hx
    simp only [World.cell?, hg]
    simpa using hx

def strC (l : List UInt8) : Value := .string ⟨l.toArray⟩
def intC (n : Int) : Value := .int .i64 n
theorem get_map {α : Type} (f : α → Value) (l : List α) (j : Nat) (h : j < l.length) : (l.map f)[j]? = some (f l[j]) := by simp [h]

/-- A device. -/
structure Fl where
  pages : List (List UInt8)
  wear : List Int
  fuse : Int
  torn : List UInt8
  dead : Bool
def isFl (F : Fl) : VP := fun v w => ∃ vp vw, v = .agg #[vp, vw, .int .i64 F.fuse, strC F.torn, .bool F.dead] ∧ isCells (F.pages.map strC) vp w ∧ isCells (F.wear.map intC) vw w
theorem stable_fl (F : Fl) : Stable (isFl F) := fun v w w' ⟨vp, vw, e, hp, hw⟩ hb => ⟨vp, vw, e, stable_cells _ _ _ _ hp hb, stable_cells _ _ _ _ hw hb⟩

theorem isPages_any (n : Int) (w : World) :
    Calls Tryz.prog 58 #[.int .i64 n] w fun e w' => e = .returned (.bool (decide (1 ≤ n) && decide (n ≤ 6))) ∧ w = w' := by
  by_cases h1 : 1 ≤ n
  · have h1' : decide (1 ≤ n) = true := by simpa using h1
    go_enter Tryz.func58, Tryz.ntmps58
    go_wp2
    go_ret
    exact ⟨by simp [h1], rfl⟩
  · have h1' : decide (1 ≤ n) = false := by simpa using h1
    go_enter Tryz.func58, Tryz.ntmps58
    go_wp2
    go_ret
    exact ⟨by simp [h1], rfl⟩
theorem isSize_any (n : Int) (w : World) :
    Calls Tryz.prog 59 #[.int .i64 n] w fun e w' => e = .returned (.bool (decide (1 ≤ n) && decide (n ≤ 8192))) ∧ w = w' := by
  by_cases h1 : 1 ≤ n
  · have h1' : decide (1 ≤ n) = true := by simpa using h1
    go_enter Tryz.func59, Tryz.ntmps59
    go_wp2
    go_ret
    exact ⟨by simp [h1], rfl⟩
  · have h1' : decide (1 ≤ n) = false := by simpa using h1
    go_enter Tryz.func59, Tryz.ntmps59
    go_wp2
    go_ret
    exact ⟨by simp [h1], rfl⟩
theorem stands_any (s : List UInt8) (at_ size : Int) (w : World) (hs : s.length ≤ 1000000000) (h2 : -1000000000000 ≤ size) (h3 : size ≤ 1000000000000) :
    Calls Tryz.prog 172 #[.string ⟨s.toArray⟩, .int .i64 at_, .int .i64 size] w fun e w' => e = .returned (.bool (decide (0 ≤ at_) && decide (at_ ≤ size - s.length))) ∧ w = w' := by
  have hsz : (⟨s.toArray⟩ : ByteArray).size = s.length := size_mk s
  by_cases h1 : 0 ≤ at_
  · have h1' : decide (0 ≤ at_) = true := by simpa using h1
    go_enter Tryz.func172, Tryz.ntmps172
    go_wp2
    go_ret
    exact ⟨by simp [h1], rfl⟩
  · have h1' : decide (0 ≤ at_) = false := by simpa using h1
    go_enter Tryz.func172, Tryz.ntmps172
    go_wp2
    go_ret
    exact ⟨by simp [h1], rfl⟩

/-- The place of the first one, or -1. -/
def firstAt (p : Value → Bool) (cs : List Value) : Int := match cs.findIdx? p with | some i => (i : Int) | none => -1
end Go.Proofs.YtipiioggdalkoaaGreatDoor
end
section
namespace Go.Proofs.YtipiioggdalkoaaGreatDoor
open Go.RowKit
set_option linter.unusedVariables false
set_option linter.unusedSimpArgs false

theorem firstAt_some (p : Value → Bool) (cs : List Value) (k : Nat) (x : Value) (h : cs[k]? = some x) (hp : p x = true) (hb : ∀ (j : Nat) (y : Value), j < k → cs[j]? = some y → p y = false) : firstAt p cs = (k : Int) := by
  obtain ⟨hk, hx⟩ := List.getElem?_eq_some_iff.1 h
  have : cs.findIdx? p = some k := by
    rw [List.findIdx?_eq_some_iff_getElem]
    refine ⟨hk, by rw [hx]; exact hp, fun j hj => ?_⟩
    rw [hb j cs[j] hj (List.getElem?_eq_getElem _)]; simp
  unfold firstAt
  rw [this]
theorem firstAt_none (p : Value → Bool) (cs : List Value) (hb : ∀ (j : Nat) (y : Value), cs[j]? = some y → p y = false) : firstAt p cs = -1 := by
  have : cs.findIdx? p = none := by
    rw [List.findIdx?_eq_none_iff]
    intro x hx
    obtain ⟨j, hj⟩ := List.getElem?_of_mem hx
    exact hb j x hj
  unfold firstAt
  rw [this]
theorem firstAt_any (p : Value → Bool) (cs : List Value) : decide (0 ≤ firstAt p cs) = cs.any p := by
  unfold firstAt
  cases h : cs.findIdx? p with
  | none =>
    rw [List.findIdx?_eq_none_iff] at h
    show decide ((0 : Int) ≤ -1) = _
    rw [decide_eq_false (by omega)]
    symm
    rw [List.any_eq_false]
    intro x hx
    rw [h x hx]; simp
  | some k =>
    rw [List.findIdx?_eq_some_iff_getElem] at h
    obtain ⟨hk, hp, _⟩ := h
    show decide ((0 : Int) ≤ (k : Int)) = _
    rw [decide_eq_true (by omega)]
    symm
    rw [List.any_eq_true]
    exact ⟨cs[k], List.getElem_mem _, hp⟩

set_option maxRecDepth 20000 in
set_option maxHeartbeats 400000 in
theorem index_s (p : Value → Bool) (g : Nat) (caps : Array Value) (hent : Enters Tryz.prog g) (cs : List Value) (v : Value) (w : World) (hv : isCells cs v w) (hlen : cs.length ≤ 140737488355328)
    (HF0 : ∀ x ∈ cs, Calls Tryz.prog g (#[x] ++ caps) w fun e w' => e = .returned (.bool (p x)) ∧ w = w') :
    Calls Tryz.prog 108 #[v, .func (.func g) #[] caps] w fun e w' => e = .returned (.int .i64 (firstAt p cs)) ∧ w = w' := by
  have HF := Lib.hid HF0
  clear HF0
  obtain ⟨a, cap, rfl⟩ := hv.len
  have HV := Lib.hid hv
  clear hv
  go_enter Tryz.func108, Tryz.ntmps108
  go_wp2
  go_loop [8] (fun i => ∃ k : Nat, k ≤ cs.length ∧ i = .int .i64 k ∧ Hid (∀ (j : Nat) (y : Value), j < k → cs[j]? = some y → p y = false)) (fun i => cs.length - (intOf i).toNat)
  case atStart => exact ⟨0, Nat.zero_le _, rfl, Lib.hid (fun j y hj => absurd hj (by omega))⟩
  case round =>
    obtain ⟨k, hk, rfl, HB⟩ := hrel
    by_cases hlt : k < cs.length
    · obtain ⟨b, off, cap', hs, hb, hc⟩ := HV.out.some_ (by omega)
      injection hs with h1 h2 h3
      subst h1 h3
      obtain ⟨x, hx⟩ : ∃ x, cs[k]? = some x := ⟨_, List.getElem?_eq_getElem hlt⟩
      have hcell := hc k x hx
      have HC := Lib.hid hc
      have HX := Lib.hid hx
      clear hc hx
      go_wp2_with fail
      rw [hent]
      simp only [Oper.upon]
      refine (HF.out x (List.mem_of_getElem? HX.out)).mono ?_
      rintro e w' ⟨rfl, rfl⟩
      cases hp : p x with
      | true =>
        go_wp2
        go_ret
        exact ⟨ret_int (firstAt_some p cs k x HX.out hp HB.out).symm, rfl⟩
      | false =>
        go_wp2
        go_round
        case rel =>
          refine ⟨k + 1, by omega, by go_num, Lib.hid ?_⟩
          intro j y hj hy
          by_cases e : j = k
          · subst e; rw [HX.out] at hy; injection hy with hy; rw [← hy]; exact hp
          · exact HB.out j y (by omega) hy
        case measure => simp [intOf]; omega
    · go_wp2
      go_ret
      exact ⟨ret_int (firstAt_none p cs (fun j y hy => HB.out j y (by have := (List.getElem?_eq_some_iff.1 hy).1; omega) hy)).symm, rfl⟩

set_option maxHeartbeats 400000 in
theorem contains_s (p : Value → Bool) (g : Nat) (caps : Array Value) (hent : Enters Tryz.prog g) (cs : List Value) (v : Value) (w : World) (hv : isCells cs v w) (hlen : cs.length ≤ 140737488355328)
    (HF0 : ∀ x ∈ cs, Calls Tryz.prog g (#[x] ++ caps) w fun e w' => e = .returned (.bool (p x)) ∧ w = w') :
    Calls Tryz.prog 90 #[v, .func (.func g) #[] caps] w fun e w' => e = .returned (.bool (cs.any p)) ∧ w = w' := by
  have H := Lib.hid (firstAt_any p cs)
  have HF := Lib.hid HF0
  have HV := Lib.hid hv
  clear HF0 hv
  go_enter Tryz.func90, Tryz.ntmps90
  go_wp2_with fail
  refine (index_s p g caps hent cs v _ HV.out hlen HF.out).mono ?_
  rintro e w' ⟨rfl, rfl⟩
  go_wp2
  go_ret
  exact ⟨by rw [← H.out]; rfl, rfl⟩

set_option maxRecDepth 20000 in
set_option maxHeartbeats 400000 in
theorem index_i (p : Value → Bool) (g : Nat) (caps : Array Value) (hent : Enters Tryz.prog g) (cs : List Value) (v : Value) (w : World) (hv : isCells cs v w) (hlen : cs.length ≤ 140737488355328)
    (HF0 : ∀ x ∈ cs, Calls Tryz.prog g (#[x] ++ caps) w fun e w' => e = .returned (.bool (p x)) ∧ w = w') :
    Calls Tryz.prog 109 #[v, .func (.func g) #[] caps] w fun e w' => e = .returned (.int .i64 (firstAt p cs)) ∧ w = w' := by
  have HF := Lib.hid HF0
  clear HF0
  obtain ⟨a, cap, rfl⟩ := hv.len
  have HV := Lib.hid hv
  clear hv
  go_enter Tryz.func109, Tryz.ntmps109
  go_wp2
  go_loop [8] (fun i => ∃ k : Nat, k ≤ cs.length ∧ i = .int .i64 k ∧ Hid (∀ (j : Nat) (y : Value), j < k → cs[j]? = some y → p y = false)) (fun i => cs.length - (intOf i).toNat)
  case atStart => exact ⟨0, Nat.zero_le _, rfl, Lib.hid (fun j y hj => absurd hj (by omega))⟩
  case round =>
    obtain ⟨k, hk, rfl, HB⟩ := hrel
    by_cases hlt : k < cs.length
    · obtain ⟨b, off, cap', hs, hb, hc⟩ := HV.out.some_ (by omega)
      injection hs with h1 h2 h3
      subst h1 h3
      obtain ⟨x, hx⟩ : ∃ x, cs[k]? = some x := ⟨_, List.getElem?_eq_getElem hlt⟩
      have hcell := hc k x hx
      have HC := Lib.hid hc
      have HX := Lib.hid hx
      clear hc hx
      go_wp2_with fail
      rw [hent]
      simp only [Oper.upon]
      refine (HF.out x (List.mem_of_getElem? HX.out)).mono ?_
      rintro e w' ⟨rfl, rfl⟩
      cases hp : p x with
      | true =>
        go_wp2
        go_ret
        exact ⟨ret_int (firstAt_some p cs k x HX.out hp HB.out).symm, rfl⟩
      | false =>
        go_wp2
        go_round
        case rel =>
          refine ⟨k + 1, by omega, by go_num, Lib.hid ?_⟩
          intro j y hj hy
          by_cases e : j = k
          · subst e; rw [HX.out] at hy; injection hy with hy; rw [← hy]; exact hp
          · exact HB.out j y (by omega) hy
        case measure => simp [intOf]; omega
    · go_wp2
      go_ret
      exact ⟨ret_int (firstAt_none p cs (fun j y hy => HB.out j y (by have := (List.getElem?_eq_some_iff.1 hy).1; omega) hy)).symm, rfl⟩

set_option maxHeartbeats 400000 in
theorem contains_i (p : Value → Bool) (g : Nat) (caps : Array Value) (hent : Enters Tryz.prog g) (cs : List Value) (v : Value) (w : World) (hv : isCells cs v w) (hlen : cs.length ≤ 140737488355328)
    (HF0 : ∀ x ∈ cs, Calls Tryz.prog g (#[x] ++ caps) w fun e w' => e = .returned (.bool (p x)) ∧ w = w') :
    Calls Tryz.prog 92 #[v, .func (.func g) #[] caps] w fun e w' => e = .returned (.bool (cs.any p)) ∧ w = w' := by
  have H := Lib.hid (firstAt_any p cs)
  have HF := Lib.hid HF0
  have HV := Lib.hid hv
  clear HF0 hv
  go_enter Tryz.func92, Tryz.ntmps92
  go_wp2_with fail
  refine (index_i p g caps hent cs v _ HV.out hlen HF.out).mono ?_
  rintro e w' ⟨rfl, rfl⟩
  go_wp2
  go_ret
  exact ⟨by rw [← H.out]; rfl, rfl⟩

end Go.Proofs.YtipiioggdalkoaaGreatDoor
end
section
namespace Go.Proofs.YtipiioggdalkoaaGreatDoor
open Go.RowKit
set_option linter.unusedVariables false
set_option linter.unusedSimpArgs false

def oneSize (pages : List (List UInt8)) : Bool := decide (1 ≤ ((pages.headD []).length : Int)) && decide (((pages.headD []).length : Int) ≤ 8192) && pages.all fun p => decide (p.length = (pages.headD []).length)
def okWear (wear : List Int) (n : Nat) : Bool := decide (wear.length = n) && wear.all fun x => decide (0 ≤ x) && decide (x ≤ 2147483647)
def mayB (F : Fl) : Bool := decide (1 ≤ (F.pages.length : Int)) && decide ((F.pages.length : Int) ≤ 6) && oneSize F.pages && okWear F.wear F.pages.length && decide ((F.torn.length : Int) ≤ 64)
def checkE (F : Fl) : Int := if mayB F then 0 else 1
def hasB (F : Fl) (n : Int) : Bool := mayB F && decide (0 ≤ n) && decide (n < F.pages.length)

/-- A block of five cells. -/
def Cells5 (w : World) (g : Nat) (v0 v1 v2 v3 v4 : Value) : Prop := g < w.heap.size ∧ w.cell? ⟨g, 0, none⟩ = some v0 ∧ w.cell? ⟨g, 1, none⟩ = some v1 ∧ w.cell? ⟨g, 2, none⟩ = some v2 ∧ w.cell? ⟨g, 3, none⟩ = some v3 ∧ w.cell? ⟨g, 4, none⟩ = some v4
theorem Cells5.keep {w w' : World} {g B : Nat} {v0 v1 v2 v3 v4 : Value} (h : Cells5 w g v0 v1 v2 v3 v4) (hb : Below B w w') (hB : g < B) : Cells5 w' g v0 v1 v2 v3 v4 := by
  obtain ⟨hg, h0, h1, h2, h3, h4⟩ := h
  exact ⟨Nat.lt_of_lt_of_le hg hb.size, (hb.cell (p := ⟨g, 0, none⟩) hB).trans h0, (hb.cell (p := ⟨g, 1, none⟩) hB).trans h1, (hb.cell (p := ⟨g, 2, none⟩) hB).trans h2, (hb.cell (p := ⟨g, 3, none⟩) hB).trans h3, (hb.cell (p := ⟨g, 4, none⟩) hB).trans h4⟩
theorem cells5_new (w : World) (t : TypeId) (v0 v1 v2 v3 v4 : Value) : Cells5 (w.alloc (.cells #[v0, v1, v2, v3, v4] t)) w.heap.size v0 v1 v2 v3 v4 := by
  refine ⟨by simp, ?_, ?_, ?_, ?_, ?_⟩ <;> rw [World.cell?_alloc_new] <;> rfl

theorem wear1_any (x : Int) (w : World) : Calls Tryz.prog 93 #[.int .i64 x] w fun e w' => e = .returned (.bool (!(decide (0 ≤ x) && decide (x ≤ 2147483647)))) ∧ w = w' := by
  by_cases h1 : x < 0
  · have h1' : decide (x < 0) = true := by simpa using h1
    have h2 : ¬ 0 ≤ x := by omega
    go_enter Tryz.func93, Tryz.ntmps93
    go_wp2
    go_ret
    exact ⟨by simp [h2], rfl⟩
  · have h1' : decide (x < 0) = false := by simpa using h1
    have h2 : 0 ≤ x := by omega
    have H := Lib.hid (show decide (2147483647 < x) = !decide (x ≤ 2147483647) by by_cases h : x ≤ 2147483647 <;> simp [h] <;> omega)
    go_enter Tryz.func93, Tryz.ntmps93
    go_wp2
    go_ret
    exact ⟨congrArg (fun b => Ending.returned (.bool b)) H.out, rfl⟩

def badWear : Value → Bool
  | .int .i64 x => !(decide (0 ≤ x) && decide (x ≤ 2147483647))
  | _ => false
theorem badWear_int (x : Int) : badWear (intC x) = !(decide (0 ≤ x) && decide (x ≤ 2147483647)) := rfl
theorem okWear_eq (wear : List Int) : (wear.all fun x => decide (0 ≤ x) && decide (x ≤ 2147483647)) = !(wear.map intC).any badWear := by
  induction wear with
  | nil => rfl
  | cons x r ih => rw [List.all_cons, List.map_cons, List.any_cons, badWear_int, ih, Bool.not_or, Bool.not_not]
def badPage (n : Nat) : Value → Bool
  | .string s => decide (s.size ≠ n)
  | _ => false
theorem okPage_eq (pages : List (List UInt8)) (n : Nat) : (pages.all fun p => decide (p.length = n)) = !(pages.map strC).any (badPage n) := by
  induction pages with
  | nil => rfl
  | cons x r ih =>
    rw [List.all_cons, List.map_cons, List.any_cons, ih, Bool.not_or]
    congr 1
    show decide (x.length = n) = !decide ((⟨x.toArray⟩ : ByteArray).size ≠ n)
    rw [size_mk]
    by_cases h : x.length = n <;> simp [h]
theorem badPage_str (n : Nat) (y : List UInt8) : badPage n (strC y) = decide (y.length ≠ n) := by
  show decide ((⟨y.toArray⟩ : ByteArray).size ≠ n) = _
  rw [size_mk]
attribute [irreducible] badWear badPage

set_option maxRecDepth 20000 in
theorem areWear_any (wear : List Int) (n : Nat) (v : Value) (w : World) (hv : isCells (wear.map intC) v w) (hl : wear.length ≤ 140737488355328) (hn : n ≤ 140737488355328) :
    Calls Tryz.prog 78 #[v, .int .i64 (n : Int)] w fun e w' => e = .returned (.bool (okWear wear n)) ∧ w = w' := by
  have hen : Enters Tryz.prog 93 := enters_of Tryz.func93 (by kernel_rfl) rfl
  obtain ⟨a, cap, hva⟩ := hv.len
  rw [List.length_map] at hva
  subst hva
  have HV := Lib.hid hv
  clear hv
  by_cases h : n = wear.length
  · subst h
    have HE := Lib.hid (show okWear wear wear.length = !(wear.map intC).any badWear by
      unfold okWear
      rw [decide_eq_true rfl, Bool.true_and, okWear_eq])
    go_enter Tryz.func78, Tryz.ntmps78
    go_wp2_with fail
    refine (contains_i badWear 93 #[] hen (wear.map intC) _ _ HV.out (by simpa using hl) ?_).mono ?_
    · intro x hx
      obtain ⟨y, _, rfl⟩ := List.mem_map.1 hx
      rw [badWear_int]
      exact wear1_any y _
    rintro e w' ⟨rfl, rfl⟩
    generalize (wear.map intC).any badWear = z at *
    go_wp2
    go_ret
    exact ⟨by rw [HE.out]; rfl, rfl⟩
  · have h' : ((wear.length : Int) == (n : Int)) = false := by simp; omega
    go_enter Tryz.func78, Tryz.ntmps78
    go_wp2
    go_ret
    exact ⟨by unfold okWear; rw [decide_eq_false (fun e => h e.symm)]; rfl, rfl⟩

theorem size1_any (s : List UInt8) (n : Nat) (p : Addr) (w : World) (hp : w.cell? p = some (.int .i64 (n : Int))) :
    Calls Tryz.prog 91 #[.string ⟨s.toArray⟩, .pointer (some p)] w fun e w' => e = .returned (.bool (decide (s.length ≠ n))) ∧ w = w' := by
  have hsz : (⟨s.toArray⟩ : ByteArray).size = s.length := size_mk s
  have H := Lib.hid (show ((s.length : Int) != (n : Int)) = decide (s.length ≠ n) by by_cases h : s.length = n <;> simp [h] <;> omega)
  go_enter Tryz.func91, Tryz.ntmps91
  go_wp2
  go_ret
  exact ⟨by rw [← H.out]; rfl, rfl⟩

set_option maxRecDepth 20000 in
set_option maxHeartbeats 400000 in
theorem areOne_any (pages : List (List UInt8)) (v : Value) (w : World) (hv : isCells (pages.map strC) v w) (h0 : 0 < pages.length) (hl : pages.length ≤ 140737488355328) :
    Calls Tryz.prog 77 #[v] w fun e w' => e = .returned (.bool (oneSize pages)) ∧ Below w.heap.size w w' := by
  obtain ⟨b, off, cap, hva, hb, hc⟩ := hv.some_ (by simpa using h0)
  rw [List.length_map] at hva
  subst hva
  have hen : Enters Tryz.prog 91 := enters_of Tryz.func91 (by kernel_rfl) rfl
  have hc0 : w.cell? ⟨b, off, none⟩ = some (.string ⟨(pages.headD []).toArray⟩) := by
    refine hc 0 _ ?_
    cases pages with
    | nil => simp at h0
    | cons q r => rfl
  have HO := Lib.hid (show oneSize pages = (decide (1 ≤ ((pages.headD []).length : Int)) && decide (((pages.headD []).length : Int) ≤ 8192) && !(pages.map strC).any (badPage (pages.headD []).length)) by
    unfold oneSize; rw [okPage_eq])
  generalize pages.headD [] = q at *
  have hsz : (⟨q.toArray⟩ : ByteArray).size = q.length := size_mk q
  have HV := Lib.hid hv
  clear hv hc
  go_enter Tryz.func77, Tryz.ntmps77
  go_wp2_with fail
  refine (isSize_any _ _).mono ?_
  rintro e w1 ⟨rfl, rfl⟩
  cases hs : (decide (1 ≤ (q.length : Int)) && decide ((q.length : Int) ≤ 8192)) with
  | false =>
    go_wp2
    go_ret
    exact ⟨by rw [HO.out, hs]; rfl, (Below.refl _ _).alloc (Nat.le_refl _) _⟩
  | true =>
    go_wp2_with fail
    have hb0 : Below w.heap.size w (w.alloc (.cells #[.int .i64 (q.length : Int)] 3)) := (Below.refl _ _).alloc (Nat.le_refl _) _
    refine (contains_s (badPage q.length) 91 #[.pointer (some ⟨w.heap.size, 0, none⟩)] hen (pages.map strC) _ _ (stable_cells _ _ _ _ HV.out hb0) (by simpa using hl) ?_).mono ?_
    · intro x hx
      obtain ⟨y, _, rfl⟩ := List.mem_map.1 hx
      rw [show badPage q.length (strC y) = decide (y.length ≠ q.length) by rw [badPage_str]]
      exact size1_any y q.length ⟨w.heap.size, 0, none⟩ _ (by rw [World.cell?_alloc_new]; rfl)
    rintro e w' ⟨rfl, rfl⟩
    generalize (pages.map strC).any (badPage q.length) = z at *
    go_wp2
    go_ret
    exact ⟨by rw [HO.out, hs]; rfl, hb0⟩

set_option maxRecDepth 20000 in
set_option maxHeartbeats 1000000 in
theorem mayBe_any (F : Fl) (v : Value) (w : World) (hv : isFl F v w) (h1 : F.pages.length ≤ 140737488355328) (h2 : F.wear.length ≤ 140737488355328) :
    Calls Tryz.prog 50 #[v] w fun e w' => e = .returned (.bool (mayB F)) ∧ Below w.heap.size w w' := by
  obtain ⟨pages, wear, fuse, torn, dead⟩ := F
  obtain ⟨vp, vw, rfl, hp, hw⟩ := hv
  simp only at hp hw h1 h2
  unfold strC
  have htz : (⟨torn.toArray⟩ : ByteArray).size = torn.length := size_mk torn
  obtain ⟨a, cap, hva⟩ := hp.len
  rw [List.length_map] at hva
  have HP := Lib.hid hp
  have HW := Lib.hid hw
  have HM := Lib.hid (show mayB ⟨pages, wear, fuse, torn, dead⟩ = (decide (1 ≤ (pages.length : Int)) && decide ((pages.length : Int) ≤ 6) && oneSize pages && okWear wear pages.length && decide ((torn.length : Int) ≤ 64)) from rfl)
  clear hp hw
  subst hva
  go_enter Tryz.func50, Tryz.ntmps50
  go_wp2_with fail
  have hb0 : Below w.heap.size w (w.alloc (.cells #[.slice a pages.length cap, vw, .int .i64 fuse, .string ⟨torn.toArray⟩, .bool dead] 31)) := (Below.refl _ _).alloc (Nat.le_refl _) _
  refine (isPages_any _ _).mono ?_
  rintro e w1 ⟨rfl, rfl⟩
  cases c1 : (decide (1 ≤ (pages.length : Int)) && decide ((pages.length : Int) ≤ 6)) with
  | false =>
    go_wp2
    go_ret
    exact ⟨by rw [HM.out, c1]; rfl, hb0⟩
  | true =>
    have hpos : 0 < pages.length := by simp at c1; omega
    go_wp2_with fail
    refine (areOne_any pages _ _ (stable_cells _ _ _ _ HP.out hb0) hpos h1).mono ?_
    rintro e w2 ⟨rfl, hb1⟩
    obtain ⟨hg, k0, k1, k2, k3, k4⟩ := (cells5_new w 31 (.slice a pages.length cap) vw (.int .i64 fuse) (.string ⟨torn.toArray⟩) (.bool dead)).keep hb1 (by simp)
    have hB := hb0.trans (hb1.mono hb0.size)
    clear hb1
    cases c2 : oneSize pages with
    | false =>
      go_wp2
      go_ret
      exact ⟨by rw [HM.out, c1, c2]; rfl, hB⟩
    | true =>
      go_wp2_with fail
      refine (areWear_any wear pages.length _ _ (stable_cells _ _ _ _ HW.out hB) h2 h1).mono ?_
      rintro e w3 ⟨rfl, rfl⟩
      cases c3 : okWear wear pages.length with
      | false =>
        go_wp2
        go_ret
        exact ⟨by rw [HM.out, c1, c2, c3]; rfl, hB⟩
      | true =>
        go_wp2
        go_ret
        exact ⟨by rw [HM.out, c1, c2, c3]; rfl, hB⟩

set_option maxRecDepth 20000 in
set_option maxHeartbeats 1000000 in
theorem hasPage_any (F : Fl) (n : Int) (v : Value) (w : World) (hv : isFl F v w) (h1 : F.pages.length ≤ 140737488355328) (h2 : F.wear.length ≤ 140737488355328) :
    Calls Tryz.prog 80 #[v, .int .i64 n] w fun e w' => e = .returned (.bool (hasB F n)) ∧ Below w.heap.size w w' := by
  have HF := Lib.hid hv
  obtain ⟨vp, vw, rfl, hp, hw⟩ := hv
  obtain ⟨a, cap, hva⟩ := hp.len
  rw [List.length_map] at hva
  clear hp hw
  subst hva
  have HM := Lib.hid (show hasB F n = (mayB F && decide (0 ≤ n) && decide (n < F.pages.length)) from rfl)
  unfold strC at HF ⊢
  go_enter Tryz.func80, Tryz.ntmps80
  go_wp2_with fail
  have hb0 : Below w.heap.size w (w.alloc (.cells #[.slice a F.pages.length cap, vw, .int .i64 F.fuse, .string ⟨F.torn.toArray⟩, .bool F.dead] 31)) := (Below.refl _ _).alloc (Nat.le_refl _) _
  refine (mayBe_any F _ _ (stable_fl _ _ _ _ HF.out hb0) h1 h2).mono ?_
  rintro e w2 ⟨rfl, hb1⟩
  obtain ⟨hg, k0, k1, k2, k3, k4⟩ := (cells5_new w 31 (.slice a F.pages.length cap) vw (.int .i64 F.fuse) (.string ⟨F.torn.toArray⟩) (.bool F.dead)).keep hb1 (by simp)
  have hB := hb0.trans (hb1.mono hb0.size)
  clear hb1
  cases c1 : mayB F with
  | false =>
    go_wp2
    go_ret
    exact ⟨by rw [HM.out, c1]; rfl, hB⟩
  | true =>
    by_cases c2 : 0 ≤ n
    · have c2' : decide (0 ≤ n) = true := by simpa using c2
      go_wp2
      go_ret
      exact ⟨by rw [HM.out, c1, c2']; rfl, hB⟩
    · have c2' : decide (0 ≤ n) = false := by simpa using c2
      go_wp2
      go_ret
      exact ⟨by rw [HM.out, c1, c2']; rfl, hB⟩

set_option maxHeartbeats 400000 in
theorem check_any (F : Fl) (v : Value) (w : World) (hv : isFl F v w) (h1 : F.pages.length ≤ 140737488355328) (h2 : F.wear.length ≤ 140737488355328) :
    Calls Tryz.prog 65 #[v] w fun e w' => e = .returned (.int .i64 (checkE F)) ∧ Below w.heap.size w w' := by
  have HF := Lib.hid hv
  obtain ⟨vp, vw, rfl, hp, hw⟩ := hv
  clear hp hw
  unfold strC at HF ⊢
  go_enter Tryz.func65, Tryz.ntmps65
  go_wp2_with fail
  have hb0 : Below w.heap.size w (w.alloc (.cells #[vp, vw, .int .i64 F.fuse, .string ⟨F.torn.toArray⟩, .bool F.dead] 31)) := (Below.refl _ _).alloc (Nat.le_refl _) _
  refine (mayBe_any F _ _ (stable_fl _ _ _ _ HF.out hb0) h1 h2).mono ?_
  rintro e w2 ⟨rfl, hb1⟩
  have hB := hb0.trans (hb1.mono hb0.size)
  clear hb1
  cases c1 : mayB F with
  | false =>
    have H := Lib.hid (show checkE F = 1 by unfold checkE; rw [c1]; rfl)
    go_wp2
    go_ret
    exact ⟨by rw [H.out]; rfl, hB⟩
  | true =>
    have H := Lib.hid (show checkE F = 0 by unfold checkE; rw [c1]; rfl)
    go_wp2
    go_ret
    exact ⟨by rw [H.out]; rfl, hB⟩
end Go.Proofs.YtipiioggdalkoaaGreatDoor
end
section
namespace Go.Proofs.YtipiioggdalkoaaGreatDoor
open Go.RowKit
set_option linter.unusedVariables false
set_option linter.unusedSimpArgs false

theorem clone_s (l : List (List UInt8)) (v : Value) (w : World) (hv : isCells (l.map strC) v w) (hl : l.length * 16 ≤ 140737488355328) :
    Calls Tryz.prog 66 #[v] w fun e w' => ∃ v', e = .returned v' ∧ w'.ownsRow w.heap.size 9 1 v' l.length (l.map strC) ∧ Below w.heap.size w w' := by
  rcases hv with ⟨rfl, h⟩ | ⟨a, cap, rfl, h⟩ | ⟨b, off, cap, rfl, hb, hc⟩
  · obtain rfl : l = [] := by simpa using h
    refine (Tryz.slices_Clone_string_nil 0 0 w).mono ?_
    rintro e w' ⟨rfl, rfl⟩
    exact ⟨_, rfl, World.ownsRow_nil _ _ _ _, Below.refl _ _⟩
  · obtain rfl : l = [] := by simpa using h
    refine (Tryz.slices_Clone_string_zero a cap w).mono ?_
    rintro e w' ⟨v', rfl, h1, _, h2⟩
    exact ⟨_, rfl, h1, h2⟩
  · rw [List.length_map]
    refine (Tryz.slices_Clone_string b off l.length cap (l.map fun x => ⟨x.toArray⟩) w (by simp) hl (fun j hj => ?_)).mono ?_
    · have hj' : j < l.length := by simpa using hj
      rw [hc j _ (get_map strC l j hj')]
      simp [strC, List.getD_eq_getElem?_getD, hj']
    · rintro e w' ⟨v', rfl, h1, _, h2⟩
      refine ⟨_, rfl, ?_, h2⟩
      have : ((l.map fun x => (⟨x.toArray⟩ : ByteArray)).take l.length).map Value.string = l.map strC := by
        rw [List.take_of_length_le (by simp), List.map_map]; rfl
      rwa [this] at h1
theorem clone_i (l : List Int) (v : Value) (w : World) (hv : isCells (l.map intC) v w) (hl : l.length * 8 ≤ 140737488355328) :
    Calls Tryz.prog 67 #[v] w fun e w' => ∃ v', e = .returned v' ∧ w'.ownsRow w.heap.size 3 1 v' l.length (l.map intC) ∧ Below w.heap.size w w' := by
  rcases hv with ⟨rfl, h⟩ | ⟨a, cap, rfl, h⟩ | ⟨b, off, cap, rfl, hb, hc⟩
  · obtain rfl : l = [] := by simpa using h
    refine (Tryz.slices_Clone_int_nil 0 0 w).mono ?_
    rintro e w' ⟨rfl, rfl⟩
    exact ⟨_, rfl, World.ownsRow_nil _ _ _ _, Below.refl _ _⟩
  · obtain rfl : l = [] := by simpa using h
    refine (Tryz.slices_Clone_int_zero a cap w).mono ?_
    rintro e w' ⟨v', rfl, h1, _, h2⟩
    exact ⟨_, rfl, h1, h2⟩
  · rw [List.length_map]
    refine (Tryz.slices_Clone_int b off l.length cap l w (Nat.le_refl _) hl (fun j hj => ?_)).mono ?_
    · rw [hc j _ (get_map intC l j hj)]
      simp [intC, List.getD_eq_getElem?_getD, hj]
    · rintro e w' ⟨v', rfl, h1, _, h2⟩
      refine ⟨_, rfl, ?_, h2⟩
      rw [List.take_of_length_le (Nat.le_refl _)] at h1
      exact h1

/-! ### More operations of a drawn region -/
section
variable {P : Program} {ops : Array Oper} {base : World} {a0 : Act} {Q : Exit → Act → World → Prop} {kn : Nat → VP} {i : Nat} {V : VP}
/-- A field's place. -/
theorem step_field (t : TypeId) (x : Operand) (k : Nat) (p q : Addr) (hop : (ops[i]?).map (·.op) = some (.fieldAddr t x k)) (hw : Wanted ops a0 kn i) (hx : Knows ops a0 kn i x (isVal (.pointer (some p))))
    (hr : ∀ w, (Instr.fieldAt t (.pointer (some p)) k).run P w = .ok (.pointer (some q)) w) : FStep P ops base a0 Q kn i (isVal (.pointer (some q))) :=
  step_pure _ hop hw fun o a w ho hk hd => by
    have e1 : a.eval x = .pointer (some p) := hx a w hk hd
    unfold execOp
    rw [ho]
    simp only [e1, Sem.run_bind, hr, Result.andThen_ok, Sem.run_pure]
/-- What stands in a place that was there ahead of the region. -/
theorem step_read (t : TypeId) (x : Operand) (p : Addr) (v : Value) (hop : (ops[i]?).map (·.op) = some (.load t x)) (hw : Wanted ops a0 kn i) (hx : Knows ops a0 kn i x (isVal (.pointer (some p))))
    (hc : base.cell? p = some v) (hp : p.block < base.heap.size) (hu : ∀ w, (isAgg t).run P w = .ok false w) : FStep P ops base a0 Q kn i (isVal v) :=
  step_mk (stable_val _) hw fun o ho a w hk hb hd => by
    have e1 : a.eval x = .pointer (some p) := hx a w hk hd
    have e2 : w.cell? p = some v := (hb.cell hp).trans hc
    unfold Oper.wp execOp
    rw [op_of hop ho]
    simp only [e1, Instr.loadAt, Instr.sureAddr, Sem.run_bind, Sem.run_pure, Result.andThen_ok, loadVar, hu]
    simp [e2, Oper.upon]
    exact ⟨v, rfl, rfl, Below.refl _ _⟩

/-! ### .. and of its tail -/
variable {a : Act} {w : World} {c : Nat}
theorem tail_op {OP : Op} (K : Act → World → Prop) (hop : (ops[i]?).map (fun o => (o.op, o.guard)) = some (OP, none)) (h : ∀ o, ops[i]? = some o → o.op = OP → o.wp P a w (fun a' w' => Tail P ops Q c (i + 1) a' w') Q) : Tail P ops Q (c + 1) i a w := by
  cases ho : ops[i]? with
  | none => rw [ho] at hop; simp at hop
  | some o =>
    rw [ho] at hop
    simp only [Option.map_some, Option.some.injEq, Prod.mk.injEq] at hop
    unfold Tail wpOp
    simp only [ho]
    rw [show Region.wanted o (yielded ops a.tmps) = true by simp [Region.wanted, hop.2]]
    exact .inl (h o ho hop.1)
theorem tail_field (t : TypeId) (x : Operand) (k : Nat) (p q : Addr) (d : Tmp) (hop : (ops[i]?).map (fun o => (o.op, o.guard)) = some (.fieldAddr t x k, none)) (hd : (ops[i]?).bind (·.dst) = some d) (hx : a.eval x = .pointer (some p))
    (hr : ∀ w, (Instr.fieldAt t (.pointer (some p)) k).run P w = .ok (.pointer (some q)) w) (h : Tail P ops Q c (i + 1) (a.put (some d) (.pointer (some q))) w) : Tail P ops Q (c + 1) i a w :=
  tail_op (fun _ _ => True) hop fun o ho e => by
    rw [ho] at hd
    simp only [Option.bind_some] at hd
    unfold Oper.wp execOp
    rw [e]
    simp only [hx, Sem.run_bind, hr, Result.andThen_ok, Sem.run_pure, Oper.upon, hd]
    exact h
theorem tail_store (t : TypeId) (x y : Operand) (p : Addr) (v old : Value) (hop : (ops[i]?).map (fun o => (o.op, o.guard)) = some (.store t x y, none)) (hdst : (ops[i]?).map (·.dst) = some none) (hx : a.eval x = .pointer (some p)) (hy : a.eval y = v)
    (hs : (P.info? t).map (·.size) = some 1) (hv : v.cells = #[v]) (hv1 : v.oneCell' = true) (hc : w.cell? p = some old) (hf : w.frozen? p = false) (h : Tail P ops Q c (i + 1) a (w.setCell p v)) : Tail P ops Q (c + 1) i a w :=
  tail_op (fun _ _ => True) hop fun o ho e => by
    obtain ⟨ie, hie, hz⟩ := Option.map_eq_some_iff.1 hs
    have hsz : (sizeOf t).run P w = .ok 1 w := by simp [sizeOf, typeInfo, hie, hz]
    unfold Oper.wp execOp
    rw [e]
    simp only [hx, hy, Instr.storeAt, Instr.sureAddr, Sem.run_bind, Sem.run_pure, Result.andThen_ok, storeVar, hsz, hv]
    have hst : (storeCells p [v]).run P w = .ok () (w.setCell p v) := by
      unfold storeCells
      rw [Sem.run_bind, show p.add 0 = p by simp [Addr.add], run_store P w p v _ hv1, hc]
      simp [hf, storeCells]
    rw [if_neg (by simp), hst]
    rw [ho] at hdst
    simp only [Option.map_some, Option.some.injEq] at hdst
    simp only [Result.andThen_ok, Oper.upon, hdst]
    exact h
end

theorem Cells5.set0 {w : World} {g : Nat} {v0 v1 v2 v3 v4 : Value} (h : Cells5 w g v0 v1 v2 v3 v4) (x : Value) : Cells5 (w.setCell ⟨g, 0, none⟩ x) g x v1 v2 v3 v4 := by
  obtain ⟨hg, h0, h1, h2, h3, h4⟩ := h
  refine ⟨by simpa using hg, World.cell?_setCell_same w _ _ h0, ?_, ?_, ?_, ?_⟩ <;> (rw [World.cell?_setCell_other w _ _ _ (by intro h; injection h; contradiction)]; assumption)
theorem Cells5.set1 {w : World} {g : Nat} {v0 v1 v2 v3 v4 : Value} (h : Cells5 w g v0 v1 v2 v3 v4) (x : Value) : Cells5 (w.setCell ⟨g, 1, none⟩ x) g v0 x v2 v3 v4 := by
  obtain ⟨hg, h0, h1, h2, h3, h4⟩ := h
  refine ⟨by simpa using hg, ?_, World.cell?_setCell_same w _ _ h1, ?_, ?_, ?_⟩ <;> (rw [World.cell?_setCell_other w _ _ _ (by intro h; injection h; contradiction)]; assumption)
theorem Cells5.set2 {w : World} {g : Nat} {v0 v1 v2 v3 v4 : Value} (h : Cells5 w g v0 v1 v2 v3 v4) (x : Value) : Cells5 (w.setCell ⟨g, 2, none⟩ x) g v0 v1 x v3 v4 := by
  obtain ⟨hg, h0, h1, h2, h3, h4⟩ := h
  refine ⟨by simpa using hg, ?_, ?_, World.cell?_setCell_same w _ _ h2, ?_, ?_⟩ <;> (rw [World.cell?_setCell_other w _ _ _ (by intro h; injection h; contradiction)]; assumption)
theorem Cells5.set4 {w : World} {g : Nat} {v0 v1 v2 v3 v4 : Value} (h : Cells5 w g v0 v1 v2 v3 v4) (x : Value) : Cells5 (w.setCell ⟨g, 4, none⟩ x) g v0 v1 v2 v3 x := by
  obtain ⟨hg, h0, h1, h2, h3, h4⟩ := h
  refine ⟨by simpa using hg, ?_, ?_, ?_, ?_, World.cell?_setCell_same w _ _ h4⟩ <;> (rw [World.cell?_setCell_other w _ _ _ (by intro h; injection h; contradiction)]; assumption)
theorem Cells5.apart {w : World} {g b o : Nat} {v0 v1 v2 v3 v4 : Value} (h : Cells5 w g v0 v1 v2 v3 v4) (x : Value) (hne : b ≠ g) : Cells5 (w.setCell ⟨b, o, none⟩ x) g v0 v1 v2 v3 v4 := by
  obtain ⟨hg, h0, h1, h2, h3, h4⟩ := h
  refine ⟨by simpa using hg, ?_, ?_, ?_, ?_, ?_⟩ <;> (rw [World.cell?_setCell_other w _ _ _ (by intro h; injection h; contradiction)]; assumption)
/-- No place of the block is frozen. -/
def Free5 (w : World) (g : Nat) : Prop := ∀ j, w.frozen? ⟨g, j, none⟩ = false
theorem Free5.keep {w w' : World} {g B : Nat} (h : Free5 w g) (hb : Below B w w') (hB : g < B) : Free5 w' g := fun j => (hb.frozen (p := ⟨g, j, none⟩) hB).trans (h j)
theorem Free5.set {w : World} {g : Nat} (h : Free5 w g) (p : Addr) (x : Value) : Free5 (w.setCell p x) g := fun j => by rw [World.frozen?_setCell]; exact h j
theorem free5_new (w : World) (cs : Array Value) (t : TypeId) : Free5 (w.alloc (.cells cs t)) w.heap.size := fun j => World.frozen?_alloc_new w _ _ _
/-- Five cells written at once. -/
def set5 (w : World) (g : Nat) (v0 v1 v2 v3 v4 : Value) : World := ((((w.setCell ⟨g, 0, none⟩ v0).setCell ⟨g, 1, none⟩ v1).setCell ⟨g, 2, none⟩ v2).setCell ⟨g, 3, none⟩ v3).setCell ⟨g, 4, none⟩ v4
theorem Cells5.set3 {w : World} {g : Nat} {v0 v1 v2 v3 v4 : Value} (h : Cells5 w g v0 v1 v2 v3 v4) (x : Value) : Cells5 (w.setCell ⟨g, 3, none⟩ x) g v0 v1 v2 x v4 := by
  obtain ⟨hg, h0, h1, h2, h3, h4⟩ := h
  refine ⟨by simpa using hg, ?_, ?_, ?_, World.cell?_setCell_same w _ _ h3, ?_⟩ <;> (rw [World.cell?_setCell_other w _ _ _ (by intro h; injection h; contradiction)]; assumption)
theorem Cells5.set5_ {w : World} {g : Nat} {o0 o1 o2 o3 o4 : Value} (h : Cells5 w g o0 o1 o2 o3 o4) (v0 v1 v2 v3 v4 : Value) : Cells5 (set5 w g v0 v1 v2 v3 v4) g v0 v1 v2 v3 v4 := ((((h.set0 v0).set1 v1).set2 v2).set3 v3).set4 v4
theorem Cells5.apart5 {w : World} {g b : Nat} {o0 o1 o2 o3 o4 : Value} (h : Cells5 w g o0 o1 o2 o3 o4) (v0 v1 v2 v3 v4 : Value) (hne : b ≠ g) : Cells5 (set5 w b v0 v1 v2 v3 v4) g o0 o1 o2 o3 o4 := ((((h.apart v0 hne).apart v1 hne).apart v2 hne).apart v3 hne).apart v4 hne
theorem Free5.set5_ {w : World} {g : Nat} (h : Free5 w g) (b : Nat) (v0 v1 v2 v3 v4 : Value) : Free5 (set5 w b v0 v1 v2 v3 v4) g := ((((h.set _ v0).set _ v1).set _ v2).set _ v3).set _ v4
theorem below_set5 {B : Nat} {w0 w : World} (h : Below B w0 w) {g : Nat} (hg : B ≤ g) (v0 v1 v2 v3 v4 : Value) : Below B w0 (set5 w g v0 v1 v2 v3 v4) :=
  ((((h.setCell (p := ⟨g, 0, none⟩) hg v0).setCell (p := ⟨g, 1, none⟩) hg v1).setCell (p := ⟨g, 2, none⟩) hg v2).setCell (p := ⟨g, 3, none⟩) hg v3).setCell (p := ⟨g, 4, none⟩) hg v4
theorem size_set5 (w : World) (g : Nat) (v0 v1 v2 v3 v4 : Value) : (set5 w g v0 v1 v2 v3 v4).heap.size = w.heap.size := by simp [set5]
theorem store5 (g : Nat) (w : World) (o0 o1 o2 o3 o4 v0 v1 v2 v3 v4 : Value) (h : Cells5 w g o0 o1 o2 o3 o4) (hf : Free5 w g) (n0 : v0.oneCell' = true) (n1 : v1.oneCell' = true) (n2 : v2.oneCell' = true) (n3 : v3.oneCell' = true) (n4 : v4.oneCell' = true) :
    (Instr.storeAt 31 (.pointer (some ⟨g, 0, none⟩)) (.agg #[v0, v1, v2, v3, v4])).run Tryz.prog w = .ok () (set5 w g v0 v1 v2 v3 v4) := by
  have hs : (Tryz.prog.info? 31).map (·.size) = some 5 := by kernel_rfl
  obtain ⟨ie, hie, hz⟩ := Option.map_eq_some_iff.1 hs
  have hsz : (sizeOf 31).run Tryz.prog w = .ok 5 w := by simp [sizeOf, typeInfo, hie, hz]
  have hst : ∀ (w : World) (k : Nat) (v old : Value), v.oneCell' = true → w.cell? ⟨g, k, none⟩ = some old → w.frozen? ⟨g, k, none⟩ = false → (store ⟨g, k, none⟩ v).run Tryz.prog w = .ok () (w.setCell ⟨g, k, none⟩ v) := by
    intro w k v old h1 h2 h3
    rw [run_store Tryz.prog w _ v _ h1, h2]
    simp [h3]
  have a0 : (⟨g, 0, none⟩ : Addr).add 0 = ⟨g, 0, none⟩ := by simp [Addr.add]
  have a1 : (⟨g, 0, none⟩ : Addr).add 1 = ⟨g, 1, none⟩ := by simp [Addr.add]
  have a2 : (⟨g, 0, none⟩ : Addr).add 2 = ⟨g, 2, none⟩ := by simp [Addr.add]
  have a3 : (⟨g, 0, none⟩ : Addr).add 3 = ⟨g, 3, none⟩ := by simp [Addr.add]
  have a4 : (⟨g, 0, none⟩ : Addr).add 4 = ⟨g, 4, none⟩ := by simp [Addr.add]
  simp only [Instr.storeAt, Instr.sureAddr, Sem.run_bind, Sem.run_pure, Result.andThen_ok, storeVar, hsz]
  rw [if_neg (show ¬ ((Value.agg #[v0, v1, v2, v3, v4]).cells.size ≠ 5) by show ¬ (5 ≠ 5); simp)]
  show (storeCells ⟨g, 0, none⟩ [v0, v1, v2, v3, v4]).run Tryz.prog w = _
  simp only [storeCells, Sem.run_bind, a0, a1, a2, a3, a4, Nat.zero_add]
  rw [hst w 0 v0 o0 n0 h.2.1 (hf 0)]
  simp only [Result.andThen_ok]
  rw [hst _ 1 v1 o1 n1 (h.set0 v0).2.2.1 ((hf.set _ v0) 1)]
  simp only [Result.andThen_ok]
  rw [hst _ 2 v2 o2 n2 ((h.set0 v0).set1 v1).2.2.2.1 (((hf.set _ v0).set _ v1) 2)]
  simp only [Result.andThen_ok]
  rw [hst _ 3 v3 o3 n3 (((h.set0 v0).set1 v1).set2 v2).2.2.2.2.1 ((((hf.set _ v0).set _ v1).set _ v2) 3)]
  simp only [Result.andThen_ok]
  rw [hst _ 4 v4 o4 n4 ((((h.set0 v0).set1 v1).set2 v2).set3 v3).2.2.2.2.2 (((((hf.set _ v0).set _ v1).set _ v2).set _ v3) 4)]
  simp [set5]
theorem wpList_store5 {ops : Array Oper} {rest : List Oper} {o : Oper} {a : Act} {w : World} {Q : Exit → Act → World → Prop} (hgd : o.guard = none) (x y : Operand) (ho : o.op = .store 31 x y)
    (g : Nat) (v0 v1 v2 v3 v4 : Value) (hx : a.eval x = .pointer (some ⟨g, 0, none⟩)) (hy : a.eval y = .agg #[v0, v1, v2, v3, v4]) {o0 o1 o2 o3 o4 : Value} (h5 : Cells5 w g o0 o1 o2 o3 o4) (hf : Free5 w g)
    (n0 : v0.oneCell' = true) (n1 : v1.oneCell' = true) (n2 : v2.oneCell' = true) (n3 : v3.oneCell' = true) (n4 : v4.oneCell' = true)
    (h : wpList Tryz.prog ops Q rest (a.put o.dst undef) (set5 w g v0 v1 v2 v3 v4)) : wpList Tryz.prog ops Q (o :: rest) a w :=
  wpList_plain hgd fun K hK => by
    unfold Oper.wp execOp
    rw [ho]
    simp only [hx, hy, Sem.run_bind, store5 g w o0 o1 o2 o3 o4 v0 v1 v2 v3 v4 h5 hf n0 n1 n2 n3 n4, Result.andThen_ok, Sem.run_pure, Oper.upon]
    exact hK _ _ h
theorem load5 (g : Nat) (w : World) (v0 v1 v2 v3 v4 : Value) (h : Cells5 w g v0 v1 v2 v3 v4) : (loadVar 31 ⟨g, 0, none⟩).run Tryz.prog w = .ok (.agg #[v0, v1, v2, v3, v4]) w := by
  have hs : (Tryz.prog.info? 31).map (·.size) = some 5 := by kernel_rfl
  obtain ⟨ie, hie, hz⟩ := Option.map_eq_some_iff.1 hs
  have hsz : (sizeOf 31).run Tryz.prog w = .ok 5 w := by simp [sizeOf, typeInfo, hie, hz]
  have hag : (isAgg 31).run Tryz.prog w = .ok true w := by simp [isAgg, run_underlying Tryz.underlying31]
  obtain ⟨_, h0, h1, h2, h3, h4⟩ := h
  simp only [loadVar, Sem.run_bind, hag, Result.andThen_ok, if_true, hsz, loadCells, loadCellsFrom]
  simp [Addr.add, h0, h1, h2, h3, h4]
theorem results1 {fn : Func} {p : Tmp} (h : fn.results = #[.cell p 31]) (tmps : Array Value) (w : World) (g : Nat) (v0 v1 v2 v3 v4 : Value) (hp : tmps.getD p undef = .pointer (some ⟨g, 0, none⟩)) (h5 : Cells5 w g v0 v1 v2 v3 v4) :
    (results fn tmps).run Tryz.prog w = .ok (.agg #[v0, v1, v2, v3, v4]) w := by
  have hp' : tmps[p]?.getD undef = .pointer (some ⟨g, 0, none⟩) := by simpa using hp
  simp [results, h, hp', asAddr, load5 g w v0 v1 v2 v3 v4 h5]
theorem results2 {fn : Func} {p u : Tmp} (h : fn.results = #[.cell p 31, .tmp u]) (tmps : Array Value) (w : World) (g : Nat) (v0 v1 v2 v3 v4 x : Value) (hp : tmps.getD p undef = .pointer (some ⟨g, 0, none⟩)) (hx : tmps.getD u undef = x) (h5 : Cells5 w g v0 v1 v2 v3 v4) :
    (results fn tmps).run Tryz.prog w = .ok (.tuple #[.agg #[v0, v1, v2, v3, v4], x]) w := by
  rw [results_cell_tmp h, hp, hx]
  simp [asAddr, load5 g w v0 v1 v2 v3 v4 h5]
theorem cells5_at (w : World) (t : TypeId) (v0 v1 v2 v3 v4 : Value) (n : Nat) (hn : n = w.heap.size) : Cells5 (w.alloc (.cells #[v0, v1, v2, v3, v4] t)) n v0 v1 v2 v3 v4 := by subst hn; exact cells5_new w t v0 v1 v2 v3 v4
theorem free5_at (w : World) (cs : Array Value) (t : TypeId) (n : Nat) (hn : n = w.heap.size) : Free5 (w.alloc (.cells cs t)) n := by subst hn; exact free5_new w cs t
theorem field_fl (g k : Nat) (hk : k < 5) (w : World) : (Instr.fieldAt 31 (.pointer (some ⟨g, 0, none⟩)) k).run Tryz.prog w = .ok (.pointer (some ⟨g, k, none⟩)) w := by
  have h : k = 0 ∨ k = 1 ∨ k = 2 ∨ k = 3 ∨ k = 4 := by omega
  rcases h with rfl | rfl | rfl | rfl | rfl <;> simp [Instr.fieldAt, run_underlying Tryz.underlying31, Instr.sureAddr, fieldPlace, Addr.add]
theorem agg_strs (w : World) : (isAgg 26).run Tryz.prog w = .ok false w := by simp [isAgg, run_underlying Tryz.underlying26]
theorem agg_ints (w : World) : (isAgg 29).run Tryz.prog w = .ok false w := by simp [isAgg, run_underlying Tryz.underlying29]
theorem agg_str (w : World) : (isAgg 9).run Tryz.prog w = .ok false w := by simp [isAgg, run_underlying Tryz.underlying9]
theorem agg_int (w : World) : (isAgg 3).run Tryz.prog w = .ok false w := by simp [isAgg, run_underlying Tryz.underlying3]
theorem agg_bool (w : World) : (isAgg 4).run Tryz.prog w = .ok false w := by simp [isAgg, run_underlying Tryz.underlying4]

/-- A row of the call's own. -/
def isOwn (B : Nat) (e : TypeId) (cs : List Value) : VP := fun v w => w.ownsRow B e 1 v cs.length cs
theorem stable_own (B : Nat) (e : TypeId) (cs : List Value) : Stable (isOwn B e cs) := by
  intro v w w' h hb
  obtain ⟨hl, h | ⟨g, cap, cur, hv, hB, hg, rest⟩⟩ := h
  · exact ⟨hl, .inl h⟩
  · exact ⟨hl, .inr ⟨g, cap, cur, hv, hB, (hb.block g (Array.getElem?_eq_some_iff.1 hg).1).trans hg, rest⟩⟩
theorem isOwn.low {B B' : Nat} {e : TypeId} {cs : List Value} {v : Value} {w : World} (h : isOwn B e cs v w) (hB : B' ≤ B) : isOwn B' e cs v w := by
  obtain ⟨hl, h | ⟨g, cap, cur, hv, hg, rest⟩⟩ := h
  · exact ⟨hl, .inl h⟩
  · exact ⟨hl, .inr ⟨g, cap, cur, hv, Nat.le_trans hB hg, rest⟩⟩
theorem isOwn.set {B : Nat} {e : TypeId} {cs : List Value} {v : Value} {w : World} (h : isOwn B e cs v w) {p : Addr} (hp : p.block < B) (u : Value) : isOwn B e cs v (w.setCell p u) := ownsRow_setCell_below h hp u
theorem isOwn.set5_ {B : Nat} {e : TypeId} {cs : List Value} {v : Value} {w : World} (h : isOwn B e cs v w) {g : Nat} (hg : g < B) (v0 v1 v2 v3 v4 : Value) : isOwn B e cs v (set5 w g v0 v1 v2 v3 v4) :=
  ((((h.set (p := ⟨g, 0, none⟩) hg v0).set (p := ⟨g, 1, none⟩) hg v1).set (p := ⟨g, 2, none⟩) hg v2).set (p := ⟨g, 3, none⟩) hg v3).set (p := ⟨g, 4, none⟩) hg v4
theorem isOwn.cells {B : Nat} {e : TypeId} {cs : List Value} {v : Value} {w : World} (h : isOwn B e cs v w) : isCells cs v w := isCells_own h
theorem isOwn.one {B : Nat} {e : TypeId} {cs : List Value} {v : Value} {w : World} (h : isOwn B e cs v w) : v.cells = #[v] ∧ v.oneCell' = true := by
  obtain ⟨hl, ⟨rfl, _⟩ | ⟨g, cap, cur, rfl, _⟩⟩ := h
  · exact ⟨rfl, rfl⟩
  · exact ⟨rfl, rfl⟩
theorem clone_s' (B : Nat) (l : List (List UInt8)) (v : Value) (w : World) (hv : isCells (l.map strC) v w) (hl : l.length * 16 ≤ 140737488355328) (hB : B ≤ w.heap.size) :
    Calls Tryz.prog 66 #[v] w fun e w' => ∃ v', e = .returned v' ∧ isOwn B 9 (l.map strC) v' w' ∧ Below w.heap.size w w' :=
  (clone_s l v w hv hl).mono (by rintro e w' ⟨v', rfl, h1, h2⟩; exact ⟨v', rfl, isOwn.low (B := w.heap.size) (by unfold isOwn; rw [List.length_map]; exact h1) hB, h2⟩)
theorem clone_i' (B : Nat) (l : List Int) (v : Value) (w : World) (hv : isCells (l.map intC) v w) (hl : l.length * 8 ≤ 140737488355328) (hB : B ≤ w.heap.size) :
    Calls Tryz.prog 67 #[v] w fun e w' => ∃ v', e = .returned v' ∧ isOwn B 3 (l.map intC) v' w' ∧ Below w.heap.size w w' :=
  (clone_i l v w hv hl).mono (by rintro e w' ⟨v', rfl, h1, h2⟩; exact ⟨v', rfl, isOwn.low (B := w.heap.size) (by unfold isOwn; rw [List.length_map]; exact h1) hB, h2⟩)
theorem fdone_of {ops : Array Oper} {kn : Nat → VP} {a : Act} {w : World} {j : Nat} {t : Tmp} {V : VP} (h : FDone ops kn a w j) (hd : (ops[j]?).bind (·.dst) = some t) (hV : kn j = V) : V (a.tmps.getD t undef) w := by
  cases ho : ops[j]? with
  | none => rw [ho] at hd; simp at hd
  | some o => rw [ho] at hd; rw [← hV]; exact h o ho t (by simpa using hd)
noncomputable def copyOps : Array Oper := regionOf Tryz.f49 1
set_option maxRecDepth 100000 in
set_option maxHeartbeats 1000000 in
theorem copied_region (Q : Exit → Act → World → Prop) (a0 : Act) (w0 : World) (hsz : a0.tmps.size = 12) (g : Nat) (pages : List (List UInt8)) (wear : List Int) (vp vw v2 v3 v4 : Value)
    (h1 : a0.tmps.getD 1 undef = .pointer (some ⟨g, 0, none⟩)) (hc : Cells5 w0 g vp vw v2 v3 v4) (hf : Free5 w0 g) (hp : isCells (pages.map strC) vp w0) (hw : isCells (wear.map intC) vw w0)
    (hl1 : pages.length * 16 ≤ 140737488355328) (hl2 : wear.length * 8 ≤ 140737488355328)
    (hQ : ∀ (a : Act) (w1 : World) (vp' vw' : Value), a.defers = a0.defers → a.tmps.size = a0.tmps.size → (∀ t, (copyOps.toList.all fun o => o.dst != some t) = true → a.tmps.getD t undef = a0.tmps.getD t undef) →
      Below w0.heap.size w0 w1 → isOwn w0.heap.size 9 (pages.map strC) vp' w1 → isOwn w0.heap.size 3 (wear.map intC) vw' w1 → Q .normal a ((w1.setCell ⟨g, 0, none⟩ vp').setCell ⟨g, 1, none⟩ vw')) :
    (Code.region 1 copyOps true).wp Tryz.prog Q a0 w0 := by
  refine wp_region_tail 7 mixed (by rw [hsz]; kernel_rfl) (by kernel_rfl) ?_
  rw [show copyOps.size - 7 = 3 by kernel_rfl]
  refine ⟨isVal (.pointer (some ⟨g, 0, none⟩)), step_field 31 (.tmp 1) 0 ⟨g, 0, none⟩ ⟨g, 0, none⟩ (by kernel_rfl) (wanted_none (by kernel_rfl)) (knows_old 1 (.pointer (some ⟨g, 0, none⟩)) (by kernel_rfl) h1) (field_fl g 0 (by omega)), ?_⟩
  refine ⟨isVal vp, step_read 26 (.tmp 3) ⟨g, 0, none⟩ vp (by kernel_rfl) (wanted_none (by kernel_rfl)) (knows_new (V := isVal (.pointer (some ⟨g, 0, none⟩))) 3 0 (by kernel_rfl) (by kernel_rfl) (by kernel_rfl)) hc.2.1 hc.1 agg_strs, ?_⟩
  refine ⟨(isOwn w0.heap.size 9 (pages.map strC)), step_call 66 #[.tmp 4] #[26] #[vp] (by kernel_rfl) (wanted_none (by kernel_rfl)) (stable_own _ _ _) (args1 (.tmp 4) vp (knows_new (V := isVal vp) 4 1 (by kernel_rfl) (by kernel_rfl) (by kernel_rfl))) (enters_of Tryz.func66 (by kernel_rfl) rfl) (by intro w hb; exact clone_s' w0.heap.size pages vp w (stable_cells _ _ _ _ hp hb) hl1 hb.size), ?_⟩
  refine ⟨isVal (.pointer (some ⟨g, 1, none⟩)), step_field 31 (.tmp 1) 1 ⟨g, 0, none⟩ ⟨g, 1, none⟩ (by kernel_rfl) (wanted_none (by kernel_rfl)) (knows_old 1 (.pointer (some ⟨g, 0, none⟩)) (by kernel_rfl) h1) (field_fl g 1 (by omega)), ?_⟩
  refine ⟨isVal vw, step_read 29 (.tmp 6) ⟨g, 1, none⟩ vw (by kernel_rfl) (wanted_none (by kernel_rfl)) (knows_new (V := isVal (.pointer (some ⟨g, 1, none⟩))) 6 3 (by kernel_rfl) (by kernel_rfl) (by kernel_rfl)) hc.2.2.1 hc.1 agg_ints, ?_⟩
  refine ⟨(isOwn w0.heap.size 3 (wear.map intC)), step_call 67 #[.tmp 7] #[29] #[vw] (by kernel_rfl) (wanted_none (by kernel_rfl)) (stable_own _ _ _) (args1 (.tmp 7) vw (knows_new (V := isVal vw) 7 4 (by kernel_rfl) (by kernel_rfl) (by kernel_rfl))) (enters_of Tryz.func67 (by kernel_rfl) rfl) (by intro w hb; exact clone_i' w0.heap.size wear vw w (stable_cells _ _ _ _ hw hb) hl2 hb.size), ?_⟩
  refine ⟨isVal (.pointer (some ⟨g, 0, none⟩)), step_field 31 (.tmp 1) 0 ⟨g, 0, none⟩ ⟨g, 0, none⟩ (by kernel_rfl) (wanted_none (by kernel_rfl)) (knows_old 1 (.pointer (some ⟨g, 0, none⟩)) (by kernel_rfl) h1) (field_fl g 0 (by omega)), ?_⟩
  intro a w hk hb hd
  have d5 := fdone_of (hd 2 (by decide)) (t := 5) (V := isOwn w0.heap.size 9 (pages.map strC)) (by kernel_rfl) (by kernel_rfl)
  have d8 := fdone_of (hd 5 (by decide)) (t := 8) (V := isOwn w0.heap.size 3 (wear.map intC)) (by kernel_rfl) (by kernel_rfl)
  have d9 := fdone_of (hd 6 (by decide)) (t := 9) (V := isVal (.pointer (some ⟨g, 0, none⟩))) (by kernel_rfl) (by kernel_rfl)
  have e1 : a.tmps.getD 1 undef = .pointer (some ⟨g, 0, none⟩) := (hk.2.2 1 (by kernel_rfl)).trans h1
  have hcw := hc.keep hb hc.1
  have hfw := hf.keep hb hc.1
  have hgw : g < w0.heap.size := hc.1
  have hs10 : 10 < a.tmps.size := by rw [hk.2.1, hsz]; decide
  refine tail_store 26 (.tmp 9) (.tmp 5) ⟨g, 0, none⟩ (a.tmps.getD 5 undef) _ (by kernel_rfl) (by kernel_rfl) d9 rfl (by kernel_rfl) d5.one.1 d5.one.2 hcw.2.1 (hfw 0) ?_
  refine tail_field 31 (.tmp 1) 1 ⟨g, 0, none⟩ ⟨g, 1, none⟩ 10 (by kernel_rfl) (by kernel_rfl) e1 (field_fl g 1 (by omega)) ?_
  refine tail_store 29 (.tmp 10) (.tmp 8) ⟨g, 1, none⟩ (a.tmps.getD 8 undef) _ (by kernel_rfl) (by kernel_rfl) (getD_put_self hs10) (getD_put (by decide)) (by kernel_rfl) d8.one.1 d8.one.2 (hcw.set0 _).2.2.1 (hfw.set _ _ 1) ?_
  refine hQ _ w _ _ ((defers_put (a := a)).trans hk.1) ((size_put (a := a)).trans hk.2.1) (fun t ht => ?_) hb d5 d8
  have hall : (copyOps.toList.all fun o => o.dst != some 10) = false := by kernel_rfl
  rw [getD_put (fun e => by rw [e, hall] at ht; cases ht)]
  exact hk.2.2 t ht

set_option maxRecDepth 100000 in
set_option maxHeartbeats 1000000 in
theorem copied_any (F : Fl) (v : Value) (w : World) (hv : isFl F v w) (h1 : F.pages.length * 16 ≤ 140737488355328) (h2 : F.wear.length * 8 ≤ 140737488355328) :
    Calls Tryz.prog 49 #[v] w fun e w' => ∃ vp vw, e = .returned (.agg #[vp, vw, .int .i64 F.fuse, strC F.torn, .bool F.dead]) ∧ isOwn w.heap.size 9 (F.pages.map strC) vp w' ∧ isOwn w.heap.size 3 (F.wear.map intC) vw w' ∧ Below w.heap.size w w' := by
  obtain ⟨vp, vw, rfl, hp, hw⟩ := hv
  have HP := Lib.hid hp
  have HW := Lib.hid hw
  clear hp hw
  go_enter Tryz.func49, Tryz.ntmps49
  go_wp2_with fail
  have hb0 : Below w.heap.size w ((w.alloc (.cells #[vp, vw, .int .i64 F.fuse, strC F.torn, .bool F.dead] 31)).alloc (.cells #[.slice none 0 0, .slice none 0 0, .int .i64 0, .string ⟨#[]⟩, .bool false] 31)) := ((Below.refl _ _).alloc (Nat.le_refl _) _).alloc (by simp <;> omega) _
  have hc1 := cells5_new w 31 vp vw (.int .i64 F.fuse) (strC F.torn) (.bool F.dead)
  have hf1 := free5_new w #[vp, vw, .int .i64 F.fuse, strC F.torn, .bool F.dead] 31
  have hc2 := cells5_at (w.alloc (.cells #[vp, vw, .int .i64 F.fuse, strC F.torn, .bool F.dead] 31)) 31 (.slice none 0 0) (.slice none 0 0) (.int .i64 0) (.string ⟨#[]⟩) (.bool false) (w.heap.size + 1) (by simp)
  have hf2 := free5_at (w.alloc (.cells #[vp, vw, .int .i64 F.fuse, strC F.torn, .bool F.dead] 31)) #[.slice none 0 0, .slice none 0 0, .int .i64 0, .string ⟨#[]⟩, .bool false] 31 (w.heap.size + 1) (by simp)
  have hbn := (Below.refl (w.alloc (.cells #[vp, vw, .int .i64 F.fuse, strC F.torn, .bool F.dead] 31)).heap.size (w.alloc (.cells #[vp, vw, .int .i64 F.fuse, strC F.torn, .bool F.dead] 31))).alloc (Nat.le_refl _) (.cells #[.slice none 0 0, .slice none 0 0, .int .i64 0, .string ⟨#[]⟩, .bool false] 31)
  refine copied_region _ _ _ rfl w.heap.size F.pages F.wear vp vw (.int .i64 F.fuse) (strC F.torn) (.bool F.dead) rfl (hc1.keep hbn (by simp <;> omega)) (hf1.keep hbn (by simp <;> omega)) (stable_cells _ _ _ _ HP.out hb0) (stable_cells _ _ _ _ HW.out hb0) h1 h2 ?_
  intro act w1 vp' vw' hdf hsz hkeep hb1 ho1 ho2
  have hk1 : act.tmps.getD 1 undef = .pointer (some ⟨w.heap.size, 0, none⟩) := hkeep 1 (by kernel_rfl)
  have hk2 : act.tmps.getD 2 undef = .pointer (some ⟨w.heap.size + 1, 0, none⟩) := hkeep 2 (by kernel_rfl)
  obtain ⟨tm, df⟩ := act
  obtain rfl : df = [] := hdf
  clear hkeep
  obtain ⟨f, rfl, hk1, hk2⟩ : ∃ f : Nat → Value, tm = ((List.range 12).map f).toArray ∧ f 1 = .pointer (some ⟨w.heap.size, 0, none⟩) ∧ f 2 = .pointer (some ⟨w.heap.size + 1, 0, none⟩) := ⟨fun i => tm.getD i undef, arr_eta tm hsz, hk1, hk2⟩
  rw [show ((List.range 12).map f).toArray = #[f 0, f 1, f 2, f 3, f 4, f 5, f 6, f 7, f 8, f 9, f 10, f 11] from rfl]
  rw [hk1, hk2]
  clear hsz hk1 hk2
  have q1 := (((hc1.keep hbn (by simp <;> omega)).keep hb1 (by simp <;> omega)).set0 vp').set1 vw'
  have q2 := (((hc2.keep hb1 (by simp <;> omega)).apart (b := w.heap.size) (o := 0) vp' (by simp <;> omega)).apart (b := w.heap.size) (o := 1) vw' (by simp <;> omega))
  have q3 := ((hf2.keep hb1 (by simp <;> omega)).set ⟨w.heap.size, 0, none⟩ vp').set ⟨w.heap.size, 1, none⟩ vw'
  have hB : Below w.heap.size w ((w1.setCell ⟨w.heap.size, 0, none⟩ vp').setCell ⟨w.heap.size, 1, none⟩ vw') := ((hb0.trans (hb1.mono hb0.size)).setCell (p := ⟨w.heap.size, 0, none⟩) (Nat.le_refl _) vp').setCell (p := ⟨w.heap.size, 1, none⟩) (Nat.le_refl _) vw'
  replace ho1 := (ho1.set (p := ⟨w.heap.size, 0, none⟩) (by simp <;> omega) vp').set (p := ⟨w.heap.size, 1, none⟩) (by simp <;> omega) vw'
  replace ho2 := (ho2.set (p := ⟨w.heap.size, 0, none⟩) (by simp <;> omega) vp').set (p := ⟨w.heap.size, 1, none⟩) (by simp <;> omega) vw'
  obtain ⟨oc1, oo1⟩ := ho1.one
  obtain ⟨oc2, oo2⟩ := ho2.one
  generalize (w1.setCell ⟨w.heap.size, 0, none⟩ vp').setCell ⟨w.heap.size, 1, none⟩ vw' = W at *
  have HO1 := Lib.hid ho1
  have HO2 := Lib.hid ho2
  clear ho1 ho2 hc1 hc2 hf1 hf2 hbn hb1 hb0 HP HW
  have hB5 := below_set5 hB (g := w.heap.size + 1) (by omega) vp' vw' (.int .i64 F.fuse) (strC F.torn) (.bool F.dead)
  obtain ⟨g1, k0, k1, k2, k3, k4⟩ := q1
  obtain ⟨g2, j0, j1, j2, j3, j4⟩ := q2.set5_ vp' vw' (.int .i64 F.fuse) (strC F.torn) (.bool F.dead)
  have HQ2 := Lib.hid q2
  have HQ5 := Lib.hid (q2.set5_ vp' vw' (.int .i64 F.fuse) (strC F.torn) (.bool F.dead))
  have HQ3 := Lib.hid q3
  clear q2 q3
  have HP1 := Lib.hid (show isOwn w.heap.size 9 (F.pages.map strC) vp' (set5 W (w.heap.size + 1) vp' vw' (.int .i64 F.fuse) (strC F.torn) (.bool F.dead)) from (HO1.out.set5_ (by simp <;> omega) _ _ _ _ _).low (by simp <;> omega))
  have HP2 := Lib.hid (show isOwn w.heap.size 3 (F.wear.map intC) vw' (set5 W (w.heap.size + 1) vp' vw' (.int .i64 F.fuse) (strC F.torn) (.bool F.dead)) from (HO2.out.set5_ (by simp <;> omega) _ _ _ _ _).low (by simp <;> omega))
  go_wp2_with (refine wpList_store5 rfl _ _ rfl (w.heap.size + 1) vp' vw' (.int .i64 F.fuse) (strC F.torn) (.bool F.dead) rfl rfl HQ2.out HQ3.out oo1 oo2 rfl rfl rfl ?_)
  exact bodyPost_ret (results1 rfl _ _ (w.heap.size + 1) vp' vw' (.int .i64 F.fuse) (strC F.torn) (.bool F.dead) rfl HQ5.out) rfl ⟨_, _, rfl, HP1.out, HP2.out, hB5⟩
end Go.Proofs.YtipiioggdalkoaaGreatDoor
end
section
namespace Go.Proofs.YtipiioggdalkoaaGreatDoor
open Go.RowKit
set_option linter.unusedVariables false
set_option linter.unusedSimpArgs false

/-- Which bits of a page's bytes are done, if a step is torn. -/
def maskL (torn : List UInt8) (n : Nat) : List UInt8 := (List.range n).map fun i => torn.getD (i % torn.length) 0
theorem length_maskL (torn : List UInt8) (n : Nat) : (maskL torn n).length = n := by simp [maskL]
theorem length_repeatL (l : List UInt8) (c : Nat) : (Lib.repeatL l c).length = c * l.length := by
  induction c with
  | zero => simp [Lib.repeatL]
  | succ c ih => rw [Lib.repeatL, List.length_append, ih, Nat.succ_mul, Nat.add_comm]
theorem repeatL_get (l : List UInt8) (h : l ≠ []) : ∀ (c i : Nat), i < c * l.length → (Lib.repeatL l c)[i]? = some (l.getD (i % l.length) 0)
  | 0, i, hi => by simp at hi
  | c + 1, i, hi => by
    have h0 : 0 < l.length := List.length_pos_iff.2 h
    rw [Lib.repeatL]
    by_cases e : i < l.length
    · rw [List.getElem?_append_left e, Nat.mod_eq_of_lt e, List.getElem?_eq_getElem e]; simp [List.getD_eq_getElem?_getD, e]
    · rw [List.getElem?_append_right (by omega), repeatL_get l h c (i - l.length) (by rw [Nat.succ_mul] at hi; omega)]
      rw [Nat.mod_eq_sub_mod (a := i) (by omega)]
theorem take_repeatL (torn : List UInt8) (h : torn ≠ []) (n : Nat) : (Lib.repeatL torn (n / torn.length + 1)).take n = maskL torn n := by
  have h0 : 0 < torn.length := List.length_pos_iff.2 h
  have hn : n < (n / torn.length + 1) * torn.length := by
    have e1 := Nat.div_add_mod n torn.length
    have e2 := Nat.mod_lt n h0
    rw [Nat.succ_mul, Nat.mul_comm]
    omega
  apply List.ext_getElem?
  intro i
  rw [List.getElem?_take]
  by_cases e : i < n
  · rw [if_pos e, repeatL_get torn h _ i (by omega)]
    unfold maskL
    simp [e]
  · rw [if_neg e, List.getElem?_eq_none (by rw [length_maskL]; omega)]
theorem ext_takeF (l : List UInt8) (n : Nat) : (⟨l.toArray⟩ : ByteArray).extract 0 n = ⟨(l.take n).toArray⟩ := by
  apply ByteArray.ext
  apply Array.toList_inj.1
  rw [ByteArray.data_extract, Array.toList_extract, List.extract_eq_take_drop]
  simp
theorem repeatL_zero (n : Nat) : Lib.repeatL [0] n = maskL [] n := by
  induction n with
  | zero => rfl
  | succ n ih =>
    rw [Lib.repeatL, ih]
    unfold maskL
    rw [List.range_succ_eq_map]
    simp [List.getD_eq_getElem?_getD]

set_option maxHeartbeats 400000 in
theorem goingRound_any (torn : List UInt8) (n : Nat) (w : World) (hn : n ≤ 1000000) (ht : torn.length ≤ 1000000) :
    Calls Tryz.prog 96 #[.string ⟨torn.toArray⟩, .int .i64 (n : Int)] w fun e w' => e = .returned (.string ⟨(maskL torn n).toArray⟩) ∧ Below w.heap.size w w' := by
  by_cases h : torn = []
  · subst h
    have H := Lib.hid (repeatL_zero n)
    go_enter Tryz.func96, Tryz.ntmps96
    go_wp2_with fail
    refine (Tryz.strings_Repeat ⟨#[0]⟩ n _ (by omega) (by show 1 * n ≤ _; omega)).mono ?_
    rintro e w' ⟨rfl, hb⟩
    go_wp2
    go_ret
    exact ⟨ret_str H.out, hb⟩
  · have h0 : 0 < torn.length := List.length_pos_iff.2 h
    have hsz : (⟨torn.toArray⟩ : ByteArray).size = torn.length := size_mk torn
    have hbe : (torn == []) = false := by simpa using h
    obtain ⟨q, hq⟩ : ∃ q, q = n / torn.length := ⟨_, rfl⟩
    have hqn : q ≤ n := by rw [hq]; exact Nat.div_le_self _ _
    have hqd : ((n : Int) / (torn.length : Int)) = (q : Int) := by rw [hq]; simp
    have hmul : torn.length * (q + 1) ≤ n + torn.length := by rw [hq, Nat.mul_add, Nat.mul_one]; have := Nat.mul_div_le n torn.length; omega
    have H := Lib.hid (take_repeatL torn h n)
    rw [← hq] at H
    have hlen := length_repeatL torn (q + 1)
    have hle : n ≤ (q + 1) * torn.length := by
      have := congrArg List.length H.out
      rw [List.length_take, length_maskL, hlen] at this
      omega
    have hext := ext_takeF (Lib.repeatL torn (q + 1)) n
    have hrsz : (⟨(Lib.repeatL torn (q + 1)).toArray⟩ : ByteArray).size = (q + 1) * torn.length := by rw [size_mk]; exact hlen
    obtain ⟨m, hm⟩ : ∃ m, m = (q + 1) * torn.length := ⟨_, rfl⟩
    rw [← hm] at hrsz hle hlen
    have hm2 : m ≤ n + torn.length := by rw [hm, Nat.mul_comm]; exact hmul
    have HQ := Lib.hid hq
    have HM := Lib.hid hm
    have HU := Lib.hid hmul
    clear hq hm h hmul
    go_enter Tryz.func96, Tryz.ntmps96
    go_wp2_with fail
    refine (Tryz.strings_Repeat ⟨torn.toArray⟩ (q + 1) _ (by omega) (by rw [size_mk]; have := HU.out; omega)).mono ?_
    rintro e w' ⟨rfl, hb⟩
    have ht2 : (⟨torn.toArray⟩ : ByteArray).data.toList = torn := by simp
    rw [ht2]
    generalize Lib.repeatL torn (q + 1) = r at *
    go_wp2
    go_ret
    exact ⟨ret_str H.out, hb⟩

/-- A page of which just those bits were changed, of those that a step would change, that torn has. -/
def betweenL (was would torn : List UInt8) : List UInt8 := pairL (· ^^^ ·) was (pairL (· &&& ·) (pairL (· ^^^ ·) was would) (maskL torn was.length))
set_option maxHeartbeats 400000 in
theorem between_any (was would torn : List UInt8) (w : World) (h1 : was.length ≤ 1000000) (h2 : would.length ≤ 1000000) (h3 : torn.length ≤ 1000000) :
    Calls Tryz.prog 81 #[.string ⟨was.toArray⟩, .string ⟨would.toArray⟩, .string ⟨torn.toArray⟩] w fun e w' => e = .returned (.string ⟨(betweenL was would torn).toArray⟩) ∧ Below w.heap.size w w' := by
  have hsz : (⟨was.toArray⟩ : ByteArray).size = was.length := size_mk was
  have H := Lib.hid (show betweenL was would torn = pairL (· ^^^ ·) was (pairL (· &&& ·) (pairL (· ^^^ ·) was would) (maskL torn was.length)) from rfl)
  go_enter Tryz.func81, Tryz.ntmps81
  go_wp2_with fail
  refine (xor_l was would _ (by omega) (by omega)).mono ?_
  rintro e w1 ⟨rfl, hB⟩
  go_wp2_with fail
  refine (goingRound_any torn was.length _ h1 h3).mono ?_
  rintro e w2 ⟨rfl, hb2⟩
  replace hB := hB.trans (hb2.mono hB.size); clear hb2
  go_wp2_with fail
  refine (and_l _ _ _ (by rw [length_pairL]; omega) (by rw [length_maskL]; omega)).mono ?_
  rintro e w2 ⟨rfl, hb2⟩
  replace hB := hB.trans (hb2.mono hB.size); clear hb2
  go_wp2_with fail
  refine (xor_l _ _ _ (by omega) (by rw [length_pairL, length_pairL]; omega)).mono ?_
  rintro e w2 ⟨rfl, hb2⟩
  replace hB := hB.trans (hb2.mono hB.size); clear hb2
  rw [← H.out]
  go_wp2
  go_ret
  exact ⟨rfl, hB⟩
end Go.Proofs.YtipiioggdalkoaaGreatDoor
end
section
namespace Go.Proofs.YtipiioggdalkoaaGreatDoor
open Go.RowKit
set_option linter.unusedVariables false
set_option linter.unusedSimpArgs false

section
variable {P : Program} {ops : Array Oper} {base : World} {a0 : Act} {Q : Exit → Act → World → Prop} {kn : Nat → VP} {i : Nat} {V : VP}

theorem step_len (t : TypeId) (x : Operand) (v r : Value) (hop : (ops[i]?).map (·.op) = some (.call { callee := .builtin .len, args := #[x], argTypes := #[t] })) (hw : Wanted ops a0 kn i) (hx : Knows ops a0 kn i x (isVal v))
    (hr : ∀ ty w, (Builtin.len_ #[t] ty #[v]).run P w = .ok r w) : FStep P ops base a0 Q kn i (isVal r) :=
  step_pure r hop hw fun o a w ho hk hd => by
    have e1 : a.eval x = v := hx a w hk hd
    unfold execOp
    rw [ho]
    simp only [resolve, Sem.run_bind, Sem.run_pure, Result.andThen_ok, invoke, builtin, List.map_toArray, List.map_cons, List.map_nil, e1, hr]
/-- A place in a row. -/
theorem step_place (t e : TypeId) (x y : Operand) (b off n cap k : Nat) (hop : (ops[i]?).map (·.op) = some (.indexAddr t x y)) (hw : Wanted ops a0 kn i) (hx : Knows ops a0 kn i x (isVal (.slice (some ⟨b, off, none⟩) n cap))) (hy : Knows ops a0 kn i y (isVal (.int .i64 (k : Int))))
    (ht : P.underlying t = some (.slice e)) (hi : (P.info? e).map (·.size) = some 1) (hk : k < n) : FStep P ops base a0 Q kn i (isVal (.pointer (some ⟨b, off + k, none⟩))) :=
  step_pure _ hop hw fun o a w ho hk' hd => by
    have e1 : a.eval x = _ := hx a w hk' hd
    have e2 : a.eval y = _ := hy a w hk' hd
    obtain ⟨ie, hie, hz⟩ := Option.map_eq_some_iff.1 hi
    have hsz : (sizeOf e).run P w = .ok 1 w := by simp [sizeOf, typeInfo, hie, hz]
    unfold execOp
    rw [ho]
    simp only [e1, e2, Sem.run_bind]
    simp [Instr.indexAt, run_underlying ht, asIntOf, hsz, hk, Addr.add]
/-- The head, and the rest, of a text. -/
theorem step_head (t : TypeId) (x y : Operand) (l : List UInt8) (k : Nat) (hop : (ops[i]?).map (·.op) = some (.slice t x none (some y) none)) (hw : Wanted ops a0 kn i) (hx : Knows ops a0 kn i x (isVal (.string ⟨l.toArray⟩))) (hy : Knows ops a0 kn i y (isVal (.int .i64 (k : Int))))
    (hr : ∀ w, (Instr.sliceAt t (.string ⟨l.toArray⟩) none (some (.int .i64 (k : Int))) none).run P w = .ok (.string ⟨(l.take k).toArray⟩) w) : FStep P ops base a0 Q kn i (isVal (.string ⟨(l.take k).toArray⟩)) :=
  step_pure _ hop hw fun o a w ho hk' hd => by
    have e1 : a.eval x = _ := hx a w hk' hd
    have e2 : a.eval y = _ := hy a w hk' hd
    unfold execOp
    rw [ho]
    simp only [e1, e2, Sem.run_bind, Option.map_none, Option.map_some, hr, Result.andThen_ok, Sem.run_pure]
theorem step_rest (t : TypeId) (x y : Operand) (l : List UInt8) (k : Nat) (hop : (ops[i]?).map (·.op) = some (.slice t x (some y) none none)) (hw : Wanted ops a0 kn i) (hx : Knows ops a0 kn i x (isVal (.string ⟨l.toArray⟩))) (hy : Knows ops a0 kn i y (isVal (.int .i64 (k : Int))))
    (hr : ∀ w, (Instr.sliceAt t (.string ⟨l.toArray⟩) (some (.int .i64 (k : Int))) none none).run P w = .ok (.string ⟨(l.drop k).toArray⟩) w) : FStep P ops base a0 Q kn i (isVal (.string ⟨(l.drop k).toArray⟩)) :=
  step_pure _ hop hw fun o a w ho hk' hd => by
    have e1 : a.eval x = _ := hx a w hk' hd
    have e2 : a.eval y = _ := hy a w hk' hd
    unfold execOp
    rw [ho]
    simp only [e1, e2, Sem.run_bind, Option.map_none, Option.map_some, hr, Result.andThen_ok, Sem.run_pure]
/-- A method's value, and that it is none of nil. -/
theorem step_method (name : String) (x : Operand) (v : Value) (hop : (ops[i]?).map (·.op) = some (.makeFunc (.method name) #[x] #[])) (hw : Wanted ops a0 kn i) (hx : Knows ops a0 kn i x (isVal v)) : FStep P ops base a0 Q kn i (isVal (.func (.method name) #[v] #[])) :=
  step_pure _ hop hw fun o a w ho hk' hd => by
    have e1 : a.eval x = v := hx a w hk' hd
    unfold execOp
    rw [ho]
    simp [e1, Instr.makeFunc]
theorem step_nil (name : String) (x : Operand) (t : TypeId) (v : Value) (hop : (ops[i]?).map (·.op) = some (.nilCheck x)) (hw : Wanted ops a0 kn i) (hx : Knows ops a0 kn i x (isVal (.func (.method name) #[.iface t v] #[])))
    (hr : ∀ w, (nilAhead (P.types.size + Made.depth) t v name).run P w = .ok (some false) w) : FStep P ops base a0 Q kn i (isVal (.func (.method name) #[.iface t v] #[])) :=
  step_pure _ hop hw fun o a w ho hk' hd => by
    have e1 : a.eval x = _ := hx a w hk' hd
    unfold execOp
    rw [ho]
    simp only [e1]
    simp [run_program, hr]
/-- A call by an interface. -/
theorem step_invoke (name : String) (r : Operand) (recv : Value) (f : FuncId) (xs : Array Operand) (ts : Array TypeId) (vs ws : Array Value) (hop : (ops[i]?).map (·.op) = some (.call { callee := .invoke r name, args := xs, argTypes := ts })) (hw : Wanted ops a0 kn i) (hst : Stable V)
    (hx : ∀ a w, FKept ops a0 a → FDeps ops kn i a w → xs.map a.eval = vs) (hrv : Knows ops a0 kn i r (isVal recv)) (hr : ∀ w, (invoke (.fn (.method name) #[]) (#[recv] ++ vs)).run P w = .ok (.enter f ws) w)
    (hc : ∀ w, Below base.heap.size base w → Calls P f ws w fun e w' => ∃ v, e = .returned v ∧ V v w' ∧ Below w.heap.size w w') : FStep P ops base a0 Q kn i V :=
  step_mk hst hw fun o ho a w hk hb hd => by
    unfold Oper.wp execOp
    rw [op_of hop ho]
    have e1 : xs.map a.eval = vs := hx a w hk hd
    have e2 : a.eval r = recv := hrv a w hk hd
    simp only [resolve, e1, e2, Sem.run_bind, Sem.run_pure, Result.andThen_ok, hr]
    simp only [Oper.upon]
    refine (hc w hb).mono ?_
    rintro e w' ⟨v, rfl, hv, hbw⟩
    exact ⟨v, rfl, hv, hbw⟩
end
theorem ext_takeG (l : List UInt8) (n : Nat) : (⟨l.toArray⟩ : ByteArray).extract 0 n = ⟨(l.take n).toArray⟩ := by
  apply ByteArray.ext
  apply Array.toList_inj.1
  rw [ByteArray.data_extract, Array.toList_extract, List.extract_eq_take_drop]
  simp
theorem ext_dropG (l : List UInt8) (n : Nat) : (⟨l.toArray⟩ : ByteArray).extract n (⟨l.toArray⟩ : ByteArray).size = ⟨(l.drop n).toArray⟩ := by
  apply ByteArray.ext
  apply Array.toList_inj.1
  rw [ByteArray.data_extract, Array.toList_extract, List.extract_eq_take_drop, size_mk]
  simp
  exact List.take_of_length_le (by simp)
theorem len_str (l : List UInt8) (ty : TypeId) (w : World) : (Builtin.len_ #[9] ty #[.string ⟨l.toArray⟩]).run Tryz.prog w = .ok (.int .i64 (l.length : Int)) w := by
  simp [Builtin.len_, run_underlying Tryz.underlying9, goInt]
  rw [size_mk]
theorem head_str (l : List UInt8) (k : Nat) (hk : k ≤ l.length) (w : World) : (Instr.sliceAt 9 (.string ⟨l.toArray⟩) none (some (.int .i64 (k : Int))) none).run Tryz.prog w = .ok (.string ⟨(l.take k).toArray⟩) w := by
  rw [run_sliceAt_string _ _ _ _ _ _ Tryz.underlying9, run_slice_string_h (ht := Tryz.underlying9) (h0 := by omega) (h2 := by rw [size_mk]; omega)]
  rw [Int.toNat_natCast, ext_takeG]
theorem rest_str (l : List UInt8) (k : Nat) (hk : k ≤ l.length) (w : World) : (Instr.sliceAt 9 (.string ⟨l.toArray⟩) (some (.int .i64 (k : Int))) none none).run Tryz.prog w = .ok (.string ⟨(l.drop k).toArray⟩) w := by
  rw [run_sliceAt_string _ _ _ _ _ _ Tryz.underlying9, run_slice_string_l (ht := Tryz.underlying9) (h0 := by omega) (h1 := by rw [size_mk]; omega)]
  rw [Int.toNat_natCast, ext_dropG]
end Go.Proofs.YtipiioggdalkoaaGreatDoor
end
section
namespace Go.Proofs.YtipiioggdalkoaaGreatDoor
open Go.RowKit
set_option linter.unusedVariables false
set_option linter.unusedSimpArgs false

theorem eFits_any (n : Int) (w : World) : Calls Tryz.prog 166 #[.agg #[], .int .i64 n] w fun e w' => e = .returned (.bool true) ∧ Below w.heap.size w w' := by
  go_enter Tryz.func166, Tryz.ntmps166
  go_wp2
  go_ret
  exact ⟨rfl, (Below.refl _ _).alloc (Nat.le_refl _) _⟩
set_option maxHeartbeats 400000 in
theorem ePage_any (was : List UInt8) (w : World) (h : was.length ≤ 100000) : Calls Tryz.prog 167 #[.agg #[], .string ⟨was.toArray⟩] w fun e w' => e = .returned (.string ⟨(List.replicate was.length 255).toArray⟩) ∧ Below w.heap.size w w' := by
  have hsz : (⟨was.toArray⟩ : ByteArray).size = was.length := size_mk was
  have H := Lib.hid (show onesL (was.length : Int) = List.replicate was.length 255 by unfold onesL; rw [if_pos (by omega), Int.toNat_natCast])
  go_enter Tryz.func167, Tryz.ntmps167
  go_wp2_with fail
  refine (ones_any _ _).mono ?_
  rintro e w' ⟨rfl, hb⟩
  rw [H.out]
  go_wp2
  go_ret
  exact ⟨rfl, ((Below.refl w.heap.size w).alloc (Nat.le_refl _) _).trans (hb.mono (by simp))⟩
def wornN (n : Int) : Int := if n + 1 ≤ 2147483647 then n + 1 else 2147483647
set_option maxHeartbeats 400000 in
theorem eWear_any (n : Int) (w : World) (h0 : 0 ≤ n) (h1 : n ≤ 2147483647) : Calls Tryz.prog 168 #[.agg #[], .int .i64 n] w fun e w' => e = .returned (.int .i64 (wornN n)) ∧ Below w.heap.size w w' := by
  have hmin : ∀ (ts : Array TypeId) (t : TypeId) (W : World), (Builtin.min_ ts t #[.int .i64 (n + 1), .int .i64 2147483647]).run Tryz.prog W = .ok (.int .i64 (wornN n)) W := by
    intro ts t W
    rw [run_min_int2]
    unfold wornN
    congr 2
    split <;> split <;> omega
  go_enter Tryz.func168, Tryz.ntmps168
  go_wp2
  go_ret
  exact ⟨rfl, (Below.refl _ _).alloc (Nat.le_refl _) _⟩
theorem pWear_any (v : Value) (n : Int) (w : World) (at_ : Int) (s : List UInt8) : Calls Tryz.prog 171 #[.agg #[.int .i64 at_, .string ⟨s.toArray⟩], .int .i64 n] w fun e w' => e = .returned (.int .i64 n) ∧ Below w.heap.size w w' := by
  go_enter Tryz.func171, Tryz.ntmps171
  go_wp2
  go_ret
  exact ⟨rfl, (Below.refl _ _).alloc (Nat.le_refl _) _⟩
set_option maxHeartbeats 400000 in
theorem pFits_any (at_ : Int) (s : List UInt8) (n : Int) (w : World) (hs : s.length ≤ 1000000000) (h2 : -1000000000000 ≤ n) (h3 : n ≤ 1000000000000) :
    Calls Tryz.prog 169 #[.agg #[.int .i64 at_, .string ⟨s.toArray⟩], .int .i64 n] w fun e w' => e = .returned (.bool (decide (0 ≤ at_) && decide (at_ ≤ n - s.length))) ∧ Below w.heap.size w w' := by
  go_enter Tryz.func169, Tryz.ntmps169
  go_wp2_with fail
  refine (stands_any s at_ n _ hs h2 h3).mono ?_
  rintro e w' ⟨rfl, rfl⟩
  obtain ⟨z, hz⟩ : ∃ z, z = (decide (0 ≤ at_) && decide (at_ ≤ n - (s.length : Int))) := ⟨_, rfl⟩
  rw [← hz]
  have HZ := Lib.hid hz
  clear hz
  go_wp2
  go_ret
  exact ⟨by rw [← HZ.out]; rfl, (Below.refl _ _).alloc (Nat.le_refl _) _⟩

theorem field_pr (g k : Nat) (hk : k < 2) (w : World) : (Instr.fieldAt 77 (.pointer (some ⟨g, 0, none⟩)) k).run Tryz.prog w = .ok (.pointer (some ⟨g, k, none⟩)) w := by
  have h : k = 0 ∨ k = 1 := by omega
  rcases h with rfl | rfl <;> simp [Instr.fieldAt, run_underlying Tryz.underlying77, Instr.sureAddr, fieldPlace, Addr.add]
/-- A page that was programmed. -/
def progL (was : List UInt8) (k : Nat) (s : List UInt8) : List UInt8 := was.take k ++ pairL (· &&& ·) (was.drop k) s
theorem length_progL (was : List UInt8) (k : Nat) (s : List UInt8) : (progL was k s).length = was.length := by
  unfold progL
  rw [List.length_append, length_pairL, ← List.length_append, List.take_append_drop]
theorem call_and (t d : List UInt8) (ht : t.length ≤ 1000000000) (hd : d.length ≤ 1000000000) (w : World) :
    Calls Tryz.prog 95 #[.string ⟨t.toArray⟩, .string ⟨d.toArray⟩] w fun e w' => ∃ v, e = .returned v ∧ isVal (.string ⟨(pairL (· &&& ·) t d).toArray⟩) v w' ∧ Below w.heap.size w w' :=
  (and_l t d w ht hd).mono (by rintro e w' ⟨rfl, hb⟩; exact ⟨_, rfl, rfl, hb⟩)
noncomputable def ppOps : Array Oper := regionOf Tryz.f170 1
set_option maxRecDepth 100000 in
set_option maxHeartbeats 1000000 in
theorem pPage_region (Q : Exit → Act → World → Prop) (a0 : Act) (w0 : World) (hsz : a0.tmps.size = 17) (was s : List UInt8) (k g : Nat) (hk : k ≤ was.length) (h1 : was.length ≤ 1000000) (h2 : s.length ≤ 1000000)
    (e1 : a0.tmps.getD 1 undef = .string ⟨was.toArray⟩) (e2 : a0.tmps.getD 2 undef = .pointer (some ⟨g, 0, none⟩)) (hg : g < w0.heap.size) (c0 : w0.cell? ⟨g, 0, none⟩ = some (.int .i64 (k : Int))) (c1 : w0.cell? ⟨g, 1, none⟩ = some (.string ⟨s.toArray⟩))
    (hQ : ∀ (a : Act) (w : World), a.defers = a0.defers → a.tmps.getD 4 undef = .string ⟨(progL was k s).toArray⟩ → Below w0.heap.size w0 w → Q .normal a w) :
    (Code.region 1 ppOps true).wp Tryz.prog Q a0 w0 := by
  have hdl : (was.drop k).length ≤ 1000000000 := by rw [List.length_drop]; omega
  refine wp_region_flow mixed (by rw [hsz]; kernel_rfl) ?_
  rw [show ppOps.size = 13 by kernel_rfl]
  refine ⟨isVal (.string ⟨was.toArray⟩), step_move (.tmp 1) (by kernel_rfl) (wanted_none (by kernel_rfl)) (stable_val _) (knows_old 1 (.string ⟨was.toArray⟩) (by kernel_rfl) e1), ?_⟩
  refine ⟨isVal (.pointer (some ⟨g, 0, none⟩)), step_field 77 (.tmp 2) 0 ⟨g, 0, none⟩ ⟨g, 0, none⟩ (by kernel_rfl) (wanted_none (by kernel_rfl)) (knows_old 2 (.pointer (some ⟨g, 0, none⟩)) (by kernel_rfl) e2) (field_pr g 0 (by omega)), ?_⟩
  refine ⟨isVal (.int .i64 (k : Int)), step_read 3 (.tmp 6) ⟨g, 0, none⟩ (.int .i64 (k : Int)) (by kernel_rfl) (wanted_none (by kernel_rfl)) (knows_new (V := isVal (.pointer (some ⟨g, 0, none⟩))) 6 1 (by kernel_rfl) (by kernel_rfl) (by kernel_rfl)) c0 hg agg_int, ?_⟩
  refine ⟨isVal (.string ⟨(was.take k).toArray⟩), step_head 9 (.tmp 5) (.tmp 7) was k (by kernel_rfl) (wanted_none (by kernel_rfl)) (knows_new (V := isVal (.string ⟨was.toArray⟩)) 5 0 (by kernel_rfl) (by kernel_rfl) (by kernel_rfl)) (knows_new (V := isVal (.int .i64 (k : Int))) 7 2 (by kernel_rfl) (by kernel_rfl) (by kernel_rfl)) (head_str was k hk), ?_⟩
  refine ⟨isVal (.string ⟨was.toArray⟩), step_move (.tmp 1) (by kernel_rfl) (wanted_none (by kernel_rfl)) (stable_val _) (knows_old 1 (.string ⟨was.toArray⟩) (by kernel_rfl) e1), ?_⟩
  refine ⟨isVal (.pointer (some ⟨g, 0, none⟩)), step_field 77 (.tmp 2) 0 ⟨g, 0, none⟩ ⟨g, 0, none⟩ (by kernel_rfl) (wanted_none (by kernel_rfl)) (knows_old 2 (.pointer (some ⟨g, 0, none⟩)) (by kernel_rfl) e2) (field_pr g 0 (by omega)), ?_⟩
  refine ⟨isVal (.int .i64 (k : Int)), step_read 3 (.tmp 10) ⟨g, 0, none⟩ (.int .i64 (k : Int)) (by kernel_rfl) (wanted_none (by kernel_rfl)) (knows_new (V := isVal (.pointer (some ⟨g, 0, none⟩))) 10 5 (by kernel_rfl) (by kernel_rfl) (by kernel_rfl)) c0 hg agg_int, ?_⟩
  refine ⟨isVal (.string ⟨(was.drop k).toArray⟩), step_rest 9 (.tmp 9) (.tmp 11) was k (by kernel_rfl) (wanted_none (by kernel_rfl)) (knows_new (V := isVal (.string ⟨was.toArray⟩)) 9 4 (by kernel_rfl) (by kernel_rfl) (by kernel_rfl)) (knows_new (V := isVal (.int .i64 (k : Int))) 11 6 (by kernel_rfl) (by kernel_rfl) (by kernel_rfl)) (rest_str was k hk), ?_⟩
  refine ⟨isVal (.pointer (some ⟨g, 1, none⟩)), step_field 77 (.tmp 2) 1 ⟨g, 0, none⟩ ⟨g, 1, none⟩ (by kernel_rfl) (wanted_none (by kernel_rfl)) (knows_old 2 (.pointer (some ⟨g, 0, none⟩)) (by kernel_rfl) e2) (field_pr g 1 (by omega)), ?_⟩
  refine ⟨isVal (.string ⟨s.toArray⟩), step_read 9 (.tmp 13) ⟨g, 1, none⟩ (.string ⟨s.toArray⟩) (by kernel_rfl) (wanted_none (by kernel_rfl)) (knows_new (V := isVal (.pointer (some ⟨g, 1, none⟩))) 13 8 (by kernel_rfl) (by kernel_rfl) (by kernel_rfl)) c1 hg agg_str, ?_⟩
  refine ⟨isVal (.string ⟨(pairL (· &&& ·) (was.drop k) s).toArray⟩), step_call 95 #[.tmp 12, .tmp 14] #[9, 9] #[.string ⟨(was.drop k).toArray⟩, .string ⟨s.toArray⟩] (by kernel_rfl) (wanted_none (by kernel_rfl)) (stable_val _) (args2 (.tmp 12) (.tmp 14) (.string ⟨(was.drop k).toArray⟩) (.string ⟨s.toArray⟩) (knows_new (V := isVal (.string ⟨(was.drop k).toArray⟩)) 12 7 (by kernel_rfl) (by kernel_rfl) (by kernel_rfl)) (knows_new (V := isVal (.string ⟨s.toArray⟩)) 14 9 (by kernel_rfl) (by kernel_rfl) (by kernel_rfl))) (enters_of Tryz.func95 (by kernel_rfl) rfl) (by intro w hb; exact call_and (was.drop k) s hdl (by omega) w), ?_⟩
  refine ⟨isVal (.string ⟨(was.take k ++ pairL (· &&& ·) (was.drop k) s).toArray⟩), step_bin .add 9 9 (.tmp 8) (.tmp 15) (.string ⟨(was.take k).toArray⟩) (.string ⟨(pairL (· &&& ·) (was.drop k) s).toArray⟩) (.string ⟨(was.take k ++ pairL (· &&& ·) (was.drop k) s).toArray⟩) (by kernel_rfl) (wanted_none (by kernel_rfl)) (knows_new (V := isVal (.string ⟨(was.take k).toArray⟩)) 8 3 (by kernel_rfl) (by kernel_rfl) (by kernel_rfl)) (knows_new (V := isVal (.string ⟨(pairL (· &&& ·) (was.drop k) s).toArray⟩)) 15 10 (by kernel_rfl) (by kernel_rfl) (by kernel_rfl)) (fun _ => rfl) (fun W => run_string_add_lists W (was.take k) (pairL (· &&& ·) (was.drop k) s) (by rw [List.length_take]; omega) (by rw [length_pairL, List.length_drop]; omega)), ?_⟩
  refine ⟨isVal (.string ⟨(was.take k ++ pairL (· &&& ·) (was.drop k) s).toArray⟩), step_assign (.tmp 16) (by kernel_rfl) (wanted_none (by kernel_rfl)) (stable_val _) (knows_new (V := isVal (.string ⟨(was.take k ++ pairL (· &&& ·) (was.drop k) s).toArray⟩)) 16 11 (by kernel_rfl) (by kernel_rfl) (by kernel_rfl)), ?_⟩
  intro a w hkp hb hd
  exact hQ a w hkp.1 (fdone_of (hd 12 (by rw [show ppOps.size = 13 by kernel_rfl]; decide)) (t := 4) (V := isVal (.string ⟨(was.take k ++ pairL (· &&& ·) (was.drop k) s).toArray⟩)) (by kernel_rfl) (by kernel_rfl)) hb
set_option maxHeartbeats 400000 in
theorem pPage_any (k : Nat) (s was : List UInt8) (w : World) (hk : k ≤ was.length) (h1 : was.length ≤ 1000000) (h2 : s.length ≤ 1000000) :
    Calls Tryz.prog 170 #[.agg #[.int .i64 (k : Int), .string ⟨s.toArray⟩], .string ⟨was.toArray⟩] w fun e w' => e = .returned (.string ⟨(progL was k s).toArray⟩) ∧ Below w.heap.size w w' := by
  go_enter Tryz.func170, Tryz.ntmps170
  go_wp2_with fail
  refine pPage_region _ _ _ rfl was s k w.heap.size hk h1 h2 rfl rfl (by simp) (by rw [World.cell?_alloc_new]; rfl) (by rw [World.cell?_alloc_new]; rfl) ?_
  intro a w5 hd h4 hb5
  have hB := ((Below.refl w.heap.size w).alloc (Nat.le_refl _) _).trans (hb5.mono (by simp))
  go_wp2
  refine bodyPost_ret (results_tmp rfl a.tmps Tryz.prog w5) hd ⟨?_, hB⟩
  rw [h4]
end Go.Proofs.YtipiioggdalkoaaGreatDoor
end
section
namespace Go.Proofs.YtipiioggdalkoaaGreatDoor
open Go.RowKit
set_option linter.unusedVariables false
set_option linter.unusedSimpArgs false

/-- A row of one's own, in a block between two numbers. -/
def isBtw (lo hi : Nat) (e : TypeId) (cs : List Value) (v : Value) (w : World) : Prop := (v = .slice none 0 0 ∧ cs = []) ∨
  ∃ g cap cur, v = .slice (some ⟨g, 0, none⟩) cs.length cap ∧ lo ≤ g ∧ g < hi ∧ w.heap[g]? = some (.cells cur e (0, 0)) ∧ cs.length ≤ cap ∧ cur.size = cap ∧ cur.toList.take cs.length = cs
theorem isBtw_own {w : World} {B : Nat} {e : TypeId} {v : Value} {cs : List Value} (h : isOwn B e cs v w) : isBtw B w.heap.size e cs v w := by
  obtain ⟨hl, ⟨rfl, h0⟩ | ⟨g, cap, cur, rfl, hB, hg, hn, _, hs, ht⟩⟩ := h
  · exact .inl ⟨rfl, List.eq_nil_of_length_eq_zero h0⟩
  · rw [Nat.mul_one] at hs ht
    exact .inr ⟨g, cap, cur, rfl, hB, (Array.getElem?_eq_some_iff.1 hg).1, hg, hn, hs, ht⟩
theorem isBtw.grow {lo hi : Nat} {e : TypeId} {cs : List Value} {v : Value} {w w' : World} (h : isBtw lo hi e cs v w) (hb : Below w.heap.size w w') : isBtw lo hi e cs v w' := by
  rcases h with h | ⟨g, cap, cur, hv, h1, h2, hg, rest⟩
  · exact .inl h
  · exact .inr ⟨g, cap, cur, hv, h1, h2, (hb.block g (Array.getElem?_eq_some_iff.1 hg).1).trans hg, rest⟩
theorem isBtw.out {lo hi : Nat} {e : TypeId} {cs : List Value} {v : Value} {w : World} (h : isBtw lo hi e cs v w) {p : Addr} (hp : p.block < lo ∨ hi ≤ p.block) (x : Value) : isBtw lo hi e cs v (w.setCell p x) := by
  rcases h with h | ⟨g, cap, cur, hv, h1, h2, hg, rest⟩
  · exact .inl h
  · exact .inr ⟨g, cap, cur, hv, h1, h2, (Below.heap_setCell w p x g (by omega)).trans hg, rest⟩
theorem isBtw.other {lo hi : Nat} {e e' : TypeId} {cs cs' : List Value} {v v' : Value} {w : World} (h : isBtw lo hi e cs v w) {g cap n : Nat} {cur : Array Value} (hg' : w.heap[g]? = some (.cells cur e' (0, 0))) (hne : e ≠ e') (k : Nat) (x : Value) : isBtw lo hi e cs v (w.setCell ⟨g, k, none⟩ x) := by
  rcases h with h | ⟨g2, cap2, cur2, hv, h1, h2, hg, rest⟩
  · exact .inl h
  · refine .inr ⟨g2, cap2, cur2, hv, h1, h2, (Below.heap_setCell w ⟨g, k, none⟩ x g2 ?_).trans hg, rest⟩
    rintro rfl
    rw [hg'] at hg
    injection hg with hg
    injection hg with _ he _
    exact hne he.symm
theorem isBtw.some_ {lo hi : Nat} {e : TypeId} {cs : List Value} {v : Value} {w : World} (h : isBtw lo hi e cs v w) (h0 : 0 < cs.length) :
    ∃ g cap cur, v = .slice (some ⟨g, 0, none⟩) cs.length cap ∧ lo ≤ g ∧ g < hi ∧ w.heap[g]? = some (.cells cur e (0, 0)) ∧ cs.length ≤ cap ∧ cur.size = cap ∧ cur.toList.take cs.length = cs := by
  rcases h with ⟨_, rfl⟩ | h
  · simp at h0
  · exact h
theorem isBtw.cells {lo hi : Nat} {e : TypeId} {cs : List Value} {v : Value} {w : World} (h : isBtw lo hi e cs v w) : isCells cs v w := by
  rcases h with h | ⟨g, cap, cur, rfl, h1, h2, hg, hn, hs, ht⟩
  · exact .inl h
  · refine .inr (.inr ⟨g, 0, cap, rfl, (Array.getElem?_eq_some_iff.1 hg).1, fun j x hx => ?_⟩)
    have hj := (List.getElem?_eq_some_iff.1 hx).1
    rw [← ht, List.getElem?_take, if_pos hj] at hx
    simp only [World.cell?, hg]
    simpa using hx
theorem isBtw.one {lo hi : Nat} {e : TypeId} {cs : List Value} {v : Value} {w : World} (h : isBtw lo hi e cs v w) : v.oneCell' = true := by
  rcases h with ⟨rfl, _⟩ | ⟨g, cap, cur, rfl, _⟩ <;> rfl
/-- One of its cells is written. -/
theorem isBtw.put {lo hi : Nat} {e : TypeId} {cs : List Value} {g n cap : Nat} {w : World} (h : isBtw lo hi e cs (.slice (some ⟨g, 0, none⟩) n cap) w) (k : Nat) (hk : k < cs.length) (x : Value) : isBtw lo hi e (cs.set k x) (.slice (some ⟨g, 0, none⟩) n cap) (w.setCell ⟨g, k, none⟩ x) := by
  rcases h with ⟨h, _⟩ | ⟨g2, cap2, cur, hv, h1, h2, hg, hn, hs, ht⟩
  · cases h
  · injection hv with e1 e2 e3
    injection e1 with e1
    injection e1 with e1 _ _
    subst e1 e2 e3
    refine .inr ⟨g, cap, cur.setIfInBounds k x, by rw [List.length_set], h1, h2, ?_, by rw [List.length_set]; exact hn, by simpa using hs, ?_⟩
    · exact heap_setCell_same w g k cur e x hg
    · rw [List.length_set, Array.toList_setIfInBounds, List.take_set, ht]
theorem isBtw.cell {lo hi : Nat} {e : TypeId} {cs : List Value} {g n cap : Nat} {w : World} (h : isBtw lo hi e cs (.slice (some ⟨g, 0, none⟩) n cap) w) (k : Nat) (x : Value) (hx : cs[k]? = some x) : w.cell? ⟨g, k, none⟩ = some x ∧ w.frozen? ⟨g, k, none⟩ = false ∧ lo ≤ g ∧ g < hi ∧ ∃ cur, w.heap[g]? = some (.cells cur e (0, 0)) := by
  rcases h with ⟨h, _⟩ | ⟨g2, cap2, cur, hv, h1, h2, hg, hn, hs, ht⟩
  · cases h
  · injection hv with e1 e2 e3
    injection e1 with e1
    injection e1 with e1 _ _
    subst e1 e2 e3
    have hj := (List.getElem?_eq_some_iff.1 hx).1
    rw [← ht, List.getElem?_take, if_pos hj] at hx
    refine ⟨?_, ?_, h1, h2, cur, hg⟩
    · simp only [World.cell?, hg]
      simpa using hx
    · simp [World.frozen?, hg]

theorem isBtw.weak {lo hi lo' hi' : Nat} {e : TypeId} {cs : List Value} {v : Value} {w : World} (h : isBtw lo hi e cs v w) (h1 : lo' ≤ lo) (h2 : hi ≤ hi') : isBtw lo' hi' e cs v w := by
  rcases h with h | ⟨g, cap, cur, hv, h3, h4, rest⟩
  · exact .inl h
  · exact .inr ⟨g, cap, cur, hv, by omega, by omega, rest⟩
theorem isBtw.out5 {lo hi : Nat} {e : TypeId} {cs : List Value} {v : Value} {w : World} (h : isBtw lo hi e cs v w) {g : Nat} (hg : g < lo ∨ hi ≤ g) (v0 v1 v2 v3 v4 : Value) : isBtw lo hi e cs v (set5 w g v0 v1 v2 v3 v4) := by
  unfold set5
  exact ((((h.out (p := ⟨g, 0, none⟩) hg _).out (p := ⟨g, 1, none⟩) hg _).out (p := ⟨g, 2, none⟩) hg _).out (p := ⟨g, 3, none⟩) hg _).out (p := ⟨g, 4, none⟩) hg _
/-- A device whose rows are new: in blocks from B on. -/
def isFlN (B : Nat) (F : Fl) (v : Value) (w : World) : Prop := ∃ vp vw, v = .agg #[vp, vw, .int .i64 F.fuse, strC F.torn, .bool F.dead] ∧ isBtw B w.heap.size 9 (F.pages.map strC) vp w ∧ isBtw B w.heap.size 3 (F.wear.map intC) vw w
theorem isFlN.fl {B : Nat} {F : Fl} {v : Value} {w : World} (h : isFlN B F v w) : isFl F v w := by
  obtain ⟨vp, vw, rfl, hp, hq⟩ := h
  exact ⟨vp, vw, rfl, hp.cells, hq.cells⟩
theorem isFlN.low {B B' : Nat} {F : Fl} {v : Value} {w : World} (h : isFlN B F v w) (hB : B' ≤ B) : isFlN B' F v w := by
  obtain ⟨vp, vw, rfl, hp, hq⟩ := h
  exact ⟨vp, vw, rfl, hp.weak hB (Nat.le_refl _), hq.weak hB (Nat.le_refl _)⟩
/-- The device as it came (F), and as it is told (G). -/
structure TI (w0 W : World) (lo hi g3 g6 g8 : Nat) (F G : Fl) (vp vw vp' vw' : Value) : Prop where
  below : Below w0.heap.size w0 W
  o3 : w0.heap.size ≤ g3 ∧ g3 < lo
  o6 : w0.heap.size ≤ g6 ∧ g6 < lo
  o36 : g3 ≠ g6
  o8 : w0.heap.size ≤ lo ∧ lo ≤ hi ∧ hi ≤ g8
  c3 : Cells5 W g3 vp vw (.int .i64 F.fuse) (strC F.torn) (.bool F.dead)
  c6 : ∃ o0 o1 o2 o3 o4, Cells5 W g6 o0 o1 o2 o3 o4
  f6 : Free5 W g6
  c8 : Cells5 W g8 vp' vw' (.int .i64 G.fuse) (strC G.torn) (.bool G.dead)
  f8 : Free5 W g8
  p : isCells (F.pages.map strC) vp w0
  q : isCells (F.wear.map intC) vw w0
  p' : isBtw lo hi 9 (G.pages.map strC) vp' W
  q' : isBtw lo hi 3 (G.wear.map intC) vw' W

section
variable {w0 W : World} {lo hi g3 g6 g8 g n cap : Nat} {F G : Fl} {vp vw vp' vw' : Value}
theorem TI.grow (h : TI w0 W lo hi g3 g6 g8 F G vp vw vp' vw') {W' : World} (hb : Below W.heap.size W W') : TI w0 W' lo hi g3 g6 g8 F G vp vw vp' vw' where
  below := h.below.trans (hb.mono h.below.size)
  o3 := h.o3
  o6 := h.o6
  o36 := h.o36
  o8 := h.o8
  c3 := h.c3.keep hb h.c3.1
  c6 := by obtain ⟨o0, o1, o2, o3, o4, hc⟩ := h.c6; exact ⟨o0, o1, o2, o3, o4, hc.keep hb hc.1⟩
  f6 := by obtain ⟨o0, o1, o2, o3, o4, hc⟩ := h.c6; exact h.f6.keep hb hc.1
  c8 := h.c8.keep hb h.c8.1
  f8 := h.f8.keep hb h.c8.1
  p := h.p
  q := h.q
  p' := h.p'.grow hb
  q' := h.q'.grow hb
theorem TI.fl (h : TI w0 W lo hi g3 g6 g8 F G vp vw vp' vw') : isFl F (.agg #[vp, vw, .int .i64 F.fuse, strC F.torn, .bool F.dead]) W := ⟨vp, vw, rfl, stable_cells _ _ _ _ h.p h.below, stable_cells _ _ _ _ h.q h.below⟩
theorem TI.fl' (h : TI w0 W lo hi g3 g6 g8 F G vp vw vp' vw') : isFl G (.agg #[vp', vw', .int .i64 G.fuse, strC G.torn, .bool G.dead]) W := ⟨vp', vw', rfl, h.p'.cells, h.q'.cells⟩
theorem TI.page (h : TI w0 W lo hi g3 g6 g8 F G vp vw (.slice (some ⟨g, 0, none⟩) n cap) vw') (k : Nat) (hk : k < G.pages.length) (x : List UInt8) :
    TI w0 (W.setCell ⟨g, k, none⟩ (strC x)) lo hi g3 g6 g8 F { G with pages := G.pages.set k x } vp vw (.slice (some ⟨g, 0, none⟩) n cap) vw' := by
  obtain ⟨hc, hf, h1, h2, cur, hg⟩ := h.p'.cell k (strC G.pages[k]) (get_map strC _ _ hk)
  have o3 := h.o3
  have o6 := h.o6
  have o8 := h.o8
  exact {
    below := h.below.setCell (p := ⟨g, k, none⟩) (by show _ ≤ g; omega) _
    o3 := o3
    o6 := o6
    o36 := h.o36
    o8 := o8
    c3 := h.c3.apart _ (by omega)
    c6 := by obtain ⟨o0, o1, o2, o3', o4, hc⟩ := h.c6; exact ⟨o0, o1, o2, o3', o4, hc.apart _ (by omega)⟩
    f6 := h.f6.set _ _
    c8 := h.c8.apart _ (by omega)
    f8 := h.f8.set _ _
    p := h.p
    q := h.q
    p' := by
      have := h.p'.put k (by simpa using hk) (strC x)
      rwa [← List.map_set] at this
    q' := h.q'.other (cs' := []) (v' := .nilIface) (cap := 0) (n := 0) hg (by decide) k _ }
theorem TI.wear (h : TI w0 W lo hi g3 g6 g8 F G vp vw vp' (.slice (some ⟨g, 0, none⟩) n cap)) (k : Nat) (hk : k < G.wear.length) (x : Int) :
    TI w0 (W.setCell ⟨g, k, none⟩ (intC x)) lo hi g3 g6 g8 F { G with wear := G.wear.set k x } vp vw vp' (.slice (some ⟨g, 0, none⟩) n cap) := by
  obtain ⟨hc, hf, h1, h2, cur, hg⟩ := h.q'.cell k (intC G.wear[k]) (get_map intC _ _ hk)
  have o3 := h.o3
  have o6 := h.o6
  have o8 := h.o8
  exact {
    below := h.below.setCell (p := ⟨g, k, none⟩) (by show _ ≤ g; omega) _
    o3 := o3
    o6 := o6
    o36 := h.o36
    o8 := o8
    c3 := h.c3.apart _ (by omega)
    c6 := by obtain ⟨o0, o1, o2, o3', o4, hc⟩ := h.c6; exact ⟨o0, o1, o2, o3', o4, hc.apart _ (by omega)⟩
    f6 := h.f6.set _ _
    c8 := h.c8.apart _ (by omega)
    f8 := h.f8.set _ _
    p := h.p
    q := h.q
    p' := h.p'.other (cs' := []) (v' := .nilIface) (cap := 0) (n := 0) hg (by decide) k _
    q' := by
      have := h.q'.put k (by simpa using hk) (intC x)
      rwa [← List.map_set] at this }
theorem TI.die (h : TI w0 W lo hi g3 g6 g8 F G vp vw vp' vw') (b : Bool) : TI w0 (W.setCell ⟨g8, 4, none⟩ (.bool b)) lo hi g3 g6 g8 F { G with dead := b } vp vw vp' vw' := by
  have o3 := h.o3
  have o6 := h.o6
  have o8 := h.o8
  exact {
    below := h.below.setCell (p := ⟨g8, 4, none⟩) (by show _ ≤ g8; omega) _
    o3 := o3
    o6 := o6
    o36 := h.o36
    o8 := o8
    c3 := h.c3.apart _ (by omega)
    c6 := by obtain ⟨o0, o1, o2, o3', o4, hc⟩ := h.c6; exact ⟨o0, o1, o2, o3', o4, hc.apart _ (by omega)⟩
    f6 := h.f6.set _ _
    c8 := h.c8.set4 _
    f8 := h.f8.set _ _
    p := h.p
    q := h.q
    p' := h.p'.out (p := ⟨g8, 4, none⟩) (.inr (by show _ ≤ g8; omega)) _
    q' := h.q'.out (p := ⟨g8, 4, none⟩) (.inr (by show _ ≤ g8; omega)) _ }
theorem TI.burn (h : TI w0 W lo hi g3 g6 g8 F G vp vw vp' vw') (n : Int) : TI w0 (W.setCell ⟨g8, 2, none⟩ (.int .i64 n)) lo hi g3 g6 g8 F { G with fuse := n } vp vw vp' vw' := by
  have o3 := h.o3
  have o6 := h.o6
  have o8 := h.o8
  exact {
    below := h.below.setCell (p := ⟨g8, 2, none⟩) (by show _ ≤ g8; omega) _
    o3 := o3
    o6 := o6
    o36 := h.o36
    o8 := o8
    c3 := h.c3.apart _ (by omega)
    c6 := by obtain ⟨o0, o1, o2, o3', o4, hc⟩ := h.c6; exact ⟨o0, o1, o2, o3', o4, hc.apart _ (by omega)⟩
    f6 := h.f6.set _ _
    c8 := h.c8.set2 _
    f8 := h.f8.set _ _
    p := h.p
    q := h.q
    p' := h.p'.out (p := ⟨g8, 2, none⟩) (.inr (by show _ ≤ g8; omega)) _
    q' := h.q'.out (p := ⟨g8, 2, none⟩) (.inr (by show _ ≤ g8; omega)) _ }
end
end Go.Proofs.YtipiioggdalkoaaGreatDoor
end
section
namespace Go.Proofs.YtipiioggdalkoaaGreatDoor
open Go.RowKit
set_option linter.unusedVariables false
set_option linter.unusedSimpArgs false

structure Wrote (gp k : Nat) (x : Value) (w w' : World) : Prop where
  os : w'.os = w.os
  tape : w'.tape = w.tape
  output : w'.output = w.output
  size : w.heap.size ≤ w'.heap.size
  block : ∀ b, b < w.heap.size → b ≠ gp → w'.heap[b]? = w.heap[b]?
  row : ∀ cur e, w.heap[gp]? = some (.cells cur e (0, 0)) → w'.heap[gp]? = some (.cells cur e (0, 0)) ∨ w'.heap[gp]? = some (.cells (cur.setIfInBounds k x) e (0, 0))
theorem set_twice (cur : Array Value) (k : Nat) (x : Value) : (cur.setIfInBounds k x).setIfInBounds k x = cur.setIfInBounds k x := by
  apply Array.ext
  · simp
  · intro i h1 h2
    simp [Array.getElem_setIfInBounds]
theorem wrote_pre (gp k : Nat) (x : Value) : Pre (Wrote gp k x) where
  refl w := ⟨rfl, rfl, rfl, Nat.le_refl _, fun _ _ _ => rfl, fun _ _ h => .inl h⟩
  trans a b c h1 h2 := ⟨h2.os.trans h1.os, h2.tape.trans h1.tape, h2.output.trans h1.output, Nat.le_trans h1.size h2.size, fun i hi hne => (h2.block i (Nat.lt_of_lt_of_le hi h1.size) hne).trans (h1.block i hi hne), fun cur e he => by
    rcases h1.row cur e he with h | h
    · exact h2.row cur e h
    · rcases h2.row _ e h with h' | h'
      · exact .inr h'
      · rw [set_twice] at h'; exact .inr h'⟩
  grow w w' h := ⟨h.os, h.tape, h.output, h.size, fun b hb _ => h.block b hb, fun cur e he => .inl ((h.block gp (Array.getElem?_eq_some_iff.1 he).1).trans he)⟩
  drew w := ⟨rfl, rfl, rfl, Nat.le_refl _, fun _ _ _ => rfl, fun _ _ h => .inl h⟩
theorem Wrote.cell {gp k : Nat} {x : Value} {w w' : World} (h : Wrote gp k x w w') {p : Addr} {v : Value} (hc : w.cell? p = some v) (hlt : p.block < w.heap.size) (hne : p.block ≠ gp) : w'.cell? p = some v := by
  rw [← hc]
  simp only [World.cell?, h.block p.block hlt hne]
theorem Wrote.set {gp k : Nat} {x : Value} {w : World} {cur : Array Value} {e : TypeId} (hg : w.heap[gp]? = some (.cells cur e (0, 0))) : Wrote gp k x w (w.setCell ⟨gp, k, none⟩ x) where
  os := rfl
  tape := rfl
  output := rfl
  size := by simp
  block b _ hne := Below.heap_setCell w ⟨gp, k, none⟩ x b hne
  row cur' e' h' := by
    rw [hg] at h'
    injection h' with h'
    injection h' with h1 h2 _
    subst h1 h2
    exact .inr (heap_setCell_same w gp k cur e x hg)
theorem stabR_val (R : World → World → Prop) (v : Value) : StableR R (isVal v) := fun _ _ _ h _ => h
def rowIs (gp : Nat) (e : TypeId) (cur : Array Value) : VP := fun _ w => w.heap[gp]? = some (.cells cur e (0, 0))
theorem stabR_row (gp k : Nat) (x : Value) (e : TypeId) (cur : Array Value) : StableR (Wrote gp k x) (rowIs gp e (cur.setIfInBounds k x)) := by
  intro v w w' h hr
  rcases hr.row _ e h with h' | h'
  · exact h'
  · rw [set_twice] at h'; exact h'
section
variable {R : World → World → Prop} {P : Program} {ops : Array Oper} {base : World} {a0 : Act} {Q : Exit → Act → World → Prop} {k0 : Nat} {kn : Nat → VP} {i : Nat} {V : VP}
theorem RStep.store (t : TypeId) (x y : Operand) (p : Addr) (v : Value) (hop : (ops[i]?).map (fun o => (o.op, o.guard, o.dst)) = some (.store t x y, none, none)) (hx : Knows ops a0 kn i x (isVal (.pointer (some p)))) (hy : Knows ops a0 kn i y (isVal v))
    (hs : (P.info? t).map (·.size) = some 1) (hv : v.cells = #[v]) (hv1 : v.oneCell' = true) (hst : StableR R V) (h : ∀ w, R base w → (∃ old, w.cell? p = some old) ∧ w.frozen? p = false ∧ V undef (w.setCell p v) ∧ R w (w.setCell p v)) : RStep R P ops base a0 Q k0 kn i V := by
  refine ⟨hst, fun o ho a w hk0 hb hd => ?_⟩
  have hk := hk0.f
  rw [ho] at hop
  simp only [Option.map_some, Option.some.injEq, Prod.mk.injEq] at hop
  obtain ⟨hop, hgd, hdst⟩ := hop
  have hfd : FDeps ops kn i a w := fun o' ho' e he hbd => rdone_f (hd o' ho' e he hbd)
  have e1 : a.eval x = .pointer (some p) := hx a w hk hfd
  have e2 : a.eval y = v := hy a w hk hfd
  obtain ⟨⟨old, hc⟩, hf, hV, hR⟩ := h w hb
  obtain ⟨ie, hie, hz⟩ := Option.map_eq_some_iff.1 hs
  have hsz : (sizeOf t).run P w = .ok 1 w := by simp [sizeOf, typeInfo, hie, hz]
  have hst : (storeCells p [v]).run P w = .ok () (w.setCell p v) := by
    unfold storeCells
    rw [Sem.run_bind, show p.add 0 = p by simp [Addr.add], run_store P w p v _ hv1, hc]
    simp [hf, storeCells]
  unfold wpOp
  simp only [ho]
  rw [show Region.wanted o (yielded ops a.tmps) = true by simp [Region.wanted, hgd]]
  refine .inl ?_
  unfold Oper.wp execOp
  rw [hop]
  simp only [e1, e2, Instr.storeAt, Instr.sureAddr, Sem.run_bind, Sem.run_pure, Result.andThen_ok, storeVar, hsz, hv]
  rw [if_neg (by simp), hst]
  simp only [Result.andThen_ok, Oper.upon]
  exact ⟨undef, rfl, fun _ => rfl, hV, hR⟩
end
theorem rdone_of {ops : Array Oper} {kn : Nat → VP} {a : Act} {w : World} {j : Nat} {t : Tmp} {V : VP} (h : RDone ops kn a w j) (hd : (ops[j]?).bind (·.dst) = some t) (hV : kn j = V) : V (a.tmps.getD t undef) w := fdone_of (rdone_f h) hd hV
theorem rdone_none {ops : Array Oper} {kn : Nat → VP} {a : Act} {w : World} {j : Nat} {V : VP} (h : RDone ops kn a w j) (hd : (ops[j]?).map (·.dst) = some none) (hV : kn j = V) : V undef w := by
  cases ho : ops[j]? with
  | none => rw [ho] at hd; simp at hd
  | some o =>
    rw [ho] at hd
    simp only [Option.map_some, Option.some.injEq] at hd
    have := h o ho
    rw [hd, hV] at this
    exact this
/-- Behind the store all is as it is where just that was done. -/
theorem Wrote.below {gp k : Nat} {x : Value} {w w' : World} {cur : Array Value} {e : TypeId} (h : Wrote gp k x w w') (hg : w.heap[gp]? = some (.cells cur e (0, 0))) (hg' : w'.heap[gp]? = some (.cells (cur.setIfInBounds k x) e (0, 0))) :
    Below (w.setCell ⟨gp, k, none⟩ x).heap.size (w.setCell ⟨gp, k, none⟩ x) w' where
  os := h.os
  tape := h.tape
  output := h.output
  size := by simpa using h.size
  block b hb := by
    by_cases e' : b = gp
    · subst e'
      rw [hg', heap_setCell_same w b k cur e x hg]
    · rw [Below.heap_setCell w ⟨gp, k, none⟩ x b e', h.block b (by simpa using hb) e']
end Go.Proofs.YtipiioggdalkoaaGreatDoor
end
section
namespace Go.Proofs.YtipiioggdalkoaaGreatDoor
open Go.RowKit
set_option linter.unusedVariables false
set_option linter.unusedSimpArgs false

section
variable {ops : Array Oper} {base : World} {a0 : Act} {Q : Exit → Act → World → Prop} {kn : Nat → VP} {i : Nat} {V : VP}
theorem step_load5 (x : Operand) (g : Nat) {v0 v1 v2 v3 v4 : Value} (hop : (ops[i]?).map (·.op) = some (.load 31 x)) (hw : Wanted ops a0 kn i) (hx : Knows ops a0 kn i x (isVal (.pointer (some ⟨g, 0, none⟩))))
    (hc : Cells5 base g v0 v1 v2 v3 v4) : FStep Tryz.prog ops base a0 Q kn i (isVal (.agg #[v0, v1, v2, v3, v4])) :=
  step_mk (stable_val _) hw fun o ho a w hk hb hd => by
    have e1 : a.eval x = .pointer (some ⟨g, 0, none⟩) := hx a w hk hd
    unfold Oper.wp execOp
    rw [op_of hop ho]
    simp only [e1, Instr.loadAt, Instr.sureAddr, Sem.run_bind, Sem.run_pure, Result.andThen_ok, load5 g w v0 v1 v2 v3 v4 (hc.keep hb hc.1), Oper.upon]
    exact ⟨_, rfl, rfl, Below.refl _ _⟩
end
theorem call_has (F : Fl) (page : Int) (z : Bool) (v : Value) (w : World) (hv : isFl F v w) (h1 : F.pages.length ≤ 140737488355328) (h2 : F.wear.length ≤ 140737488355328) (hz : hasB F page = z) :
    Calls Tryz.prog 80 #[v, .int .i64 page] w fun e w' => ∃ x, e = .returned x ∧ isVal (.bool z) x w' ∧ Below w.heap.size w w' :=
  (hasPage_any F page v w hv h1 h2).mono (by rintro e w' ⟨rfl, hb⟩; exact ⟨_, rfl, by rw [hz]; rfl, hb⟩)
theorem call_efits (n : Int) (w : World) : Calls Tryz.prog 166 #[.agg #[], .int .i64 n] w fun e w' => ∃ x, e = .returned x ∧ isVal (.bool true) x w' ∧ Below w.heap.size w w' :=
  (eFits_any n w).mono (by rintro e w' ⟨rfl, hb⟩; exact ⟨_, rfl, rfl, hb⟩)
theorem call_pfits (at_ : Int) (s : List UInt8) (n : Nat) (z : Bool) (w : World) (hs : s.length ≤ 1000000) (hn : n ≤ 1000000) (hz : (decide (0 ≤ at_) && decide (at_ ≤ (n : Int) - s.length)) = z) :
    Calls Tryz.prog 169 #[.agg #[.int .i64 at_, .string ⟨s.toArray⟩], .int .i64 (n : Int)] w fun e w' => ∃ x, e = .returned x ∧ isVal (.bool z) x w' ∧ Below w.heap.size w w' :=
  (pFits_any at_ s n w (by omega) (by omega) (by omega)).mono (by rintro e w' ⟨rfl, hb⟩; exact ⟨_, rfl, by rw [hz]; rfl, hb⟩)
theorem call_ewear (n : Int) (w : World) (h0 : 0 ≤ n) (h1 : n ≤ 2147483647) : Calls Tryz.prog 168 #[.agg #[], .int .i64 n] w fun e w' => ∃ x, e = .returned x ∧ isVal (.int .i64 (wornN n)) x w' ∧ Below w.heap.size w w' :=
  (eWear_any n w h0 h1).mono (by rintro e w' ⟨rfl, hb⟩; exact ⟨_, rfl, rfl, hb⟩)
theorem call_pwear (at_ : Int) (s : List UInt8) (n : Int) (w : World) : Calls Tryz.prog 171 #[.agg #[.int .i64 at_, .string ⟨s.toArray⟩], .int .i64 n] w fun e w' => ∃ x, e = .returned x ∧ isVal (.int .i64 n) x w' ∧ Below w.heap.size w w' :=
  (pWear_any (.bool true) n w at_ s).mono (by rintro e w' ⟨rfl, hb⟩; exact ⟨_, rfl, rfl, hb⟩)
theorem call_between (was would torn : List UInt8) (w : World) (h1 : was.length ≤ 1000000) (h2 : would.length ≤ 1000000) (h3 : torn.length ≤ 1000000) :
    Calls Tryz.prog 81 #[.string ⟨was.toArray⟩, .string ⟨would.toArray⟩, .string ⟨torn.toArray⟩] w fun e w' => ∃ x, e = .returned x ∧ isVal (.string ⟨(betweenL was would torn).toArray⟩) x w' ∧ Below w.heap.size w w' :=
  (between_any was would torn w h1 h2 h3).mono (by rintro e w' ⟨rfl, hb⟩; exact ⟨_, rfl, rfl, hb⟩)
noncomputable def takeOps2 : Array Oper := regionOf Tryz.f54 2
noncomputable def takeOps9 : Array Oper := regionOf Tryz.f54 9
noncomputable def takeOps11 : Array Oper := regionOf Tryz.f54 11

set_option maxRecDepth 100000 in
set_option maxHeartbeats 2000000 in
theorem take2_eno (Q : Exit → Act → World → Prop) (a0 : Act) (w0 : World) (hsz : a0.tmps.size = 84) (g3 : Nat) (F : Fl) (vp vw : Value) (page : Int)
    (e1 : a0.tmps.getD 1 undef = .int .i64 page) (e2 : a0.tmps.getD 2 undef = (.iface 64 (.agg #[]))) (e3 : a0.tmps.getD 3 undef = .pointer (some ⟨g3, 0, none⟩)) (hc3 : Cells5 w0 g3 vp vw (.int .i64 F.fuse) (strC F.torn) (.bool F.dead)) (hfl : isFl F (.agg #[vp, vw, .int .i64 F.fuse, strC F.torn, .bool F.dead]) w0)
    (h1 : F.pages.length ≤ 140737488355328) (h2 : F.wear.length ≤ 140737488355328) (hhas : hasB F page = false)
    (hQ : ∀ (a : Act) (w : World), a.defers = a0.defers → a.tmps.size = a0.tmps.size → (∀ t, (takeOps2.toList.all fun o => o.dst != some t) = true → a.tmps.getD t undef = a0.tmps.getD t undef) → a.tmps.getD 30 undef = .bool true → Below w0.heap.size w0 w → Q .normal a w) :
    (Code.region 2 takeOps2 true).wp Tryz.prog Q a0 w0 := by
  refine wp_region_flow mixed (by rw [hsz]; kernel_rfl) ?_
  rw [show takeOps2.size = 18 by kernel_rfl]
  refine ⟨isVal (.agg #[vp, vw, .int .i64 F.fuse, strC F.torn, .bool F.dead]), step_load5 (.tmp 3) g3 (by kernel_rfl) (wanted_none (by kernel_rfl)) (knows_old 3 (.pointer (some ⟨g3, 0, none⟩)) (by kernel_rfl) e3) hc3, ?_⟩
  refine ⟨isVal (.int .i64 page), step_move (.tmp 1) (by kernel_rfl) (wanted_none (by kernel_rfl)) (stable_val _) (knows_old 1 (.int .i64 page) (by kernel_rfl) e1), ?_⟩
  refine ⟨isVal (.bool false), step_call 80 #[.tmp 13, .tmp 14] #[31, 3] #[.agg #[vp, vw, .int .i64 F.fuse, strC F.torn, .bool F.dead], .int .i64 page] (by kernel_rfl) (wanted_none (by kernel_rfl)) (stable_val _) (args2 (.tmp 13) (.tmp 14) (.agg #[vp, vw, .int .i64 F.fuse, strC F.torn, .bool F.dead]) (.int .i64 page) (knows_new (V := isVal (.agg #[vp, vw, .int .i64 F.fuse, strC F.torn, .bool F.dead])) 13 0 (by kernel_rfl) (by kernel_rfl) (by kernel_rfl)) (knows_new (V := isVal (.int .i64 page)) 14 1 (by kernel_rfl) (by kernel_rfl) (by kernel_rfl))) (enters_of Tryz.func80 (by kernel_rfl) rfl) (by intro w hb; exact call_has F page false _ w (stable_fl _ _ _ _ hfl hb) h1 h2 hhas), ?_⟩
  refine ⟨isVal (.bool true), step_un .not 4 (.tmp 15) (.bool false) (.bool true) (by kernel_rfl) (wanted_none (by kernel_rfl)) (knows_new (V := isVal (.bool false)) 15 2 (by kernel_rfl) (by kernel_rfl) (by kernel_rfl)) (fun _ => rfl), ?_⟩
  refine ⟨isVal (.bool true), step_move (.tmp 16) (by kernel_rfl) (wanted_none (by kernel_rfl)) (stable_val _) (knows_new (V := isVal (.bool true)) 16 3 (by kernel_rfl) (by kernel_rfl) (by kernel_rfl)), ?_⟩
  refine ⟨_, step_skip 4 17 false true (by kernel_rfl) (by kernel_rfl) (by kernel_rfl) (by kernel_rfl) rfl, ?_⟩
  refine ⟨_, step_skip 4 17 false true (by kernel_rfl) (by kernel_rfl) (by kernel_rfl) (by kernel_rfl) rfl, ?_⟩
  refine ⟨_, step_skip 4 17 false true (by kernel_rfl) (by kernel_rfl) (by kernel_rfl) (by kernel_rfl) rfl, ?_⟩
  refine ⟨_, step_skip 4 17 false true (by kernel_rfl) (by kernel_rfl) (by kernel_rfl) (by kernel_rfl) rfl, ?_⟩
  refine ⟨_, step_skip 4 17 false true (by kernel_rfl) (by kernel_rfl) (by kernel_rfl) (by kernel_rfl) rfl, ?_⟩
  refine ⟨_, step_skip 4 17 false true (by kernel_rfl) (by kernel_rfl) (by kernel_rfl) (by kernel_rfl) rfl, ?_⟩
  refine ⟨_, step_skip 4 17 false true (by kernel_rfl) (by kernel_rfl) (by kernel_rfl) (by kernel_rfl) rfl, ?_⟩
  refine ⟨_, step_skip 4 17 false true (by kernel_rfl) (by kernel_rfl) (by kernel_rfl) (by kernel_rfl) rfl, ?_⟩
  refine ⟨_, step_skip 4 17 false true (by kernel_rfl) (by kernel_rfl) (by kernel_rfl) (by kernel_rfl) rfl, ?_⟩
  refine ⟨_, step_skip 4 17 false true (by kernel_rfl) (by kernel_rfl) (by kernel_rfl) (by kernel_rfl) rfl, ?_⟩
  refine ⟨_, step_skip 4 17 false true (by kernel_rfl) (by kernel_rfl) (by kernel_rfl) (by kernel_rfl) rfl, ?_⟩
  refine ⟨_, step_skip 4 17 false true (by kernel_rfl) (by kernel_rfl) (by kernel_rfl) (by kernel_rfl) rfl, ?_⟩
  refine ⟨isVal (.bool true), step_pick (.tmp 17) (.const (.bool true)) (.tmp 29) true (by kernel_rfl) (wanted_none (by kernel_rfl)) (stable_val _) (knows_new (V := isVal (.bool true)) 17 4 (by kernel_rfl) (by kernel_rfl) (by kernel_rfl)) (knows_const _), ?_⟩
  intro a w hkp hb hd
  exact hQ a w hkp.1 hkp.2.1 hkp.2.2 (fdone_of (hd 17 (by rw [show takeOps2.size = 18 by kernel_rfl]; decide)) (t := 30) (V := isVal (.bool true)) (by kernel_rfl) (by kernel_rfl)) hb

set_option maxRecDepth 100000 in
set_option maxHeartbeats 2000000 in
theorem take2_eyes (Q : Exit → Act → World → Prop) (a0 : Act) (w0 : World) (hsz : a0.tmps.size = 84) (g3 : Nat) (F : Fl) (vw : Value) (k b off n cap : Nat) (was : List UInt8) (hkn : k < n) (hcell : w0.cell? ⟨b, off + k, none⟩ = some (.string ⟨was.toArray⟩)) (hb0 : b < w0.heap.size) (hw1 : was.length ≤ 1000000)
    (e1 : a0.tmps.getD 1 undef = .int .i64 (k : Int)) (e2 : a0.tmps.getD 2 undef = (.iface 64 (.agg #[]))) (e3 : a0.tmps.getD 3 undef = .pointer (some ⟨g3, 0, none⟩)) (hc3 : Cells5 w0 g3 (.slice (some ⟨b, off, none⟩) n cap) vw (.int .i64 F.fuse) (strC F.torn) (.bool F.dead)) (hfl : isFl F (.agg #[(.slice (some ⟨b, off, none⟩) n cap), vw, .int .i64 F.fuse, strC F.torn, .bool F.dead]) w0)
    (h1 : F.pages.length ≤ 140737488355328) (h2 : F.wear.length ≤ 140737488355328) (hhas : hasB F (k : Int) = true)
    (hQ : ∀ (a : Act) (w : World), a.defers = a0.defers → a.tmps.size = a0.tmps.size → (∀ t, (takeOps2.toList.all fun o => o.dst != some t) = true → a.tmps.getD t undef = a0.tmps.getD t undef) → a.tmps.getD 30 undef = .bool false → Below w0.heap.size w0 w → Q .normal a w) :
    (Code.region 2 takeOps2 true).wp Tryz.prog Q a0 w0 := by
  refine wp_region_flow mixed (by rw [hsz]; kernel_rfl) ?_
  rw [show takeOps2.size = 18 by kernel_rfl]
  refine ⟨isVal (.agg #[(.slice (some ⟨b, off, none⟩) n cap), vw, .int .i64 F.fuse, strC F.torn, .bool F.dead]), step_load5 (.tmp 3) g3 (by kernel_rfl) (wanted_none (by kernel_rfl)) (knows_old 3 (.pointer (some ⟨g3, 0, none⟩)) (by kernel_rfl) e3) hc3, ?_⟩
  refine ⟨isVal (.int .i64 (k : Int)), step_move (.tmp 1) (by kernel_rfl) (wanted_none (by kernel_rfl)) (stable_val _) (knows_old 1 (.int .i64 (k : Int)) (by kernel_rfl) e1), ?_⟩
  refine ⟨isVal (.bool true), step_call 80 #[.tmp 13, .tmp 14] #[31, 3] #[.agg #[(.slice (some ⟨b, off, none⟩) n cap), vw, .int .i64 F.fuse, strC F.torn, .bool F.dead], .int .i64 (k : Int)] (by kernel_rfl) (wanted_none (by kernel_rfl)) (stable_val _) (args2 (.tmp 13) (.tmp 14) (.agg #[(.slice (some ⟨b, off, none⟩) n cap), vw, .int .i64 F.fuse, strC F.torn, .bool F.dead]) (.int .i64 (k : Int)) (knows_new (V := isVal (.agg #[(.slice (some ⟨b, off, none⟩) n cap), vw, .int .i64 F.fuse, strC F.torn, .bool F.dead])) 13 0 (by kernel_rfl) (by kernel_rfl) (by kernel_rfl)) (knows_new (V := isVal (.int .i64 (k : Int))) 14 1 (by kernel_rfl) (by kernel_rfl) (by kernel_rfl))) (enters_of Tryz.func80 (by kernel_rfl) rfl) (by intro w hb; exact call_has F (k : Int) true _ w (stable_fl _ _ _ _ hfl hb) h1 h2 hhas), ?_⟩
  refine ⟨isVal (.bool false), step_un .not 4 (.tmp 15) (.bool true) (.bool false) (by kernel_rfl) (wanted_none (by kernel_rfl)) (knows_new (V := isVal (.bool true)) 15 2 (by kernel_rfl) (by kernel_rfl) (by kernel_rfl)) (fun _ => rfl), ?_⟩
  refine ⟨isVal (.bool false), step_move (.tmp 16) (by kernel_rfl) (wanted_none (by kernel_rfl)) (stable_val _) (knows_new (V := isVal (.bool false)) 16 3 (by kernel_rfl) (by kernel_rfl) (by kernel_rfl)), ?_⟩
  refine ⟨isVal (.iface 64 (.agg #[])), step_move (.tmp 2) (by kernel_rfl) (wanted_some 4 17 false (by kernel_rfl) (by kernel_rfl) (by kernel_rfl) (by kernel_rfl)) (stable_val _) (knows_old 2 (.iface 64 (.agg #[])) (by kernel_rfl) e2), ?_⟩
  refine ⟨isVal (.pointer (some ⟨g3, 0, none⟩)), step_field 31 (.tmp 3) 0 ⟨g3, 0, none⟩ ⟨g3, 0, none⟩ (by kernel_rfl) (wanted_some 4 17 false (by kernel_rfl) (by kernel_rfl) (by kernel_rfl) (by kernel_rfl)) (knows_old 3 (.pointer (some ⟨g3, 0, none⟩)) (by kernel_rfl) e3) (field_fl g3 0 (by omega)), ?_⟩
  refine ⟨isVal (.slice (some ⟨b, off, none⟩) n cap), step_read 26 (.tmp 19) ⟨g3, 0, none⟩ (.slice (some ⟨b, off, none⟩) n cap) (by kernel_rfl) (wanted_some 4 17 false (by kernel_rfl) (by kernel_rfl) (by kernel_rfl) (by kernel_rfl)) (knows_new (V := isVal (.pointer (some ⟨g3, 0, none⟩))) 19 6 (by kernel_rfl) (by kernel_rfl) (by kernel_rfl)) hc3.2.1 hc3.1 agg_strs, ?_⟩
  refine ⟨isVal (.int .i64 (k : Int)), step_move (.tmp 1) (by kernel_rfl) (wanted_some 4 17 false (by kernel_rfl) (by kernel_rfl) (by kernel_rfl) (by kernel_rfl)) (stable_val _) (knows_old 1 (.int .i64 (k : Int)) (by kernel_rfl) e1), ?_⟩
  refine ⟨isVal (.pointer (some ⟨b, off + k, none⟩)), step_place 26 9 (.tmp 20) (.tmp 21) b off n cap k (by kernel_rfl) (wanted_some 4 17 false (by kernel_rfl) (by kernel_rfl) (by kernel_rfl) (by kernel_rfl)) (knows_new (V := isVal (.slice (some ⟨b, off, none⟩) n cap)) 20 7 (by kernel_rfl) (by kernel_rfl) (by kernel_rfl)) (knows_new (V := isVal (.int .i64 (k : Int))) 21 8 (by kernel_rfl) (by kernel_rfl) (by kernel_rfl)) Tryz.underlying26 (by kernel_rfl) hkn, ?_⟩
  refine ⟨isVal (.string ⟨was.toArray⟩), step_read 9 (.tmp 22) ⟨b, off + k, none⟩ (.string ⟨was.toArray⟩) (by kernel_rfl) (wanted_some 4 17 false (by kernel_rfl) (by kernel_rfl) (by kernel_rfl) (by kernel_rfl)) (knows_new (V := isVal (.pointer (some ⟨b, off + k, none⟩))) 22 9 (by kernel_rfl) (by kernel_rfl) (by kernel_rfl)) hcell hb0 agg_str, ?_⟩
  refine ⟨isVal (.int .i64 (was.length : Int)), step_len 9 (.tmp 23) (.string ⟨was.toArray⟩) (.int .i64 (was.length : Int)) (by kernel_rfl) (wanted_some 4 17 false (by kernel_rfl) (by kernel_rfl) (by kernel_rfl) (by kernel_rfl)) (knows_new (V := isVal (.string ⟨was.toArray⟩)) 23 10 (by kernel_rfl) (by kernel_rfl) (by kernel_rfl)) (len_str was), ?_⟩
  refine ⟨isVal (.func (.method "ouroboros/flash.fits") #[(.iface 64 (.agg #[]))] #[]), step_method "ouroboros/flash.fits" (.tmp 18) (.iface 64 (.agg #[])) (by kernel_rfl) (wanted_some 4 17 false (by kernel_rfl) (by kernel_rfl) (by kernel_rfl) (by kernel_rfl)) (knows_new (V := isVal (.iface 64 (.agg #[]))) 18 5 (by kernel_rfl) (by kernel_rfl) (by kernel_rfl)), ?_⟩
  refine ⟨isVal (.func (.method "ouroboros/flash.fits") #[(.iface 64 (.agg #[]))] #[]), step_nil "ouroboros/flash.fits" (.tmp 25) 64 (.agg #[]) (by kernel_rfl) (wanted_some 4 17 false (by kernel_rfl) (by kernel_rfl) (by kernel_rfl) (by kernel_rfl)) (knows_new (V := isVal (.func (.method "ouroboros/flash.fits") #[(.iface 64 (.agg #[]))] #[])) 25 12 (by kernel_rfl) (by kernel_rfl) (by kernel_rfl)) (fun w => by kernel_rfl), ?_⟩
  refine ⟨isVal (.iface 64 (.agg #[])), step_move (.tmp 18) (by kernel_rfl) (wanted_some 4 17 false (by kernel_rfl) (by kernel_rfl) (by kernel_rfl) (by kernel_rfl)) (stable_val _) (knows_new (V := isVal (.iface 64 (.agg #[]))) 18 5 (by kernel_rfl) (by kernel_rfl) (by kernel_rfl)), ?_⟩
  refine ⟨isVal (.bool true), step_invoke "ouroboros/flash.fits" (.tmp 27) (.iface 64 (.agg #[])) 166 #[.tmp 24] #[3] #[.int .i64 (was.length : Int)] #[.agg #[], .int .i64 (was.length : Int)] (by kernel_rfl) (wanted_some 4 17 false (by kernel_rfl) (by kernel_rfl) (by kernel_rfl) (by kernel_rfl)) (stable_val _) (args1 (.tmp 24) (.int .i64 (was.length : Int)) (knows_new (V := isVal (.int .i64 (was.length : Int))) 24 11 (by kernel_rfl) (by kernel_rfl) (by kernel_rfl))) (knows_new (V := isVal (.iface 64 (.agg #[]))) 27 14 (by kernel_rfl) (by kernel_rfl) (by kernel_rfl)) (fun w => by kernel_rfl) (by intro w hb; exact call_efits _ w), ?_⟩
  refine ⟨isVal (.bool false), step_un .not 4 (.tmp 28) (.bool true) (.bool false) (by kernel_rfl) (wanted_some 4 17 false (by kernel_rfl) (by kernel_rfl) (by kernel_rfl) (by kernel_rfl)) (knows_new (V := isVal (.bool true)) 28 15 (by kernel_rfl) (by kernel_rfl) (by kernel_rfl)) (fun _ => rfl), ?_⟩
  refine ⟨isVal (.bool false), step_pick (.tmp 17) (.const (.bool true)) (.tmp 29) false (by kernel_rfl) (wanted_none (by kernel_rfl)) (stable_val _) (knows_new (V := isVal (.bool false)) 17 4 (by kernel_rfl) (by kernel_rfl) (by kernel_rfl)) (knows_new (V := isVal (.bool false)) 29 16 (by kernel_rfl) (by kernel_rfl) (by kernel_rfl)), ?_⟩
  intro a w hkp hb hd
  exact hQ a w hkp.1 hkp.2.1 hkp.2.2 (fdone_of (hd 17 (by rw [show takeOps2.size = 18 by kernel_rfl]; decide)) (t := 30) (V := isVal (.bool false)) (by kernel_rfl) (by kernel_rfl)) hb

set_option maxRecDepth 100000 in
set_option maxHeartbeats 2000000 in
theorem take2_pno (Q : Exit → Act → World → Prop) (a0 : Act) (w0 : World) (hsz : a0.tmps.size = 84) (g3 : Nat) (F : Fl) (vp vw : Value) (at_ : Int) (s : List UInt8) (hs : s.length ≤ 1000000) (page : Int)
    (e1 : a0.tmps.getD 1 undef = .int .i64 page) (e2 : a0.tmps.getD 2 undef = (.iface 77 (.agg #[.int .i64 at_, .string ⟨s.toArray⟩]))) (e3 : a0.tmps.getD 3 undef = .pointer (some ⟨g3, 0, none⟩)) (hc3 : Cells5 w0 g3 vp vw (.int .i64 F.fuse) (strC F.torn) (.bool F.dead)) (hfl : isFl F (.agg #[vp, vw, .int .i64 F.fuse, strC F.torn, .bool F.dead]) w0)
    (h1 : F.pages.length ≤ 140737488355328) (h2 : F.wear.length ≤ 140737488355328) (hhas : hasB F page = false)
    (hQ : ∀ (a : Act) (w : World), a.defers = a0.defers → a.tmps.size = a0.tmps.size → (∀ t, (takeOps2.toList.all fun o => o.dst != some t) = true → a.tmps.getD t undef = a0.tmps.getD t undef) → a.tmps.getD 30 undef = .bool true → Below w0.heap.size w0 w → Q .normal a w) :
    (Code.region 2 takeOps2 true).wp Tryz.prog Q a0 w0 := by
  refine wp_region_flow mixed (by rw [hsz]; kernel_rfl) ?_
  rw [show takeOps2.size = 18 by kernel_rfl]
  refine ⟨isVal (.agg #[vp, vw, .int .i64 F.fuse, strC F.torn, .bool F.dead]), step_load5 (.tmp 3) g3 (by kernel_rfl) (wanted_none (by kernel_rfl)) (knows_old 3 (.pointer (some ⟨g3, 0, none⟩)) (by kernel_rfl) e3) hc3, ?_⟩
  refine ⟨isVal (.int .i64 page), step_move (.tmp 1) (by kernel_rfl) (wanted_none (by kernel_rfl)) (stable_val _) (knows_old 1 (.int .i64 page) (by kernel_rfl) e1), ?_⟩
  refine ⟨isVal (.bool false), step_call 80 #[.tmp 13, .tmp 14] #[31, 3] #[.agg #[vp, vw, .int .i64 F.fuse, strC F.torn, .bool F.dead], .int .i64 page] (by kernel_rfl) (wanted_none (by kernel_rfl)) (stable_val _) (args2 (.tmp 13) (.tmp 14) (.agg #[vp, vw, .int .i64 F.fuse, strC F.torn, .bool F.dead]) (.int .i64 page) (knows_new (V := isVal (.agg #[vp, vw, .int .i64 F.fuse, strC F.torn, .bool F.dead])) 13 0 (by kernel_rfl) (by kernel_rfl) (by kernel_rfl)) (knows_new (V := isVal (.int .i64 page)) 14 1 (by kernel_rfl) (by kernel_rfl) (by kernel_rfl))) (enters_of Tryz.func80 (by kernel_rfl) rfl) (by intro w hb; exact call_has F page false _ w (stable_fl _ _ _ _ hfl hb) h1 h2 hhas), ?_⟩
  refine ⟨isVal (.bool true), step_un .not 4 (.tmp 15) (.bool false) (.bool true) (by kernel_rfl) (wanted_none (by kernel_rfl)) (knows_new (V := isVal (.bool false)) 15 2 (by kernel_rfl) (by kernel_rfl) (by kernel_rfl)) (fun _ => rfl), ?_⟩
  refine ⟨isVal (.bool true), step_move (.tmp 16) (by kernel_rfl) (wanted_none (by kernel_rfl)) (stable_val _) (knows_new (V := isVal (.bool true)) 16 3 (by kernel_rfl) (by kernel_rfl) (by kernel_rfl)), ?_⟩
  refine ⟨_, step_skip 4 17 false true (by kernel_rfl) (by kernel_rfl) (by kernel_rfl) (by kernel_rfl) rfl, ?_⟩
  refine ⟨_, step_skip 4 17 false true (by kernel_rfl) (by kernel_rfl) (by kernel_rfl) (by kernel_rfl) rfl, ?_⟩
  refine ⟨_, step_skip 4 17 false true (by kernel_rfl) (by kernel_rfl) (by kernel_rfl) (by kernel_rfl) rfl, ?_⟩
  refine ⟨_, step_skip 4 17 false true (by kernel_rfl) (by kernel_rfl) (by kernel_rfl) (by kernel_rfl) rfl, ?_⟩
  refine ⟨_, step_skip 4 17 false true (by kernel_rfl) (by kernel_rfl) (by kernel_rfl) (by kernel_rfl) rfl, ?_⟩
  refine ⟨_, step_skip 4 17 false true (by kernel_rfl) (by kernel_rfl) (by kernel_rfl) (by kernel_rfl) rfl, ?_⟩
  refine ⟨_, step_skip 4 17 false true (by kernel_rfl) (by kernel_rfl) (by kernel_rfl) (by kernel_rfl) rfl, ?_⟩
  refine ⟨_, step_skip 4 17 false true (by kernel_rfl) (by kernel_rfl) (by kernel_rfl) (by kernel_rfl) rfl, ?_⟩
  refine ⟨_, step_skip 4 17 false true (by kernel_rfl) (by kernel_rfl) (by kernel_rfl) (by kernel_rfl) rfl, ?_⟩
  refine ⟨_, step_skip 4 17 false true (by kernel_rfl) (by kernel_rfl) (by kernel_rfl) (by kernel_rfl) rfl, ?_⟩
  refine ⟨_, step_skip 4 17 false true (by kernel_rfl) (by kernel_rfl) (by kernel_rfl) (by kernel_rfl) rfl, ?_⟩
  refine ⟨_, step_skip 4 17 false true (by kernel_rfl) (by kernel_rfl) (by kernel_rfl) (by kernel_rfl) rfl, ?_⟩
  refine ⟨isVal (.bool true), step_pick (.tmp 17) (.const (.bool true)) (.tmp 29) true (by kernel_rfl) (wanted_none (by kernel_rfl)) (stable_val _) (knows_new (V := isVal (.bool true)) 17 4 (by kernel_rfl) (by kernel_rfl) (by kernel_rfl)) (knows_const _), ?_⟩
  intro a w hkp hb hd
  exact hQ a w hkp.1 hkp.2.1 hkp.2.2 (fdone_of (hd 17 (by rw [show takeOps2.size = 18 by kernel_rfl]; decide)) (t := 30) (V := isVal (.bool true)) (by kernel_rfl) (by kernel_rfl)) hb

set_option maxRecDepth 100000 in
set_option maxHeartbeats 2000000 in
theorem take2_pyes (Q : Exit → Act → World → Prop) (a0 : Act) (w0 : World) (hsz : a0.tmps.size = 84) (g3 : Nat) (F : Fl) (vw : Value) (at_ : Int) (s : List UInt8) (hs : s.length ≤ 1000000) (k b off n cap : Nat) (was : List UInt8) (hkn : k < n) (hcell : w0.cell? ⟨b, off + k, none⟩ = some (.string ⟨was.toArray⟩)) (hb0 : b < w0.heap.size) (hw1 : was.length ≤ 1000000) (hfits : (decide (0 ≤ at_) && decide (at_ ≤ (was.length : Int) - s.length)) = true)
    (e1 : a0.tmps.getD 1 undef = .int .i64 (k : Int)) (e2 : a0.tmps.getD 2 undef = (.iface 77 (.agg #[.int .i64 at_, .string ⟨s.toArray⟩]))) (e3 : a0.tmps.getD 3 undef = .pointer (some ⟨g3, 0, none⟩)) (hc3 : Cells5 w0 g3 (.slice (some ⟨b, off, none⟩) n cap) vw (.int .i64 F.fuse) (strC F.torn) (.bool F.dead)) (hfl : isFl F (.agg #[(.slice (some ⟨b, off, none⟩) n cap), vw, .int .i64 F.fuse, strC F.torn, .bool F.dead]) w0)
    (h1 : F.pages.length ≤ 140737488355328) (h2 : F.wear.length ≤ 140737488355328) (hhas : hasB F (k : Int) = true)
    (hQ : ∀ (a : Act) (w : World), a.defers = a0.defers → a.tmps.size = a0.tmps.size → (∀ t, (takeOps2.toList.all fun o => o.dst != some t) = true → a.tmps.getD t undef = a0.tmps.getD t undef) → a.tmps.getD 30 undef = .bool false → Below w0.heap.size w0 w → Q .normal a w) :
    (Code.region 2 takeOps2 true).wp Tryz.prog Q a0 w0 := by
  refine wp_region_flow mixed (by rw [hsz]; kernel_rfl) ?_
  rw [show takeOps2.size = 18 by kernel_rfl]
  refine ⟨isVal (.agg #[(.slice (some ⟨b, off, none⟩) n cap), vw, .int .i64 F.fuse, strC F.torn, .bool F.dead]), step_load5 (.tmp 3) g3 (by kernel_rfl) (wanted_none (by kernel_rfl)) (knows_old 3 (.pointer (some ⟨g3, 0, none⟩)) (by kernel_rfl) e3) hc3, ?_⟩
  refine ⟨isVal (.int .i64 (k : Int)), step_move (.tmp 1) (by kernel_rfl) (wanted_none (by kernel_rfl)) (stable_val _) (knows_old 1 (.int .i64 (k : Int)) (by kernel_rfl) e1), ?_⟩
  refine ⟨isVal (.bool true), step_call 80 #[.tmp 13, .tmp 14] #[31, 3] #[.agg #[(.slice (some ⟨b, off, none⟩) n cap), vw, .int .i64 F.fuse, strC F.torn, .bool F.dead], .int .i64 (k : Int)] (by kernel_rfl) (wanted_none (by kernel_rfl)) (stable_val _) (args2 (.tmp 13) (.tmp 14) (.agg #[(.slice (some ⟨b, off, none⟩) n cap), vw, .int .i64 F.fuse, strC F.torn, .bool F.dead]) (.int .i64 (k : Int)) (knows_new (V := isVal (.agg #[(.slice (some ⟨b, off, none⟩) n cap), vw, .int .i64 F.fuse, strC F.torn, .bool F.dead])) 13 0 (by kernel_rfl) (by kernel_rfl) (by kernel_rfl)) (knows_new (V := isVal (.int .i64 (k : Int))) 14 1 (by kernel_rfl) (by kernel_rfl) (by kernel_rfl))) (enters_of Tryz.func80 (by kernel_rfl) rfl) (by intro w hb; exact call_has F (k : Int) true _ w (stable_fl _ _ _ _ hfl hb) h1 h2 hhas), ?_⟩
  refine ⟨isVal (.bool false), step_un .not 4 (.tmp 15) (.bool true) (.bool false) (by kernel_rfl) (wanted_none (by kernel_rfl)) (knows_new (V := isVal (.bool true)) 15 2 (by kernel_rfl) (by kernel_rfl) (by kernel_rfl)) (fun _ => rfl), ?_⟩
  refine ⟨isVal (.bool false), step_move (.tmp 16) (by kernel_rfl) (wanted_none (by kernel_rfl)) (stable_val _) (knows_new (V := isVal (.bool false)) 16 3 (by kernel_rfl) (by kernel_rfl) (by kernel_rfl)), ?_⟩
  refine ⟨isVal (.iface 77 (.agg #[.int .i64 at_, .string ⟨s.toArray⟩])), step_move (.tmp 2) (by kernel_rfl) (wanted_some 4 17 false (by kernel_rfl) (by kernel_rfl) (by kernel_rfl) (by kernel_rfl)) (stable_val _) (knows_old 2 (.iface 77 (.agg #[.int .i64 at_, .string ⟨s.toArray⟩])) (by kernel_rfl) e2), ?_⟩
  refine ⟨isVal (.pointer (some ⟨g3, 0, none⟩)), step_field 31 (.tmp 3) 0 ⟨g3, 0, none⟩ ⟨g3, 0, none⟩ (by kernel_rfl) (wanted_some 4 17 false (by kernel_rfl) (by kernel_rfl) (by kernel_rfl) (by kernel_rfl)) (knows_old 3 (.pointer (some ⟨g3, 0, none⟩)) (by kernel_rfl) e3) (field_fl g3 0 (by omega)), ?_⟩
  refine ⟨isVal (.slice (some ⟨b, off, none⟩) n cap), step_read 26 (.tmp 19) ⟨g3, 0, none⟩ (.slice (some ⟨b, off, none⟩) n cap) (by kernel_rfl) (wanted_some 4 17 false (by kernel_rfl) (by kernel_rfl) (by kernel_rfl) (by kernel_rfl)) (knows_new (V := isVal (.pointer (some ⟨g3, 0, none⟩))) 19 6 (by kernel_rfl) (by kernel_rfl) (by kernel_rfl)) hc3.2.1 hc3.1 agg_strs, ?_⟩
  refine ⟨isVal (.int .i64 (k : Int)), step_move (.tmp 1) (by kernel_rfl) (wanted_some 4 17 false (by kernel_rfl) (by kernel_rfl) (by kernel_rfl) (by kernel_rfl)) (stable_val _) (knows_old 1 (.int .i64 (k : Int)) (by kernel_rfl) e1), ?_⟩
  refine ⟨isVal (.pointer (some ⟨b, off + k, none⟩)), step_place 26 9 (.tmp 20) (.tmp 21) b off n cap k (by kernel_rfl) (wanted_some 4 17 false (by kernel_rfl) (by kernel_rfl) (by kernel_rfl) (by kernel_rfl)) (knows_new (V := isVal (.slice (some ⟨b, off, none⟩) n cap)) 20 7 (by kernel_rfl) (by kernel_rfl) (by kernel_rfl)) (knows_new (V := isVal (.int .i64 (k : Int))) 21 8 (by kernel_rfl) (by kernel_rfl) (by kernel_rfl)) Tryz.underlying26 (by kernel_rfl) hkn, ?_⟩
  refine ⟨isVal (.string ⟨was.toArray⟩), step_read 9 (.tmp 22) ⟨b, off + k, none⟩ (.string ⟨was.toArray⟩) (by kernel_rfl) (wanted_some 4 17 false (by kernel_rfl) (by kernel_rfl) (by kernel_rfl) (by kernel_rfl)) (knows_new (V := isVal (.pointer (some ⟨b, off + k, none⟩))) 22 9 (by kernel_rfl) (by kernel_rfl) (by kernel_rfl)) hcell hb0 agg_str, ?_⟩
  refine ⟨isVal (.int .i64 (was.length : Int)), step_len 9 (.tmp 23) (.string ⟨was.toArray⟩) (.int .i64 (was.length : Int)) (by kernel_rfl) (wanted_some 4 17 false (by kernel_rfl) (by kernel_rfl) (by kernel_rfl) (by kernel_rfl)) (knows_new (V := isVal (.string ⟨was.toArray⟩)) 23 10 (by kernel_rfl) (by kernel_rfl) (by kernel_rfl)) (len_str was), ?_⟩
  refine ⟨isVal (.func (.method "ouroboros/flash.fits") #[(.iface 77 (.agg #[.int .i64 at_, .string ⟨s.toArray⟩]))] #[]), step_method "ouroboros/flash.fits" (.tmp 18) (.iface 77 (.agg #[.int .i64 at_, .string ⟨s.toArray⟩])) (by kernel_rfl) (wanted_some 4 17 false (by kernel_rfl) (by kernel_rfl) (by kernel_rfl) (by kernel_rfl)) (knows_new (V := isVal (.iface 77 (.agg #[.int .i64 at_, .string ⟨s.toArray⟩]))) 18 5 (by kernel_rfl) (by kernel_rfl) (by kernel_rfl)), ?_⟩
  refine ⟨isVal (.func (.method "ouroboros/flash.fits") #[(.iface 77 (.agg #[.int .i64 at_, .string ⟨s.toArray⟩]))] #[]), step_nil "ouroboros/flash.fits" (.tmp 25) 77 (.agg #[.int .i64 at_, .string ⟨s.toArray⟩]) (by kernel_rfl) (wanted_some 4 17 false (by kernel_rfl) (by kernel_rfl) (by kernel_rfl) (by kernel_rfl)) (knows_new (V := isVal (.func (.method "ouroboros/flash.fits") #[(.iface 77 (.agg #[.int .i64 at_, .string ⟨s.toArray⟩]))] #[])) 25 12 (by kernel_rfl) (by kernel_rfl) (by kernel_rfl)) (fun w => by kernel_rfl), ?_⟩
  refine ⟨isVal (.iface 77 (.agg #[.int .i64 at_, .string ⟨s.toArray⟩])), step_move (.tmp 18) (by kernel_rfl) (wanted_some 4 17 false (by kernel_rfl) (by kernel_rfl) (by kernel_rfl) (by kernel_rfl)) (stable_val _) (knows_new (V := isVal (.iface 77 (.agg #[.int .i64 at_, .string ⟨s.toArray⟩]))) 18 5 (by kernel_rfl) (by kernel_rfl) (by kernel_rfl)), ?_⟩
  refine ⟨isVal (.bool true), step_invoke "ouroboros/flash.fits" (.tmp 27) (.iface 77 (.agg #[.int .i64 at_, .string ⟨s.toArray⟩])) 169 #[.tmp 24] #[3] #[.int .i64 (was.length : Int)] #[.agg #[.int .i64 at_, .string ⟨s.toArray⟩], .int .i64 (was.length : Int)] (by kernel_rfl) (wanted_some 4 17 false (by kernel_rfl) (by kernel_rfl) (by kernel_rfl) (by kernel_rfl)) (stable_val _) (args1 (.tmp 24) (.int .i64 (was.length : Int)) (knows_new (V := isVal (.int .i64 (was.length : Int))) 24 11 (by kernel_rfl) (by kernel_rfl) (by kernel_rfl))) (knows_new (V := isVal (.iface 77 (.agg #[.int .i64 at_, .string ⟨s.toArray⟩]))) 27 14 (by kernel_rfl) (by kernel_rfl) (by kernel_rfl)) (fun w => by kernel_rfl) (by intro w hb; exact call_pfits at_ s was.length true w hs hw1 hfits), ?_⟩
  refine ⟨isVal (.bool false), step_un .not 4 (.tmp 28) (.bool true) (.bool false) (by kernel_rfl) (wanted_some 4 17 false (by kernel_rfl) (by kernel_rfl) (by kernel_rfl) (by kernel_rfl)) (knows_new (V := isVal (.bool true)) 28 15 (by kernel_rfl) (by kernel_rfl) (by kernel_rfl)) (fun _ => rfl), ?_⟩
  refine ⟨isVal (.bool false), step_pick (.tmp 17) (.const (.bool true)) (.tmp 29) false (by kernel_rfl) (wanted_none (by kernel_rfl)) (stable_val _) (knows_new (V := isVal (.bool false)) 17 4 (by kernel_rfl) (by kernel_rfl) (by kernel_rfl)) (knows_new (V := isVal (.bool false)) 29 16 (by kernel_rfl) (by kernel_rfl) (by kernel_rfl)), ?_⟩
  intro a w hkp hb hd
  exact hQ a w hkp.1 hkp.2.1 hkp.2.2 (fdone_of (hd 17 (by rw [show takeOps2.size = 18 by kernel_rfl]; decide)) (t := 30) (V := isVal (.bool false)) (by kernel_rfl) (by kernel_rfl)) hb

set_option maxRecDepth 100000 in
set_option maxHeartbeats 2000000 in
theorem take2_pout (Q : Exit → Act → World → Prop) (a0 : Act) (w0 : World) (hsz : a0.tmps.size = 84) (g3 : Nat) (F : Fl) (vw : Value) (at_ : Int) (s : List UInt8) (hs : s.length ≤ 1000000) (k b off n cap : Nat) (was : List UInt8) (hkn : k < n) (hcell : w0.cell? ⟨b, off + k, none⟩ = some (.string ⟨was.toArray⟩)) (hb0 : b < w0.heap.size) (hw1 : was.length ≤ 1000000) (hfits : (decide (0 ≤ at_) && decide (at_ ≤ (was.length : Int) - s.length)) = false)
    (e1 : a0.tmps.getD 1 undef = .int .i64 (k : Int)) (e2 : a0.tmps.getD 2 undef = (.iface 77 (.agg #[.int .i64 at_, .string ⟨s.toArray⟩]))) (e3 : a0.tmps.getD 3 undef = .pointer (some ⟨g3, 0, none⟩)) (hc3 : Cells5 w0 g3 (.slice (some ⟨b, off, none⟩) n cap) vw (.int .i64 F.fuse) (strC F.torn) (.bool F.dead)) (hfl : isFl F (.agg #[(.slice (some ⟨b, off, none⟩) n cap), vw, .int .i64 F.fuse, strC F.torn, .bool F.dead]) w0)
    (h1 : F.pages.length ≤ 140737488355328) (h2 : F.wear.length ≤ 140737488355328) (hhas : hasB F (k : Int) = true)
    (hQ : ∀ (a : Act) (w : World), a.defers = a0.defers → a.tmps.size = a0.tmps.size → (∀ t, (takeOps2.toList.all fun o => o.dst != some t) = true → a.tmps.getD t undef = a0.tmps.getD t undef) → a.tmps.getD 30 undef = .bool true → Below w0.heap.size w0 w → Q .normal a w) :
    (Code.region 2 takeOps2 true).wp Tryz.prog Q a0 w0 := by
  refine wp_region_flow mixed (by rw [hsz]; kernel_rfl) ?_
  rw [show takeOps2.size = 18 by kernel_rfl]
  refine ⟨isVal (.agg #[(.slice (some ⟨b, off, none⟩) n cap), vw, .int .i64 F.fuse, strC F.torn, .bool F.dead]), step_load5 (.tmp 3) g3 (by kernel_rfl) (wanted_none (by kernel_rfl)) (knows_old 3 (.pointer (some ⟨g3, 0, none⟩)) (by kernel_rfl) e3) hc3, ?_⟩
  refine ⟨isVal (.int .i64 (k : Int)), step_move (.tmp 1) (by kernel_rfl) (wanted_none (by kernel_rfl)) (stable_val _) (knows_old 1 (.int .i64 (k : Int)) (by kernel_rfl) e1), ?_⟩
  refine ⟨isVal (.bool true), step_call 80 #[.tmp 13, .tmp 14] #[31, 3] #[.agg #[(.slice (some ⟨b, off, none⟩) n cap), vw, .int .i64 F.fuse, strC F.torn, .bool F.dead], .int .i64 (k : Int)] (by kernel_rfl) (wanted_none (by kernel_rfl)) (stable_val _) (args2 (.tmp 13) (.tmp 14) (.agg #[(.slice (some ⟨b, off, none⟩) n cap), vw, .int .i64 F.fuse, strC F.torn, .bool F.dead]) (.int .i64 (k : Int)) (knows_new (V := isVal (.agg #[(.slice (some ⟨b, off, none⟩) n cap), vw, .int .i64 F.fuse, strC F.torn, .bool F.dead])) 13 0 (by kernel_rfl) (by kernel_rfl) (by kernel_rfl)) (knows_new (V := isVal (.int .i64 (k : Int))) 14 1 (by kernel_rfl) (by kernel_rfl) (by kernel_rfl))) (enters_of Tryz.func80 (by kernel_rfl) rfl) (by intro w hb; exact call_has F (k : Int) true _ w (stable_fl _ _ _ _ hfl hb) h1 h2 hhas), ?_⟩
  refine ⟨isVal (.bool false), step_un .not 4 (.tmp 15) (.bool true) (.bool false) (by kernel_rfl) (wanted_none (by kernel_rfl)) (knows_new (V := isVal (.bool true)) 15 2 (by kernel_rfl) (by kernel_rfl) (by kernel_rfl)) (fun _ => rfl), ?_⟩
  refine ⟨isVal (.bool false), step_move (.tmp 16) (by kernel_rfl) (wanted_none (by kernel_rfl)) (stable_val _) (knows_new (V := isVal (.bool false)) 16 3 (by kernel_rfl) (by kernel_rfl) (by kernel_rfl)), ?_⟩
  refine ⟨isVal (.iface 77 (.agg #[.int .i64 at_, .string ⟨s.toArray⟩])), step_move (.tmp 2) (by kernel_rfl) (wanted_some 4 17 false (by kernel_rfl) (by kernel_rfl) (by kernel_rfl) (by kernel_rfl)) (stable_val _) (knows_old 2 (.iface 77 (.agg #[.int .i64 at_, .string ⟨s.toArray⟩])) (by kernel_rfl) e2), ?_⟩
  refine ⟨isVal (.pointer (some ⟨g3, 0, none⟩)), step_field 31 (.tmp 3) 0 ⟨g3, 0, none⟩ ⟨g3, 0, none⟩ (by kernel_rfl) (wanted_some 4 17 false (by kernel_rfl) (by kernel_rfl) (by kernel_rfl) (by kernel_rfl)) (knows_old 3 (.pointer (some ⟨g3, 0, none⟩)) (by kernel_rfl) e3) (field_fl g3 0 (by omega)), ?_⟩
  refine ⟨isVal (.slice (some ⟨b, off, none⟩) n cap), step_read 26 (.tmp 19) ⟨g3, 0, none⟩ (.slice (some ⟨b, off, none⟩) n cap) (by kernel_rfl) (wanted_some 4 17 false (by kernel_rfl) (by kernel_rfl) (by kernel_rfl) (by kernel_rfl)) (knows_new (V := isVal (.pointer (some ⟨g3, 0, none⟩))) 19 6 (by kernel_rfl) (by kernel_rfl) (by kernel_rfl)) hc3.2.1 hc3.1 agg_strs, ?_⟩
  refine ⟨isVal (.int .i64 (k : Int)), step_move (.tmp 1) (by kernel_rfl) (wanted_some 4 17 false (by kernel_rfl) (by kernel_rfl) (by kernel_rfl) (by kernel_rfl)) (stable_val _) (knows_old 1 (.int .i64 (k : Int)) (by kernel_rfl) e1), ?_⟩
  refine ⟨isVal (.pointer (some ⟨b, off + k, none⟩)), step_place 26 9 (.tmp 20) (.tmp 21) b off n cap k (by kernel_rfl) (wanted_some 4 17 false (by kernel_rfl) (by kernel_rfl) (by kernel_rfl) (by kernel_rfl)) (knows_new (V := isVal (.slice (some ⟨b, off, none⟩) n cap)) 20 7 (by kernel_rfl) (by kernel_rfl) (by kernel_rfl)) (knows_new (V := isVal (.int .i64 (k : Int))) 21 8 (by kernel_rfl) (by kernel_rfl) (by kernel_rfl)) Tryz.underlying26 (by kernel_rfl) hkn, ?_⟩
  refine ⟨isVal (.string ⟨was.toArray⟩), step_read 9 (.tmp 22) ⟨b, off + k, none⟩ (.string ⟨was.toArray⟩) (by kernel_rfl) (wanted_some 4 17 false (by kernel_rfl) (by kernel_rfl) (by kernel_rfl) (by kernel_rfl)) (knows_new (V := isVal (.pointer (some ⟨b, off + k, none⟩))) 22 9 (by kernel_rfl) (by kernel_rfl) (by kernel_rfl)) hcell hb0 agg_str, ?_⟩
  refine ⟨isVal (.int .i64 (was.length : Int)), step_len 9 (.tmp 23) (.string ⟨was.toArray⟩) (.int .i64 (was.length : Int)) (by kernel_rfl) (wanted_some 4 17 false (by kernel_rfl) (by kernel_rfl) (by kernel_rfl) (by kernel_rfl)) (knows_new (V := isVal (.string ⟨was.toArray⟩)) 23 10 (by kernel_rfl) (by kernel_rfl) (by kernel_rfl)) (len_str was), ?_⟩
  refine ⟨isVal (.func (.method "ouroboros/flash.fits") #[(.iface 77 (.agg #[.int .i64 at_, .string ⟨s.toArray⟩]))] #[]), step_method "ouroboros/flash.fits" (.tmp 18) (.iface 77 (.agg #[.int .i64 at_, .string ⟨s.toArray⟩])) (by kernel_rfl) (wanted_some 4 17 false (by kernel_rfl) (by kernel_rfl) (by kernel_rfl) (by kernel_rfl)) (knows_new (V := isVal (.iface 77 (.agg #[.int .i64 at_, .string ⟨s.toArray⟩]))) 18 5 (by kernel_rfl) (by kernel_rfl) (by kernel_rfl)), ?_⟩
  refine ⟨isVal (.func (.method "ouroboros/flash.fits") #[(.iface 77 (.agg #[.int .i64 at_, .string ⟨s.toArray⟩]))] #[]), step_nil "ouroboros/flash.fits" (.tmp 25) 77 (.agg #[.int .i64 at_, .string ⟨s.toArray⟩]) (by kernel_rfl) (wanted_some 4 17 false (by kernel_rfl) (by kernel_rfl) (by kernel_rfl) (by kernel_rfl)) (knows_new (V := isVal (.func (.method "ouroboros/flash.fits") #[(.iface 77 (.agg #[.int .i64 at_, .string ⟨s.toArray⟩]))] #[])) 25 12 (by kernel_rfl) (by kernel_rfl) (by kernel_rfl)) (fun w => by kernel_rfl), ?_⟩
  refine ⟨isVal (.iface 77 (.agg #[.int .i64 at_, .string ⟨s.toArray⟩])), step_move (.tmp 18) (by kernel_rfl) (wanted_some 4 17 false (by kernel_rfl) (by kernel_rfl) (by kernel_rfl) (by kernel_rfl)) (stable_val _) (knows_new (V := isVal (.iface 77 (.agg #[.int .i64 at_, .string ⟨s.toArray⟩]))) 18 5 (by kernel_rfl) (by kernel_rfl) (by kernel_rfl)), ?_⟩
  refine ⟨isVal (.bool false), step_invoke "ouroboros/flash.fits" (.tmp 27) (.iface 77 (.agg #[.int .i64 at_, .string ⟨s.toArray⟩])) 169 #[.tmp 24] #[3] #[.int .i64 (was.length : Int)] #[.agg #[.int .i64 at_, .string ⟨s.toArray⟩], .int .i64 (was.length : Int)] (by kernel_rfl) (wanted_some 4 17 false (by kernel_rfl) (by kernel_rfl) (by kernel_rfl) (by kernel_rfl)) (stable_val _) (args1 (.tmp 24) (.int .i64 (was.length : Int)) (knows_new (V := isVal (.int .i64 (was.length : Int))) 24 11 (by kernel_rfl) (by kernel_rfl) (by kernel_rfl))) (knows_new (V := isVal (.iface 77 (.agg #[.int .i64 at_, .string ⟨s.toArray⟩]))) 27 14 (by kernel_rfl) (by kernel_rfl) (by kernel_rfl)) (fun w => by kernel_rfl) (by intro w hb; exact call_pfits at_ s was.length false w hs hw1 hfits), ?_⟩
  refine ⟨isVal (.bool true), step_un .not 4 (.tmp 28) (.bool false) (.bool true) (by kernel_rfl) (wanted_some 4 17 false (by kernel_rfl) (by kernel_rfl) (by kernel_rfl) (by kernel_rfl)) (knows_new (V := isVal (.bool false)) 28 15 (by kernel_rfl) (by kernel_rfl) (by kernel_rfl)) (fun _ => rfl), ?_⟩
  refine ⟨isVal (.bool true), step_pick (.tmp 17) (.const (.bool true)) (.tmp 29) false (by kernel_rfl) (wanted_none (by kernel_rfl)) (stable_val _) (knows_new (V := isVal (.bool false)) 17 4 (by kernel_rfl) (by kernel_rfl) (by kernel_rfl)) (knows_new (V := isVal (.bool true)) 29 16 (by kernel_rfl) (by kernel_rfl) (by kernel_rfl)), ?_⟩
  intro a w hkp hb hd
  exact hQ a w hkp.1 hkp.2.1 hkp.2.2 (fdone_of (hd 17 (by rw [show takeOps2.size = 18 by kernel_rfl]; decide)) (t := 30) (V := isVal (.bool true)) (by kernel_rfl) (by kernel_rfl)) hb

section
variable {P : Program} {ops : Array Oper} {Q : Exit → Act → World → Prop} {i c : Nat} {a : Act} {w : World}
theorem tail_place (t e : TypeId) (x y : Operand) (b off n cap k : Nat) (d : Tmp) (hop : (ops[i]?).map (fun o => (o.op, o.guard)) = some (.indexAddr t x y, none)) (hd : (ops[i]?).bind (·.dst) = some d) (hx : a.eval x = .slice (some ⟨b, off, none⟩) n cap) (hy : a.eval y = .int .i64 (k : Int))
    (ht : P.underlying t = some (.slice e)) (hi : (P.info? e).map (·.size) = some 1) (hk : k < n) (h : Tail P ops Q c (i + 1) (a.put (some d) (.pointer (some ⟨b, off + k, none⟩))) w) : Tail P ops Q (c + 1) i a w :=
  tail_op (fun _ _ => True) hop fun o ho e' => by
    rw [ho] at hd
    simp only [Option.bind_some] at hd
    obtain ⟨ie, hie, hz⟩ := Option.map_eq_some_iff.1 hi
    have hsz : (sizeOf e).run P w = .ok 1 w := by simp [sizeOf, typeInfo, hie, hz]
    have hr : (Instr.indexAt t (.slice (some ⟨b, off, none⟩) n cap) (.int .i64 (k : Int))).run P w = .ok (.pointer (some ⟨b, off + k, none⟩)) w := by
      simp [Instr.indexAt, run_underlying ht, asIntOf, hsz, hk, Addr.add]
    unfold Oper.wp execOp
    rw [e']
    simp only [hx, hy, Sem.run_bind, hr, Result.andThen_ok, Sem.run_pure, Oper.upon, hd]
    exact h
end

set_option maxRecDepth 100000 in
set_option maxHeartbeats 2000000 in
theorem take9 (Q : Exit → Act → World → Prop) (a0 : Act) (w0 W : World) (hsz : a0.tmps.size = 84) (lo hi g3 g6 g8 k gp np capp : Nat) (F G : Fl) (vp vw vw' : Value) (was would : List UInt8)
    (e1 : a0.tmps.getD 1 undef = .int .i64 (k : Int)) (e3 : a0.tmps.getD 3 undef = .pointer (some ⟨g3, 0, none⟩)) (e8 : a0.tmps.getD 8 undef = .pointer (some ⟨g8, 0, none⟩)) (e9 : a0.tmps.getD 9 undef = .string ⟨was.toArray⟩) (e10 : a0.tmps.getD 10 undef = .string ⟨would.toArray⟩)
    (h : TI w0 W lo hi g3 g6 g8 F G vp vw (.slice (some ⟨gp, 0, none⟩) np capp) vw') (hknp : k < np) (hkg : k < G.pages.length) (hw1 : was.length ≤ 1000000) (hw2 : would.length ≤ 1000000) (hw3 : F.torn.length ≤ 1000000)
    (hQ : ∀ (a : Act) (W' : World), a.defers = a0.defers → a.tmps.size = a0.tmps.size → (∀ t, (takeOps9.toList.all fun o => o.dst != some t) = true → a.tmps.getD t undef = a0.tmps.getD t undef) →
      TI w0 W' lo hi g3 g6 g8 F { G with pages := G.pages.set k (betweenL was would F.torn), dead := true } vp vw (.slice (some ⟨gp, 0, none⟩) np capp) vw' → Q .normal a W') :
    (Code.region 9 takeOps9 true).wp Tryz.prog Q a0 W := by
  have hc3 := h.c3
  have hc8 := h.c8
  refine wp_region_tail 9 mixed (by rw [hsz]; kernel_rfl) (by kernel_rfl) ?_
  rw [show takeOps9.size - 9 = 3 by kernel_rfl]
  refine ⟨isVal (.pointer (some ⟨g8, 0, none⟩)), step_field 31 (.tmp 8) 0 ⟨g8, 0, none⟩ ⟨g8, 0, none⟩ (by kernel_rfl) (wanted_none (by kernel_rfl)) (knows_old 8 (.pointer (some ⟨g8, 0, none⟩)) (by kernel_rfl) e8) (field_fl g8 0 (by omega)), ?_⟩
  refine ⟨isVal (.slice (some ⟨gp, 0, none⟩) np capp), step_read 26 (.tmp 46) ⟨g8, 0, none⟩ (.slice (some ⟨gp, 0, none⟩) np capp) (by kernel_rfl) (wanted_none (by kernel_rfl)) (knows_new (V := isVal (.pointer (some ⟨g8, 0, none⟩))) 46 0 (by kernel_rfl) (by kernel_rfl) (by kernel_rfl)) hc8.2.1 hc8.1 agg_strs, ?_⟩
  refine ⟨isVal (.int .i64 (k : Int)), step_move (.tmp 1) (by kernel_rfl) (wanted_none (by kernel_rfl)) (stable_val _) (knows_old 1 (.int .i64 (k : Int)) (by kernel_rfl) e1), ?_⟩
  refine ⟨isVal (.string ⟨was.toArray⟩), step_move (.tmp 9) (by kernel_rfl) (wanted_none (by kernel_rfl)) (stable_val _) (knows_old 9 (.string ⟨was.toArray⟩) (by kernel_rfl) e9), ?_⟩
  refine ⟨isVal (.string ⟨would.toArray⟩), step_move (.tmp 10) (by kernel_rfl) (wanted_none (by kernel_rfl)) (stable_val _) (knows_old 10 (.string ⟨would.toArray⟩) (by kernel_rfl) e10), ?_⟩
  refine ⟨isVal (.pointer (some ⟨g3, 3, none⟩)), step_field 31 (.tmp 3) 3 ⟨g3, 0, none⟩ ⟨g3, 3, none⟩ (by kernel_rfl) (wanted_none (by kernel_rfl)) (knows_old 3 (.pointer (some ⟨g3, 0, none⟩)) (by kernel_rfl) e3) (field_fl g3 3 (by omega)), ?_⟩
  refine ⟨isVal (.string ⟨F.torn.toArray⟩), step_read 9 (.tmp 51) ⟨g3, 3, none⟩ (.string ⟨F.torn.toArray⟩) (by kernel_rfl) (wanted_none (by kernel_rfl)) (knows_new (V := isVal (.pointer (some ⟨g3, 3, none⟩))) 51 5 (by kernel_rfl) (by kernel_rfl) (by kernel_rfl)) hc3.2.2.2.2.1 hc3.1 agg_str, ?_⟩
  refine ⟨isVal (.string ⟨(betweenL was would F.torn).toArray⟩), step_call 81 #[.tmp 49, .tmp 50, .tmp 52] #[9, 9, 9] #[.string ⟨was.toArray⟩, .string ⟨would.toArray⟩, .string ⟨F.torn.toArray⟩] (by kernel_rfl) (wanted_none (by kernel_rfl)) (stable_val _) (args3 (.tmp 49) (.tmp 50) (.tmp 52) (.string ⟨was.toArray⟩) (.string ⟨would.toArray⟩) (.string ⟨F.torn.toArray⟩) (knows_new (V := isVal (.string ⟨was.toArray⟩)) 49 3 (by kernel_rfl) (by kernel_rfl) (by kernel_rfl)) (knows_new (V := isVal (.string ⟨would.toArray⟩)) 50 4 (by kernel_rfl) (by kernel_rfl) (by kernel_rfl)) (knows_new (V := isVal (.string ⟨F.torn.toArray⟩)) 52 6 (by kernel_rfl) (by kernel_rfl) (by kernel_rfl))) (enters_of Tryz.func81 (by kernel_rfl) rfl) (by intro w hb; exact call_between was would F.torn w hw1 hw2 hw3), ?_⟩
  refine ⟨isVal (.pointer (some ⟨gp, 0 + k, none⟩)), step_place 26 9 (.tmp 47) (.tmp 48) gp 0 np capp k (by kernel_rfl) (wanted_none (by kernel_rfl)) (knows_new (V := isVal (.slice (some ⟨gp, 0, none⟩) np capp)) 47 1 (by kernel_rfl) (by kernel_rfl) (by kernel_rfl)) (knows_new (V := isVal (.int .i64 (k : Int))) 48 2 (by kernel_rfl) (by kernel_rfl) (by kernel_rfl)) Tryz.underlying26 (by kernel_rfl) hknp, ?_⟩
  intro a w hk hb hd
  have d53 := fdone_of (hd 7 (by decide)) (t := 53) (V := isVal (.string ⟨(betweenL was would F.torn).toArray⟩)) (by kernel_rfl) (by kernel_rfl)
  have d54 := fdone_of (hd 8 (by decide)) (t := 54) (V := isVal (.pointer (some ⟨gp, 0 + k, none⟩))) (by kernel_rfl) (by kernel_rfl)
  rw [Nat.zero_add] at d54
  have x8 : a.tmps.getD 8 undef = .pointer (some ⟨g8, 0, none⟩) := (hk.2.2 8 (by kernel_rfl)).trans e8
  have hs55 : 55 < a.tmps.size := by rw [hk.2.1, hsz]; decide
  have T1 := h.grow hb
  obtain ⟨q1, q2, _⟩ := T1.p'.cell k (strC G.pages[k]) (get_map strC _ _ hkg)
  refine tail_store 9 (.tmp 54) (.tmp 53) ⟨gp, k, none⟩ (strC (betweenL was would F.torn)) _ (by kernel_rfl) (by kernel_rfl) d54 d53 (by kernel_rfl) rfl rfl q1 q2 ?_
  have T2 := T1.page k hkg (betweenL was would F.torn)
  refine tail_field 31 (.tmp 8) 4 ⟨g8, 0, none⟩ ⟨g8, 4, none⟩ 55 (by kernel_rfl) (by kernel_rfl) x8 (field_fl g8 4 (by omega)) ?_
  refine tail_store 4 (.tmp 55) (.const (.bool true)) ⟨g8, 4, none⟩ (.bool true) _ (by kernel_rfl) (by kernel_rfl) (getD_put_self hs55) rfl (by kernel_rfl) rfl rfl T2.c8.2.2.2.2.2 (T2.f8 4) ?_
  refine hQ _ _ ((defers_put (a := a)).trans hk.1) ((size_put (a := a)).trans hk.2.1) (fun t ht => ?_) (T2.die true)
  have hall : (takeOps9.toList.all fun o => o.dst != some 55) = false := by kernel_rfl
  rw [getD_put (fun e => by rw [e, hall] at ht; cases ht)]
  exact hk.2.2 t ht

set_option maxRecDepth 100000 in
set_option maxHeartbeats 2000000 in
theorem take11_e (Q : Exit → Act → World → Prop) (a0 : Act) (w0 W : World) (hsz : a0.tmps.size = 84) (lo hi g3 g6 g8 k gp np capp gw nw capw b2 off2 n2 cap2 : Nat) (F G : Fl) (vp : Value) (would : List UInt8) (wn : Int)
    (e1 : a0.tmps.getD 1 undef = .int .i64 (k : Int)) (e2 : a0.tmps.getD 2 undef = (.iface 64 (.agg #[]))) (e3 : a0.tmps.getD 3 undef = .pointer (some ⟨g3, 0, none⟩)) (e8 : a0.tmps.getD 8 undef = .pointer (some ⟨g8, 0, none⟩)) (e10 : a0.tmps.getD 10 undef = .string ⟨would.toArray⟩)
    (h : TI w0 W lo hi g3 g6 g8 F G vp (.slice (some ⟨b2, off2, none⟩) n2 cap2) (.slice (some ⟨gp, 0, none⟩) np capp) (.slice (some ⟨gw, 0, none⟩) nw capw)) (hknp : k < np) (hkg : k < G.pages.length) (hknw : k < nw) (hkw : k < G.wear.length)
    (hkn2 : k < n2) (hcell2 : W.cell? ⟨b2, off2 + k, none⟩ = some (.int .i64 wn)) (hb20 : b2 < w0.heap.size) (hn0 : 0 ≤ wn) (hn1 : wn ≤ 2147483647)
    (hQ : ∀ (a : Act) (W' : World), a.defers = a0.defers → a.tmps.size = a0.tmps.size → (∀ t, (takeOps11.toList.all fun o => o.dst != some t) = true → a.tmps.getD t undef = a0.tmps.getD t undef) →
      TI w0 W' lo hi g3 g6 g8 F { G with pages := G.pages.set k would, wear := G.wear.set k (wornN wn) } vp (.slice (some ⟨b2, off2, none⟩) n2 cap2) (.slice (some ⟨gp, 0, none⟩) np capp) (.slice (some ⟨gw, 0, none⟩) nw capw) → Q .normal a W') :
    (Code.region 11 takeOps11 true).wp Tryz.prog Q a0 W := by
  have hc3 := h.c3
  have hc8 := h.c8
  have o3 := h.o3
  have o6 := h.o6
  have o8 := h.o8
  obtain ⟨qc, qf, ql, qh, cur, qg⟩ := h.p'.cell k (strC G.pages[k]) (get_map strC _ _ hkg)
  have hne3 : g3 ≠ gp := by omega
  have hne8 : g8 ≠ gp := by omega
  have hne2 : b2 ≠ gp := by omega
  have hb2 : b2 < W.heap.size := Nat.lt_of_lt_of_le hb20 h.below.size
  have hR := wrote_pre gp k (strC would)
  refine wp_region_rel hR 19 mixed (by rw [hsz]; kernel_rfl) (by kernel_rfl) ?_
  rw [show takeOps11.size - 19 = 2 by kernel_rfl]
  refine ⟨isVal (.pointer (some ⟨g8, 0, none⟩)), RStep.of hR (stabR_val _ _) (by kernel_rfl) (fun w hw => step_field 31 (.tmp 8) 0 ⟨g8, 0, none⟩ ⟨g8, 0, none⟩ (by kernel_rfl) (wanted_none (by kernel_rfl)) (knows_old 8 (.pointer (some ⟨g8, 0, none⟩)) (by kernel_rfl) e8) (field_fl g8 0 (by omega))), ?_⟩
  refine ⟨isVal (.slice (some ⟨gp, 0, none⟩) np capp), RStep.of hR (stabR_val _ _) (by kernel_rfl) (fun w hw => step_read 26 (.tmp 57) ⟨g8, 0, none⟩ (.slice (some ⟨gp, 0, none⟩) np capp) (by kernel_rfl) (wanted_none (by kernel_rfl)) (knows_new (V := isVal (.pointer (some ⟨g8, 0, none⟩))) 57 0 (by kernel_rfl) (by kernel_rfl) (by kernel_rfl)) (hw.cell hc8.2.1 hc8.1 hne8) (Nat.lt_of_lt_of_le hc8.1 hw.size) agg_strs), ?_⟩
  refine ⟨isVal (.int .i64 (k : Int)), RStep.of hR (stabR_val _ _) (by kernel_rfl) (fun w hw => step_move (.tmp 1) (by kernel_rfl) (wanted_none (by kernel_rfl)) (stable_val _) (knows_old 1 (.int .i64 (k : Int)) (by kernel_rfl) e1)), ?_⟩
  refine ⟨isVal (.pointer (some ⟨g8, 1, none⟩)), RStep.of hR (stabR_val _ _) (by kernel_rfl) (fun w hw => step_field 31 (.tmp 8) 1 ⟨g8, 0, none⟩ ⟨g8, 1, none⟩ (by kernel_rfl) (wanted_none (by kernel_rfl)) (knows_old 8 (.pointer (some ⟨g8, 0, none⟩)) (by kernel_rfl) e8) (field_fl g8 1 (by omega))), ?_⟩
  refine ⟨isVal (.slice (some ⟨gw, 0, none⟩) nw capw), RStep.of hR (stabR_val _ _) (by kernel_rfl) (fun w hw => step_read 29 (.tmp 60) ⟨g8, 1, none⟩ (.slice (some ⟨gw, 0, none⟩) nw capw) (by kernel_rfl) (wanted_none (by kernel_rfl)) (knows_new (V := isVal (.pointer (some ⟨g8, 1, none⟩))) 60 3 (by kernel_rfl) (by kernel_rfl) (by kernel_rfl)) (hw.cell hc8.2.2.1 hc8.1 hne8) (Nat.lt_of_lt_of_le hc8.1 hw.size) agg_ints), ?_⟩
  refine ⟨isVal (.int .i64 (k : Int)), RStep.of hR (stabR_val _ _) (by kernel_rfl) (fun w hw => step_move (.tmp 1) (by kernel_rfl) (wanted_none (by kernel_rfl)) (stable_val _) (knows_old 1 (.int .i64 (k : Int)) (by kernel_rfl) e1)), ?_⟩
  refine ⟨isVal (.string ⟨would.toArray⟩), RStep.of hR (stabR_val _ _) (by kernel_rfl) (fun w hw => step_move (.tmp 10) (by kernel_rfl) (wanted_none (by kernel_rfl)) (stable_val _) (knows_old 10 (.string ⟨would.toArray⟩) (by kernel_rfl) e10)), ?_⟩
  refine ⟨isVal (.iface 64 (.agg #[])), RStep.of hR (stabR_val _ _) (by kernel_rfl) (fun w hw => step_move (.tmp 2) (by kernel_rfl) (wanted_none (by kernel_rfl)) (stable_val _) (knows_old 2 (.iface 64 (.agg #[])) (by kernel_rfl) e2)), ?_⟩
  refine ⟨isVal (.pointer (some ⟨g3, 1, none⟩)), RStep.of hR (stabR_val _ _) (by kernel_rfl) (fun w hw => step_field 31 (.tmp 3) 1 ⟨g3, 0, none⟩ ⟨g3, 1, none⟩ (by kernel_rfl) (wanted_none (by kernel_rfl)) (knows_old 3 (.pointer (some ⟨g3, 0, none⟩)) (by kernel_rfl) e3) (field_fl g3 1 (by omega))), ?_⟩
  refine ⟨isVal (.slice (some ⟨b2, off2, none⟩) n2 cap2), RStep.of hR (stabR_val _ _) (by kernel_rfl) (fun w hw => step_read 29 (.tmp 65) ⟨g3, 1, none⟩ (.slice (some ⟨b2, off2, none⟩) n2 cap2) (by kernel_rfl) (wanted_none (by kernel_rfl)) (knows_new (V := isVal (.pointer (some ⟨g3, 1, none⟩))) 65 8 (by kernel_rfl) (by kernel_rfl) (by kernel_rfl)) (hw.cell hc3.2.2.1 hc3.1 hne3) (Nat.lt_of_lt_of_le hc3.1 hw.size) agg_ints), ?_⟩
  refine ⟨isVal (.int .i64 (k : Int)), RStep.of hR (stabR_val _ _) (by kernel_rfl) (fun w hw => step_move (.tmp 1) (by kernel_rfl) (wanted_none (by kernel_rfl)) (stable_val _) (knows_old 1 (.int .i64 (k : Int)) (by kernel_rfl) e1)), ?_⟩
  refine ⟨isVal (.pointer (some ⟨b2, off2 + k, none⟩)), RStep.of hR (stabR_val _ _) (by kernel_rfl) (fun w hw => step_place 29 3 (.tmp 66) (.tmp 67) b2 off2 n2 cap2 k (by kernel_rfl) (wanted_none (by kernel_rfl)) (knows_new (V := isVal (.slice (some ⟨b2, off2, none⟩) n2 cap2)) 66 9 (by kernel_rfl) (by kernel_rfl) (by kernel_rfl)) (knows_new (V := isVal (.int .i64 (k : Int))) 67 10 (by kernel_rfl) (by kernel_rfl) (by kernel_rfl)) Tryz.underlying29 (by kernel_rfl) hkn2), ?_⟩
  refine ⟨isVal (.int .i64 wn), RStep.of hR (stabR_val _ _) (by kernel_rfl) (fun w hw => step_read 3 (.tmp 68) ⟨b2, off2 + k, none⟩ (.int .i64 wn) (by kernel_rfl) (wanted_none (by kernel_rfl)) (knows_new (V := isVal (.pointer (some ⟨b2, off2 + k, none⟩))) 68 11 (by kernel_rfl) (by kernel_rfl) (by kernel_rfl)) (hw.cell hcell2 hb2 hne2) (Nat.lt_of_lt_of_le hb2 hw.size) agg_int), ?_⟩
  refine ⟨isVal (.func (.method "ouroboros/flash.wear") #[(.iface 64 (.agg #[]))] #[]), RStep.of hR (stabR_val _ _) (by kernel_rfl) (fun w hw => step_method "ouroboros/flash.wear" (.tmp 64) (.iface 64 (.agg #[])) (by kernel_rfl) (wanted_none (by kernel_rfl)) (knows_new (V := isVal (.iface 64 (.agg #[]))) 64 7 (by kernel_rfl) (by kernel_rfl) (by kernel_rfl))), ?_⟩
  refine ⟨isVal (.func (.method "ouroboros/flash.wear") #[(.iface 64 (.agg #[]))] #[]), RStep.of hR (stabR_val _ _) (by kernel_rfl) (fun w hw => step_nil "ouroboros/flash.wear" (.tmp 70) 64 (.agg #[]) (by kernel_rfl) (wanted_none (by kernel_rfl)) (knows_new (V := isVal (.func (.method "ouroboros/flash.wear") #[(.iface 64 (.agg #[]))] #[])) 70 13 (by kernel_rfl) (by kernel_rfl) (by kernel_rfl)) (fun w => by kernel_rfl)), ?_⟩
  refine ⟨isVal (.iface 64 (.agg #[])), RStep.of hR (stabR_val _ _) (by kernel_rfl) (fun w hw => step_move (.tmp 64) (by kernel_rfl) (wanted_none (by kernel_rfl)) (stable_val _) (knows_new (V := isVal (.iface 64 (.agg #[]))) 64 7 (by kernel_rfl) (by kernel_rfl) (by kernel_rfl))), ?_⟩
  refine ⟨isVal (.int .i64 (wornN wn)), RStep.of hR (stabR_val _ _) (by kernel_rfl) (fun w hw => step_invoke "ouroboros/flash.wear" (.tmp 72) (.iface 64 (.agg #[])) 168 #[.tmp 69] #[3] #[.int .i64 wn] #[.agg #[], .int .i64 wn] (by kernel_rfl) (wanted_none (by kernel_rfl)) (stable_val _) (args1 (.tmp 69) (.int .i64 wn) (knows_new (V := isVal (.int .i64 wn)) 69 12 (by kernel_rfl) (by kernel_rfl) (by kernel_rfl))) (knows_new (V := isVal (.iface 64 (.agg #[]))) 72 15 (by kernel_rfl) (by kernel_rfl) (by kernel_rfl)) (fun w => by kernel_rfl) (by intro w hb; exact call_ewear wn w hn0 hn1)), ?_⟩
  refine ⟨isVal (.pointer (some ⟨gp, 0 + k, none⟩)), RStep.of hR (stabR_val _ _) (by kernel_rfl) (fun w hw => step_place 26 9 (.tmp 58) (.tmp 59) gp 0 np capp k (by kernel_rfl) (wanted_none (by kernel_rfl)) (knows_new (V := isVal (.slice (some ⟨gp, 0, none⟩) np capp)) 58 1 (by kernel_rfl) (by kernel_rfl) (by kernel_rfl)) (knows_new (V := isVal (.int .i64 (k : Int))) 59 2 (by kernel_rfl) (by kernel_rfl) (by kernel_rfl)) Tryz.underlying26 (by kernel_rfl) hknp), ?_⟩
  refine ⟨rowIs gp 9 (cur.setIfInBounds k (strC would)), RStep.store 9 (.tmp 74) (.tmp 63) ⟨gp, 0 + k, none⟩ (strC would) (by kernel_rfl) (knows_new (V := isVal (.pointer (some ⟨gp, 0 + k, none⟩))) 74 17 (by kernel_rfl) (by kernel_rfl) (by kernel_rfl)) (knows_new (V := isVal (.string ⟨would.toArray⟩)) 63 6 (by kernel_rfl) (by kernel_rfl) (by kernel_rfl)) (by kernel_rfl) rfl rfl (stabR_row _ _ _ _ _) ?_, ?_⟩
  · intro w hw
    rw [Nat.zero_add]
    rcases hw.row cur _ qg with hr | hr
    · refine ⟨⟨strC G.pages[k], ?_⟩, by simp [World.frozen?, hr], heap_setCell_same w gp k cur _ _ hr, Wrote.set hr⟩
      have := qc
      simp only [World.cell?, qg] at this
      simp only [World.cell?, hr]
      exact this
    · refine ⟨⟨strC would, ?_⟩, by simp [World.frozen?, hr], ?_, Wrote.set hr⟩
      · have := qc
        simp only [World.cell?, qg] at this
        simp only [World.cell?, hr]
        have hlt : k < cur.size := by
          by_cases e : k < cur.size
          · exact e
          · simp [Array.getElem?_eq_none (by omega : cur.size ≤ k)] at this
        simp [hlt]
      · have := heap_setCell_same w gp k _ _ (strC would) hr
        rw [set_twice] at this
        exact this
  intro a w hk0 hw hd
  have hk := hk0.f
  have d18 := rdone_none (hd 18 (by decide)) (V := rowIs gp 9 (cur.setIfInBounds k (strC would))) (by kernel_rfl) (by kernel_rfl)
  have d73 := rdone_of (hd 16 (by decide)) (t := 73) (V := isVal (.int .i64 (wornN wn))) (by kernel_rfl) (by kernel_rfl)
  have d61 := rdone_of (hd 4 (by decide)) (t := 61) (V := isVal (.slice (some ⟨gw, 0, none⟩) nw capw)) (by kernel_rfl) (by kernel_rfl)
  have d62 := rdone_of (hd 5 (by decide)) (t := 62) (V := isVal (.int .i64 (k : Int))) (by kernel_rfl) (by kernel_rfl)
  have hs75 : 75 < a.tmps.size := by rw [hk.2.1, hsz]; decide
  have T2 := (h.page k hkg would).grow (hw.below qg d18)
  refine tail_place 29 3 (.tmp 61) (.tmp 62) gw 0 nw capw k 75 (by kernel_rfl) (by kernel_rfl) d61 d62 Tryz.underlying29 (by kernel_rfl) hknw ?_
  rw [Nat.zero_add]
  obtain ⟨q3, q4, _⟩ := T2.q'.cell k (intC G.wear[k]) (get_map intC _ _ hkw)
  refine tail_store 3 (.tmp 75) (.tmp 73) ⟨gw, k, none⟩ (intC (wornN wn)) _ (by kernel_rfl) (by kernel_rfl) (getD_put_self hs75) ((getD_put (by decide)).trans d73) (by kernel_rfl) rfl rfl q3 q4 ?_
  refine hQ _ _ ((defers_put (a := a)).trans hk.1) ((size_put (a := a)).trans hk.2.1) (fun t ht => ?_) (T2.wear k hkw (wornN wn))
  have hall : (takeOps11.toList.all fun o => o.dst != some 75) = false := by kernel_rfl
  rw [getD_put (fun e => by rw [e, hall] at ht; cases ht)]
  exact hk.2.2 t ht

set_option maxRecDepth 100000 in
set_option maxHeartbeats 2000000 in
theorem take11_p (Q : Exit → Act → World → Prop) (a0 : Act) (w0 W : World) (hsz : a0.tmps.size = 84) (lo hi g3 g6 g8 k gp np capp gw nw capw b2 off2 n2 cap2 : Nat) (F G : Fl) (vp : Value) (would : List UInt8) (wn : Int) (at_ : Int) (s : List UInt8) (hs : s.length ≤ 1000000)
    (e1 : a0.tmps.getD 1 undef = .int .i64 (k : Int)) (e2 : a0.tmps.getD 2 undef = (.iface 77 (.agg #[.int .i64 at_, .string ⟨s.toArray⟩]))) (e3 : a0.tmps.getD 3 undef = .pointer (some ⟨g3, 0, none⟩)) (e8 : a0.tmps.getD 8 undef = .pointer (some ⟨g8, 0, none⟩)) (e10 : a0.tmps.getD 10 undef = .string ⟨would.toArray⟩)
    (h : TI w0 W lo hi g3 g6 g8 F G vp (.slice (some ⟨b2, off2, none⟩) n2 cap2) (.slice (some ⟨gp, 0, none⟩) np capp) (.slice (some ⟨gw, 0, none⟩) nw capw)) (hknp : k < np) (hkg : k < G.pages.length) (hknw : k < nw) (hkw : k < G.wear.length)
    (hkn2 : k < n2) (hcell2 : W.cell? ⟨b2, off2 + k, none⟩ = some (.int .i64 wn)) (hb20 : b2 < w0.heap.size) (hn0 : 0 ≤ wn) (hn1 : wn ≤ 2147483647)
    (hQ : ∀ (a : Act) (W' : World), a.defers = a0.defers → a.tmps.size = a0.tmps.size → (∀ t, (takeOps11.toList.all fun o => o.dst != some t) = true → a.tmps.getD t undef = a0.tmps.getD t undef) →
      TI w0 W' lo hi g3 g6 g8 F { G with pages := G.pages.set k would, wear := G.wear.set k (wn) } vp (.slice (some ⟨b2, off2, none⟩) n2 cap2) (.slice (some ⟨gp, 0, none⟩) np capp) (.slice (some ⟨gw, 0, none⟩) nw capw) → Q .normal a W') :
    (Code.region 11 takeOps11 true).wp Tryz.prog Q a0 W := by
  have hc3 := h.c3
  have hc8 := h.c8
  have o3 := h.o3
  have o6 := h.o6
  have o8 := h.o8
  obtain ⟨qc, qf, ql, qh, cur, qg⟩ := h.p'.cell k (strC G.pages[k]) (get_map strC _ _ hkg)
  have hne3 : g3 ≠ gp := by omega
  have hne8 : g8 ≠ gp := by omega
  have hne2 : b2 ≠ gp := by omega
  have hb2 : b2 < W.heap.size := Nat.lt_of_lt_of_le hb20 h.below.size
  have hR := wrote_pre gp k (strC would)
  refine wp_region_rel hR 19 mixed (by rw [hsz]; kernel_rfl) (by kernel_rfl) ?_
  rw [show takeOps11.size - 19 = 2 by kernel_rfl]
  refine ⟨isVal (.pointer (some ⟨g8, 0, none⟩)), RStep.of hR (stabR_val _ _) (by kernel_rfl) (fun w hw => step_field 31 (.tmp 8) 0 ⟨g8, 0, none⟩ ⟨g8, 0, none⟩ (by kernel_rfl) (wanted_none (by kernel_rfl)) (knows_old 8 (.pointer (some ⟨g8, 0, none⟩)) (by kernel_rfl) e8) (field_fl g8 0 (by omega))), ?_⟩
  refine ⟨isVal (.slice (some ⟨gp, 0, none⟩) np capp), RStep.of hR (stabR_val _ _) (by kernel_rfl) (fun w hw => step_read 26 (.tmp 57) ⟨g8, 0, none⟩ (.slice (some ⟨gp, 0, none⟩) np capp) (by kernel_rfl) (wanted_none (by kernel_rfl)) (knows_new (V := isVal (.pointer (some ⟨g8, 0, none⟩))) 57 0 (by kernel_rfl) (by kernel_rfl) (by kernel_rfl)) (hw.cell hc8.2.1 hc8.1 hne8) (Nat.lt_of_lt_of_le hc8.1 hw.size) agg_strs), ?_⟩
  refine ⟨isVal (.int .i64 (k : Int)), RStep.of hR (stabR_val _ _) (by kernel_rfl) (fun w hw => step_move (.tmp 1) (by kernel_rfl) (wanted_none (by kernel_rfl)) (stable_val _) (knows_old 1 (.int .i64 (k : Int)) (by kernel_rfl) e1)), ?_⟩
  refine ⟨isVal (.pointer (some ⟨g8, 1, none⟩)), RStep.of hR (stabR_val _ _) (by kernel_rfl) (fun w hw => step_field 31 (.tmp 8) 1 ⟨g8, 0, none⟩ ⟨g8, 1, none⟩ (by kernel_rfl) (wanted_none (by kernel_rfl)) (knows_old 8 (.pointer (some ⟨g8, 0, none⟩)) (by kernel_rfl) e8) (field_fl g8 1 (by omega))), ?_⟩
  refine ⟨isVal (.slice (some ⟨gw, 0, none⟩) nw capw), RStep.of hR (stabR_val _ _) (by kernel_rfl) (fun w hw => step_read 29 (.tmp 60) ⟨g8, 1, none⟩ (.slice (some ⟨gw, 0, none⟩) nw capw) (by kernel_rfl) (wanted_none (by kernel_rfl)) (knows_new (V := isVal (.pointer (some ⟨g8, 1, none⟩))) 60 3 (by kernel_rfl) (by kernel_rfl) (by kernel_rfl)) (hw.cell hc8.2.2.1 hc8.1 hne8) (Nat.lt_of_lt_of_le hc8.1 hw.size) agg_ints), ?_⟩
  refine ⟨isVal (.int .i64 (k : Int)), RStep.of hR (stabR_val _ _) (by kernel_rfl) (fun w hw => step_move (.tmp 1) (by kernel_rfl) (wanted_none (by kernel_rfl)) (stable_val _) (knows_old 1 (.int .i64 (k : Int)) (by kernel_rfl) e1)), ?_⟩
  refine ⟨isVal (.string ⟨would.toArray⟩), RStep.of hR (stabR_val _ _) (by kernel_rfl) (fun w hw => step_move (.tmp 10) (by kernel_rfl) (wanted_none (by kernel_rfl)) (stable_val _) (knows_old 10 (.string ⟨would.toArray⟩) (by kernel_rfl) e10)), ?_⟩
  refine ⟨isVal (.iface 77 (.agg #[.int .i64 at_, .string ⟨s.toArray⟩])), RStep.of hR (stabR_val _ _) (by kernel_rfl) (fun w hw => step_move (.tmp 2) (by kernel_rfl) (wanted_none (by kernel_rfl)) (stable_val _) (knows_old 2 (.iface 77 (.agg #[.int .i64 at_, .string ⟨s.toArray⟩])) (by kernel_rfl) e2)), ?_⟩
  refine ⟨isVal (.pointer (some ⟨g3, 1, none⟩)), RStep.of hR (stabR_val _ _) (by kernel_rfl) (fun w hw => step_field 31 (.tmp 3) 1 ⟨g3, 0, none⟩ ⟨g3, 1, none⟩ (by kernel_rfl) (wanted_none (by kernel_rfl)) (knows_old 3 (.pointer (some ⟨g3, 0, none⟩)) (by kernel_rfl) e3) (field_fl g3 1 (by omega))), ?_⟩
  refine ⟨isVal (.slice (some ⟨b2, off2, none⟩) n2 cap2), RStep.of hR (stabR_val _ _) (by kernel_rfl) (fun w hw => step_read 29 (.tmp 65) ⟨g3, 1, none⟩ (.slice (some ⟨b2, off2, none⟩) n2 cap2) (by kernel_rfl) (wanted_none (by kernel_rfl)) (knows_new (V := isVal (.pointer (some ⟨g3, 1, none⟩))) 65 8 (by kernel_rfl) (by kernel_rfl) (by kernel_rfl)) (hw.cell hc3.2.2.1 hc3.1 hne3) (Nat.lt_of_lt_of_le hc3.1 hw.size) agg_ints), ?_⟩
  refine ⟨isVal (.int .i64 (k : Int)), RStep.of hR (stabR_val _ _) (by kernel_rfl) (fun w hw => step_move (.tmp 1) (by kernel_rfl) (wanted_none (by kernel_rfl)) (stable_val _) (knows_old 1 (.int .i64 (k : Int)) (by kernel_rfl) e1)), ?_⟩
  refine ⟨isVal (.pointer (some ⟨b2, off2 + k, none⟩)), RStep.of hR (stabR_val _ _) (by kernel_rfl) (fun w hw => step_place 29 3 (.tmp 66) (.tmp 67) b2 off2 n2 cap2 k (by kernel_rfl) (wanted_none (by kernel_rfl)) (knows_new (V := isVal (.slice (some ⟨b2, off2, none⟩) n2 cap2)) 66 9 (by kernel_rfl) (by kernel_rfl) (by kernel_rfl)) (knows_new (V := isVal (.int .i64 (k : Int))) 67 10 (by kernel_rfl) (by kernel_rfl) (by kernel_rfl)) Tryz.underlying29 (by kernel_rfl) hkn2), ?_⟩
  refine ⟨isVal (.int .i64 wn), RStep.of hR (stabR_val _ _) (by kernel_rfl) (fun w hw => step_read 3 (.tmp 68) ⟨b2, off2 + k, none⟩ (.int .i64 wn) (by kernel_rfl) (wanted_none (by kernel_rfl)) (knows_new (V := isVal (.pointer (some ⟨b2, off2 + k, none⟩))) 68 11 (by kernel_rfl) (by kernel_rfl) (by kernel_rfl)) (hw.cell hcell2 hb2 hne2) (Nat.lt_of_lt_of_le hb2 hw.size) agg_int), ?_⟩
  refine ⟨isVal (.func (.method "ouroboros/flash.wear") #[(.iface 77 (.agg #[.int .i64 at_, .string ⟨s.toArray⟩]))] #[]), RStep.of hR (stabR_val _ _) (by kernel_rfl) (fun w hw => step_method "ouroboros/flash.wear" (.tmp 64) (.iface 77 (.agg #[.int .i64 at_, .string ⟨s.toArray⟩])) (by kernel_rfl) (wanted_none (by kernel_rfl)) (knows_new (V := isVal (.iface 77 (.agg #[.int .i64 at_, .string ⟨s.toArray⟩]))) 64 7 (by kernel_rfl) (by kernel_rfl) (by kernel_rfl))), ?_⟩
  refine ⟨isVal (.func (.method "ouroboros/flash.wear") #[(.iface 77 (.agg #[.int .i64 at_, .string ⟨s.toArray⟩]))] #[]), RStep.of hR (stabR_val _ _) (by kernel_rfl) (fun w hw => step_nil "ouroboros/flash.wear" (.tmp 70) 77 (.agg #[.int .i64 at_, .string ⟨s.toArray⟩]) (by kernel_rfl) (wanted_none (by kernel_rfl)) (knows_new (V := isVal (.func (.method "ouroboros/flash.wear") #[(.iface 77 (.agg #[.int .i64 at_, .string ⟨s.toArray⟩]))] #[])) 70 13 (by kernel_rfl) (by kernel_rfl) (by kernel_rfl)) (fun w => by kernel_rfl)), ?_⟩
  refine ⟨isVal (.iface 77 (.agg #[.int .i64 at_, .string ⟨s.toArray⟩])), RStep.of hR (stabR_val _ _) (by kernel_rfl) (fun w hw => step_move (.tmp 64) (by kernel_rfl) (wanted_none (by kernel_rfl)) (stable_val _) (knows_new (V := isVal (.iface 77 (.agg #[.int .i64 at_, .string ⟨s.toArray⟩]))) 64 7 (by kernel_rfl) (by kernel_rfl) (by kernel_rfl))), ?_⟩
  refine ⟨isVal (.int .i64 wn), RStep.of hR (stabR_val _ _) (by kernel_rfl) (fun w hw => step_invoke "ouroboros/flash.wear" (.tmp 72) (.iface 77 (.agg #[.int .i64 at_, .string ⟨s.toArray⟩])) 171 #[.tmp 69] #[3] #[.int .i64 wn] #[.agg #[.int .i64 at_, .string ⟨s.toArray⟩], .int .i64 wn] (by kernel_rfl) (wanted_none (by kernel_rfl)) (stable_val _) (args1 (.tmp 69) (.int .i64 wn) (knows_new (V := isVal (.int .i64 wn)) 69 12 (by kernel_rfl) (by kernel_rfl) (by kernel_rfl))) (knows_new (V := isVal (.iface 77 (.agg #[.int .i64 at_, .string ⟨s.toArray⟩]))) 72 15 (by kernel_rfl) (by kernel_rfl) (by kernel_rfl)) (fun w => by kernel_rfl) (by intro w hb; exact call_pwear at_ s wn w)), ?_⟩
  refine ⟨isVal (.pointer (some ⟨gp, 0 + k, none⟩)), RStep.of hR (stabR_val _ _) (by kernel_rfl) (fun w hw => step_place 26 9 (.tmp 58) (.tmp 59) gp 0 np capp k (by kernel_rfl) (wanted_none (by kernel_rfl)) (knows_new (V := isVal (.slice (some ⟨gp, 0, none⟩) np capp)) 58 1 (by kernel_rfl) (by kernel_rfl) (by kernel_rfl)) (knows_new (V := isVal (.int .i64 (k : Int))) 59 2 (by kernel_rfl) (by kernel_rfl) (by kernel_rfl)) Tryz.underlying26 (by kernel_rfl) hknp), ?_⟩
  refine ⟨rowIs gp 9 (cur.setIfInBounds k (strC would)), RStep.store 9 (.tmp 74) (.tmp 63) ⟨gp, 0 + k, none⟩ (strC would) (by kernel_rfl) (knows_new (V := isVal (.pointer (some ⟨gp, 0 + k, none⟩))) 74 17 (by kernel_rfl) (by kernel_rfl) (by kernel_rfl)) (knows_new (V := isVal (.string ⟨would.toArray⟩)) 63 6 (by kernel_rfl) (by kernel_rfl) (by kernel_rfl)) (by kernel_rfl) rfl rfl (stabR_row _ _ _ _ _) ?_, ?_⟩
  · intro w hw
    rw [Nat.zero_add]
    rcases hw.row cur _ qg with hr | hr
    · refine ⟨⟨strC G.pages[k], ?_⟩, by simp [World.frozen?, hr], heap_setCell_same w gp k cur _ _ hr, Wrote.set hr⟩
      have := qc
      simp only [World.cell?, qg] at this
      simp only [World.cell?, hr]
      exact this
    · refine ⟨⟨strC would, ?_⟩, by simp [World.frozen?, hr], ?_, Wrote.set hr⟩
      · have := qc
        simp only [World.cell?, qg] at this
        simp only [World.cell?, hr]
        have hlt : k < cur.size := by
          by_cases e : k < cur.size
          · exact e
          · simp [Array.getElem?_eq_none (by omega : cur.size ≤ k)] at this
        simp [hlt]
      · have := heap_setCell_same w gp k _ _ (strC would) hr
        rw [set_twice] at this
        exact this
  intro a w hk0 hw hd
  have hk := hk0.f
  have d18 := rdone_none (hd 18 (by decide)) (V := rowIs gp 9 (cur.setIfInBounds k (strC would))) (by kernel_rfl) (by kernel_rfl)
  have d73 := rdone_of (hd 16 (by decide)) (t := 73) (V := isVal (.int .i64 (wn))) (by kernel_rfl) (by kernel_rfl)
  have d61 := rdone_of (hd 4 (by decide)) (t := 61) (V := isVal (.slice (some ⟨gw, 0, none⟩) nw capw)) (by kernel_rfl) (by kernel_rfl)
  have d62 := rdone_of (hd 5 (by decide)) (t := 62) (V := isVal (.int .i64 (k : Int))) (by kernel_rfl) (by kernel_rfl)
  have hs75 : 75 < a.tmps.size := by rw [hk.2.1, hsz]; decide
  have T2 := (h.page k hkg would).grow (hw.below qg d18)
  refine tail_place 29 3 (.tmp 61) (.tmp 62) gw 0 nw capw k 75 (by kernel_rfl) (by kernel_rfl) d61 d62 Tryz.underlying29 (by kernel_rfl) hknw ?_
  rw [Nat.zero_add]
  obtain ⟨q3, q4, _⟩ := T2.q'.cell k (intC G.wear[k]) (get_map intC _ _ hkw)
  refine tail_store 3 (.tmp 75) (.tmp 73) ⟨gw, k, none⟩ (intC (wn)) _ (by kernel_rfl) (by kernel_rfl) (getD_put_self hs75) ((getD_put (by decide)).trans d73) (by kernel_rfl) rfl rfl q3 q4 ?_
  refine hQ _ _ ((defers_put (a := a)).trans hk.1) ((size_put (a := a)).trans hk.2.1) (fun t ht => ?_) (T2.wear k hkw (wn))
  have hall : (takeOps11.toList.all fun o => o.dst != some 75) = false := by kernel_rfl
  rw [getD_put (fun e => by rw [e, hall] at ht; cases ht)]
  exact hk.2.2 t ht
end Go.Proofs.YtipiioggdalkoaaGreatDoor
end
