/- Joined texts: contracts of the program's functions, and the mathematics that they lean on. -/
import Derived.Test.YtpjafjnokgeifaaPartA
import Derived.RegionTactic
section
namespace Go.Proofs.Ytpjafjnokgeifaa
open Go.RowKit
set_option linter.unusedVariables false

set_option maxHeartbeats 400000 in
theorem refOnes_none (n : Int) (w : World) (h : n ≤ 0 ∨ 100000 < n) :
    Calls Try.prog 42 #[.int .i64 n] w fun e w' => e = .returned (.string ⟨#[]⟩) ∧ w = w' := by
  have hbk := fun W => run_convert_bytes_nil (P := Try.prog) (w := W) 46 5 Try.underlying46 Try.underlying5 0 0 9 Try.underlying9
  by_cases h0 : 0 < n
  · have h1 : decide (n ≤ 100000) = false := by simp; omega
    go_enter Try.func42, Try.ntmps42
    go_wp2
    refine wp_loop_rounds 1 ?_; rw [rounds_succ]
    go_wp2
    go_ret
    exact ⟨rfl, rfl⟩
  · have h1 : decide (0 < n) = false := by simp; omega
    go_enter Try.func42, Try.ntmps42
    go_wp2
    refine wp_loop_rounds 1 ?_; rw [rounds_succ]
    go_wp2
    go_ret
    exact ⟨rfl, rfl⟩

set_option maxHeartbeats 400000 in
theorem refOnes_some (n : Nat) (w : World) (hn : n ≤ 100000) :
    Calls Try.prog 42 #[.int .i64 (n : Int)] w fun e w' => e = .returned (.string ⟨(List.replicate n 255).toArray⟩) ∧ Below w.heap.size w w' := by
  obtain ⟨i0, hi, hz0, hz1, hz2⟩ := info_parts Try.infoU8
  have hn2 : decide ((n : Int) ≤ 100000) = true := by simp; omega
  go_enter Try.func42, Try.ntmps42
  go_wp2
  go_loopw [3, 4] (fun v i wr => ∃ k : Nat, k ≤ n ∧ i = .int .i64 k ∧ OwnB wr w.heap.size 5 v (List.replicate k 255) ∧ Below w.heap.size w wr) (fun _ i _ => n - (intOf i).toNat)
  case atStart => exact ⟨0, Nat.zero_le _, rfl, OwnB.nil _ _ _, Below.refl _ _⟩
  case round =>
    obtain ⟨k, hk, rfl, hown, hbel⟩ := hrel
    by_cases hlt : k < n
    · have hlen : (List.replicate k (255 : UInt8)).length = k := by simp
      have hbs := hown.size_le
      have HS := Lib.hid (show List.replicate (k + 1) (255 : UInt8) = List.replicate k 255 ++ [255] from List.replicate_succ')
      generalize List.replicate k (255 : UInt8) = l at *
      have HO := Lib.hid hown
      have HBS := Lib.hid hbs
      have HL := Lib.hid hlen
      have hll : l.length ≤ 100000 := by omega
      clear hown hbs hlen
      go_wp2_with (at_builtin; refine wpList_append_own _ rfl _ _ 46 rfl w.heap.size 5 i0 (.int .u8 0) 1 1 Try.underlying46 hi hz0 hz1 hz2 rfl (by decide) _ _ _ rfl (HO.out.alloc _) ⟨wr.heap.size, 0, none⟩ 1 1 [.int .u8 255] rfl rfl ?c1 ?c2 ?c3 ?c4 ?c5 ?_)
      case c1 => exact cell_one_new _ _ _
      case c2 => intro u hu; simp at hu; subst hu; rfl
      case c3 => unfold maxLen; omega
      case c4 => omega
      case c5 => have := hbel.size; simp; omega
      · intro v' w1 hown' hgrow _
        have hB1 : Below w.heap.size w w1 := (hbel.alloc (by have := hbel.size; omega) _).grown hgrow (by have := hbel.size; simp; omega) HBS.out
        have HO1 : Hid (OwnB w1 w.heap.size 5 v' (List.replicate (k + 1) 255)) := by
          show OwnB _ _ _ _ _
          rw [HS.out]
          have e : l.length + 1 = (l ++ [255]).length := by simp
          rw [e] at hown'
          have e2 : encB l ++ [Value.int .u8 255] = encB (l ++ [255]) := encB_snoc l 255
          rw [e2] at hown'
          exact hown'
        clear hown' hgrow
        go_wp2
        go_roundw
        case rel => exact ⟨k + 1, by omega, by go_num, HO1.out, hB1⟩
        case measure => simp [intOf]; omega
    · have hbk := hown.back (P := Try.prog) 46 9 Try.underlying46 Try.underlying5 Try.underlying9
      have HO := Lib.hid hown
      have hd : decide ((k : Int) < (n : Int)) = false := by simp; omega
      clear hown
      obtain rfl : k = n := by omega
      generalize hr : List.replicate k (255 : UInt8) = l at *
      have HR := Lib.hid hr
      clear hr
      go_wp2
      go_ret
      exact ⟨ret_str HR.out.symm, hbel⟩

theorem refOnes_any (n : Int) (w : World) :
    Calls Try.prog 42 #[.int .i64 n] w fun e w' => e = .returned (.string ⟨(onesL n).toArray⟩) ∧ Below w.heap.size w w' := by
  by_cases h : 0 < n ∧ n ≤ 100000
  · obtain ⟨m, rfl⟩ := Int.eq_ofNat_of_zero_le (show 0 ≤ n by omega)
    refine (refOnes_some m w (by omega)).mono ?_
    rintro e w' ⟨rfl, hb⟩
    exact ⟨by rw [show onesL (m : Int) = List.replicate m 255 by unfold onesL; rw [if_pos (by omega), Int.toNat_natCast]], hb⟩
  · refine (refOnes_none n w (by omega)).mono ?_
    rintro e w' ⟨rfl, rfl⟩
    refine ⟨?_, Below.refl _ _⟩
    have : onesL n = [] := by
      unfold onesL
      split
      · have : n = 0 := by omega
        subst this; rfl
      · rfl
    rw [this]

theorem not_of_xor : ∀ l : List UInt8, pairL (· ^^^ ·) (List.replicate l.length 255) l = notL l
  | [] => rfl
  | x :: r => by
    have := not_of_xor r
    simp only [notL, List.length_cons, List.replicate_succ, pairL, List.map_cons] at this ⊢
    rw [this, show (255 : UInt8) = -1 from rfl, UInt8.neg_one_xor]

theorem pop_half (c : Nat) (h : c < 256) : Lib.onesCount c = c % 2 + Lib.onesCount (c / 2) := by
  have h' : ∀ n : Fin 256, Lib.onesCount n.val = n.val % 2 + Lib.onesCount (n.val / 2) := by decide +kernel
  exact h' ⟨c, h⟩
theorem pop_le8 (c : Nat) (h : c < 256) : Lib.onesCount c ≤ 8 := Lib.onesCount_le8 ⟨c, h⟩

end Go.Proofs.Ytpjafjnokgeifaa
end
section
namespace Go.Proofs.Ytpjafjnokgeifaa
open Go.RowKit
set_option linter.unusedVariables false
set_option linter.unusedSimpArgs false
attribute [local irreducible] setN

theorem maskL_succ (torn : List UInt8) (k : Nat) : maskL torn (k + 1) = maskL torn k ++ [torn.getD (k % torn.length) 0] := by
  unfold maskL; rw [List.range_succ, List.map_append]; rfl
end Go.Proofs.Ytpjafjnokgeifaa
end
section
namespace Go.Proofs.Ytpjafjnokgeifaa
open Go.RowKit
set_option linter.unusedVariables false
set_option linter.unusedSimpArgs false

/-- What may happen to memory. -/
structure Pre (R : World → World → Prop) : Prop where
  refl : ∀ w, R w w
  trans : ∀ a b c, R a b → R b c → R a c
  grow : ∀ w w', Below w.heap.size w w' → R w w'
  drew : ∀ w, R w w.drew
/-- What the first k operations do not write is as it was. -/
def FKeptN (ops : Array Oper) (k : Nat) (a0 a : Act) : Prop := a.defers = a0.defers ∧ a.tmps.size = a0.tmps.size ∧ ∀ t, ((List.range k).all fun i => (ops[i]?).all fun o => o.dst != some t) = true → a.tmps.getD t undef = a0.tmps.getD t undef
theorem FKeptN.f {ops : Array Oper} {k : Nat} {a0 a : Act} (h : FKeptN ops k a0 a) : FKept ops a0 a := by
  refine ⟨h.1, h.2.1, fun t ht => h.2.2 t ?_⟩
  rw [List.all_eq_true]
  intro i _
  cases ho : ops[i]? with
  | none => rfl
  | some o => exact List.all_eq_true.1 ht o (by rw [Array.mem_toList_iff]; exact Array.mem_of_getElem? ho)
def StableR (R : World → World → Prop) (V : VP) : Prop := ∀ v w w', V v w → R w w' → V v w'

section
variable (R : World → World → Prop) (P : Program) (ops : Array Oper) (base : World) (a0 : Act) (Q : Exit → Act → World → Prop)
/-- What operation j yielded, or did, is as it should be. -/
def RDone (kn : Nat → VP) (a : Act) (w : World) (j : Nat) : Prop := ∀ o, ops[j]? = some o → kn j (match o.dst with | some t => a.tmps.getD t undef | none => undef) w
def RDeps (kn : Nat → VP) (i : Nat) (a : Act) (w : World) : Prop := ∀ o, ops[i]? = some o → ∀ e ∈ o.after.toList, Region.binds .any e = true → RDone ops kn a w e.on
def RStep (k0 : Nat) (kn : Nat → VP) (i : Nat) (V : VP) : Prop := StableR R V ∧ ∀ o, ops[i]? = some o → ∀ a w, FKeptN ops k0 a0 a → R base w → RDeps ops kn i a w →
  wpOp P ops Q i (fun a' w' => ∃ v, a' = a.put o.dst v ∧ (o.dst = none → v = undef) ∧ V v w' ∧ R w w') a w
def RelTail (k0 c : Nat) : Nat → Nat → (Nat → VP) → Prop
  | 0, _, kn => ∀ a w, FKeptN ops k0 a0 a → R base w → (∀ j, j < k0 → RDone ops kn a w j) → Tail P ops Q c k0 a w
  | k + 1, i, kn => ∃ V, RStep R P ops base a0 Q k0 kn i V ∧ RelTail k0 c k (i + 1) (upd kn i V)
end

section
variable {R : World → World → Prop} {P : Program} {ops : Array Oper} {base : World} {a0 : Act} {Q : Exit → Act → World → Prop}
theorem rdone_congr {kn kn' : Nat → VP} {a : Act} {w : World} {j : Nat} (h : kn j = kn' j) (hd : RDone ops kn a w j) : RDone ops kn' a w j := by
  intro o ho
  rw [← h]
  exact hd o ho
theorem rdone_f {kn : Nat → VP} {a : Act} {w : World} {j : Nat} (h : RDone ops kn a w j) : FDone ops kn a w j := by
  intro o ho t ht
  have := h o ho
  rwa [ht] at this
/-- An operation that only reads, or makes memory. -/
theorem RStep.of {k0 : Nat} {kn : Nat → VP} {i : Nat} {V : VP} (hR : Pre R) (hst : StableR R V) (hd : ((ops[i]?).bind (·.dst)).isSome = true) (h : ∀ w, R base w → FStep P ops w a0 Q kn i V) : RStep R P ops base a0 Q k0 kn i V := by
  refine ⟨hst, fun o ho a w hk hb hdp => ?_⟩
  refine wpOp_mono ?_ ((h w hb).2 o ho a w hk.f (Below.refl _ _) (fun o' ho' e he hbd => rdone_f (hdp o' ho' e he hbd)))
  rintro a' w' ⟨v, e, hV, hbw⟩
  refine ⟨v, e, fun hn => ?_, hV, hR.grow _ _ hbw⟩
  rw [ho] at hd
  simp [hn] at hd

theorem wpAny_relTail {k0 : Nat} (hR : Pre R) (hok : flowOk ops a0.tmps.size = true) (ht : tailOk ops k0 = true) {kn : Nat → VP} (hs : ∀ m, m < k0 → RStep R P ops base a0 Q k0 kn m (kn m))
    (he : RelTail R P ops base a0 Q k0 (ops.size - k0) 0 k0 kn) :
    ∀ (u fuel : Nat) (listed : Array Bool) (a : Act) (w : World), listed.size = ops.size → ((List.range k0).filter fun i => !listed.getD i false).length ≤ u → u + (ops.size - k0) ≤ fuel → (∀ j, k0 ≤ j → listed.getD j false = false) →
      FKeptN ops k0 a0 a → R base w → (∀ j, listed.getD j false = true → RDone ops kn a w j) → wpAny P .any ops Q fuel listed a w := by
  obtain ⟨ok1, ok2, ok3⟩ := flowOk_spec hok
  have hk0 : k0 ≤ ops.size := by unfold tailOk at ht; simp only [Bool.and_eq_true, decide_eq_true_eq] at ht; exact ht.1
  have tk : ∀ j, j < ops.size → k0 < j → waits ops j (j - 1) = true := by
    intro j hj hk
    unfold tailOk at ht
    simp only [Bool.and_eq_true, List.all_eq_true, List.mem_range] at ht
    have := ht.2 j hj
    rwa [if_neg (by omega), if_neg (by omega)] at this
  have tk0 : ∀ m, k0 < ops.size → m < k0 → waits ops k0 m = true := by
    intro m hj hk
    unfold tailOk at ht
    simp only [Bool.and_eq_true, List.all_eq_true, List.mem_range] at ht
    have := ht.2 k0 hj
    rw [if_neg (by omega), if_pos rfl] at this
    exact List.all_eq_true.1 this m (by simpa using hk)
  intro u
  induction u with
  | zero =>
    intro fuel listed a w hl hu hf htl hk hb hd
    have hall : ∀ j, j < k0 → listed.getD j false = true := by
      intro j hj
      have h0 : ((List.range k0).filter fun i => !listed.getD i false) = [] := List.eq_nil_of_length_eq_zero (by omega)
      rw [List.filter_eq_nil_iff] at h0
      have := h0 j (by simpa using hj)
      simpa using this
    refine wpAny_tail hok ht (ops.size - k0) k0 fuel listed a w (by omega) (Nat.le_refl _) (by omega) hl ?_ (he a w hk hb (fun j hj => hd j (hall j hj)))
    intro j hj
    by_cases e : j < k0
    · rw [hall j e]; simp [e]
    · rw [htl j (by omega)]; simp [e]
  | succ u ih =>
    intro fuel listed a w hl hu hf htl hk hb hd
    by_cases hall : ∀ j, j < k0 → listed.getD j false = true
    · refine wpAny_tail hok ht (ops.size - k0) k0 fuel listed a w (by omega) (Nat.le_refl _) (by omega) hl ?_ (he a w hk hb (fun j hj => hd j (hall j hj)))
      intro j hj
      by_cases e : j < k0
      · rw [hall j e]; simp [e]
      · rw [htl j (by omega)]; simp [e]
    · -- the least that is not yet done
      have hex : ∃ m, m < k0 ∧ listed.getD m false = false ∧ ∀ j, j < m → listed.getD j false = true := by
        have key : ∀ n, n ≤ k0 → (∀ j, j < n → listed.getD j false = true) ∨ ∃ m, m < n ∧ listed.getD m false = false ∧ ∀ j, j < m → listed.getD j false = true := by
          intro n
          induction n with
          | zero => intro _; exact .inl (fun j hj => absurd hj (by omega))
          | succ n ihn =>
            intro hn
            rcases ihn (by omega) with h | ⟨m, hm, h1, h2⟩
            · cases hc : listed.getD n false with
              | true => exact .inl (fun j hj => by by_cases e : j = n; exact e ▸ hc; exact h j (by omega))
              | false => exact .inr ⟨n, by omega, hc, h⟩
            · exact .inr ⟨m, by omega, h1, h2⟩
        rcases key k0 (Nat.le_refl _) with h | h
        · exact absurd h hall
        · exact h
      obtain ⟨m, hm, hmu, hmd⟩ := hex
      have hmem : m ∈ Region.ready .any ops listed := ready_of hok hl (by omega) hmu hmd
      cases fuel with
      | zero => omega
      | succ fuel =>
        refine ⟨fun hr => (by rw [hr] at hmem; cases hmem), fun i hi => ?_⟩
        have hiu := ready_un hl hi
        have hik : i < k0 := by
          by_cases e : i < k0
          · exact e
          · exfalso
            by_cases e2 : i = k0
            · subst e2
              have := waits_ready hi (tk0 m hiu.1 hm)
              rw [hmu] at this
              cases this
            · have := waits_ready hi (tk i hiu.1 (by omega))
              rw [htl (i - 1) (by omega)] at this
              cases this
        obtain ⟨o, ho⟩ : ∃ o, ops[i]? = some o := ⟨_, Array.getElem?_eq_getElem hiu.1⟩
        have hstep := (hs i hik).2 o ho a w hk hb (by
          intro o' ho' e he' hbd
          rw [ho] at ho'
          cases ho'
          refine hd e.on (waits_ready hi ?_)
          unfold waits
          rw [ho]
          simp only [Option.any_some, List.any_eq_true, Bool.and_eq_true, beq_iff_eq]
          exact ⟨e, he', rfl, hbd⟩)
        refine wpOp_mono ?_ hstep
        rintro a' w' ⟨v, rfl, hvn, hV, hbw⟩
        refine ih fuel (listed.setIfInBounds i true) _ w' (by simpa using hl) ?_ (by omega) ?_ ?_ (hR.trans _ _ _ hb hbw) ?_
        · have hsub : ((List.range k0).filter fun j => !(listed.setIfInBounds i true).getD j false).length < ((List.range k0).filter fun j => !listed.getD j false).length := by
            have e1 : ((List.range k0).filter fun j => !(listed.setIfInBounds i true).getD j false) = ((List.range k0).filter fun j => !listed.getD j false).filter (fun j => j != i) := by
              rw [List.filter_filter]
              apply List.filter_congr
              intro j hj
              by_cases e : j = i
              · subst e; rw [getD_set_same (by omega)]; simp
              · rw [getD_set_ne e]; simp [e]
            rw [e1]
            refine List.length_filter_lt_length_iff_exists.2 ⟨i, ?_, by simp⟩
            simp only [List.mem_filter, List.mem_range]
            exact ⟨hik, by rw [hiu.2]; rfl⟩
          omega
        · intro j hj
          rw [getD_set_ne (by omega)]
          exact htl j hj
        · refine ⟨by rw [defers_put]; exact hk.1, by rw [size_put]; exact hk.2.1, fun t ht' => ?_⟩
          cases hdst : o.dst with
          | none => simp only [Act.put]; exact hk.2.2 t ht'
          | some s =>
            have : s ≠ t := by
              rintro rfl
              have := List.all_eq_true.1 ht' i (by simpa using hik)
              rw [ho] at this
              simp [hdst] at this
            rw [getD_put (fun h => this h.symm)]
            exact hk.2.2 t ht'
        · intro j hj o' ho'
          by_cases e : j = i
          · subst e
            rw [ho] at ho'
            cases ho'
            cases hdst : o.dst with
            | none => rw [hvn hdst] at hV; exact hV
            | some t =>
              show kn j (_) w'
              simp only []
              rw [getD_put_self (by rw [hk.2.1]; exact ok3 j o t ho hdst)]
              exact hV
          · rw [getD_set_ne e] at hj
            have hold := hd j hj o' ho'
            have hjk : j < k0 := by
              by_cases e2 : j < k0
              · exact e2
              · rw [htl j (by omega)] at hj; cases hj
            refine (hs j hjk).1 _ _ _ ?_ hbw
            cases hdst' : o'.dst with
            | none => rw [hdst'] at hold; exact hold
            | some t =>
              rw [hdst'] at hold
              have hne : o.dst ≠ some t := fun hh => e (ok2 j i o' o t ho' ho hdst' hh)
              have hslot : (a.put o.dst v).tmps.getD t undef = a.tmps.getD t undef := by
                cases hdst : o.dst with
                | none => rfl
                | some s => exact getD_put (fun h => hne (by rw [hdst, h]))
              simp only [hslot]
              exact hold

theorem relTail_family {n k0 c : Nat} (hok : flowOk ops n = true) : ∀ k i kn, i + k = k0 → (∀ m, m < i → RStep R P ops base a0 Q k0 kn m (kn m)) → RelTail R P ops base a0 Q k0 c k i kn →
    ∃ kn', (∀ m, m < k0 → RStep R P ops base a0 Q k0 kn' m (kn' m)) ∧ RelTail R P ops base a0 Q k0 c 0 k0 kn'
  | 0, i, kn, hi, hs, hf => ⟨kn, fun m hm => hs m (by omega), hf⟩
  | k + 1, i, kn, hi, hs, ⟨V, hV, hf⟩ => by
    have agree : ∀ m, m ≠ i → upd kn i V m = kn m := fun m hm => by simp [upd, hm]
    have self : upd kn i V i = V := by simp [upd]
    have shift : ∀ m W, m ≤ i → RStep R P ops base a0 Q k0 kn m W → RStep R P ops base a0 Q k0 (upd kn i V) m W := by
      intro m W hm h
      refine ⟨h.1, fun o ho a w hk hb hd => h.2 o ho a w hk hb ?_⟩
      intro o' ho' e he hbd
      have hlt := (flowOk_spec hok).1 m o' ho' e he hbd
      exact rdone_congr (agree e.on (by omega)) (hd o' ho' e he hbd)
    refine relTail_family hok k (i + 1) (upd kn i V) (by omega) (fun m hm => ?_) hf
    by_cases hmi : m = i
    · subst hmi; rw [self]; exact shift m V (Nat.le_refl _) hV
    · rw [agree m hmi]; exact shift m _ (by omega) (hs m (by omega))

/-- THE LAW. -/
theorem wp_region_rel (hR : Pre R) (k0 : Nat) {id : Nat} {a : Act} {w : World} (hm : P.follows .mixedOrders = true) (hok : flowOk ops a.tmps.size = true) (ht : tailOk ops k0 = true)
    (h : RelTail R P ops w a Q k0 (ops.size - k0) k0 0 (fun _ _ _ => False)) : (Code.region id ops true).wp P Q a w := by
  refine wp_region_any hm ?_
  obtain ⟨kn, hs, he⟩ := relTail_family hok k0 0 _ (by omega) (fun m hm => absurd hm (by omega)) h
  have hk0 : k0 ≤ ops.size := by unfold tailOk at ht; simp only [Bool.and_eq_true, decide_eq_true_eq] at ht; exact ht.1
  refine wpAny_relTail hR hok ht hs he k0 ops.size _ a _ (by simp) ?_ (by omega) ?_ ⟨rfl, rfl, fun _ _ => rfl⟩ (hR.drew w) ?_
  · exact Nat.le_trans (List.length_filter_le _ _) (by simp)
  · intro j hj
    simp [Array.getD_eq_getD_getElem?, Array.getElem?_replicate]
    split <;> rfl
  · intro j hj
    simp [Array.getD_eq_getD_getElem?, Array.getElem?_replicate] at hj
    split at hj <;> simp at hj
end
end Go.Proofs.Ytpjafjnokgeifaa
end
section
namespace Go.Proofs.Ytpjafjnokgeifaa
open Go.RowKit
set_option linter.unusedVariables false
set_option linter.unusedSimpArgs false

theorem eFits_any (n : Int) (w : World) : Calls Try.prog 122 #[.agg #[], .int .i64 n] w fun e w' => e = .returned (.bool true) ∧ Below w.heap.size w w' := by
  go_enter Try.func122, Try.ntmps122
  go_wp2
  go_ret
  exact ⟨rfl, (Below.refl _ _).alloc (Nat.le_refl _) _⟩
set_option maxHeartbeats 400000 in
theorem ePage_any (was : List UInt8) (w : World) (h : was.length ≤ 100000) : Calls Try.prog 123 #[.agg #[], .string ⟨was.toArray⟩] w fun e w' => e = .returned (.string ⟨(List.replicate was.length 255).toArray⟩) ∧ Below w.heap.size w w' := by
  have hsz : (⟨was.toArray⟩ : ByteArray).size = was.length := size_mk was
  have H := Lib.hid (show onesL (was.length : Int) = List.replicate was.length 255 by unfold onesL; rw [if_pos (by omega), Int.toNat_natCast])
  go_enter Try.func123, Try.ntmps123
  go_wp2_with fail
  refine (ones_any _ _).mono ?_
  rintro e w' ⟨rfl, hb⟩
  rw [H.out]
  go_wp2
  go_ret
  exact ⟨rfl, ((Below.refl w.heap.size w).alloc (Nat.le_refl _) _).trans (hb.mono (by simp))⟩
def wornN (n : Int) : Int := if n + 1 ≤ 2147483647 then n + 1 else 2147483647
set_option maxHeartbeats 400000 in
theorem eWear_any (n : Int) (w : World) (h0 : 0 ≤ n) (h1 : n ≤ 2147483647) : Calls Try.prog 124 #[.agg #[], .int .i64 n] w fun e w' => e = .returned (.int .i64 (wornN n)) ∧ Below w.heap.size w w' := by
  have hmin : ∀ (ts : Array TypeId) (t : TypeId) (W : World), (Builtin.min_ ts t #[.int .i64 (n + 1), .int .i64 2147483647]).run Try.prog W = .ok (.int .i64 (wornN n)) W := by
    intro ts t W
    rw [run_min_int2]
    unfold wornN
    congr 2
    split <;> split <;> omega
  go_enter Try.func124, Try.ntmps124
  go_wp2
  go_ret
  exact ⟨rfl, (Below.refl _ _).alloc (Nat.le_refl _) _⟩
theorem pWear_any (v : Value) (n : Int) (w : World) (at_ : Int) (s : List UInt8) : Calls Try.prog 121 #[.agg #[.int .i64 at_, .string ⟨s.toArray⟩], .int .i64 n] w fun e w' => e = .returned (.int .i64 n) ∧ Below w.heap.size w w' := by
  go_enter Try.func121, Try.ntmps121
  go_wp2
  go_ret
  exact ⟨rfl, (Below.refl _ _).alloc (Nat.le_refl _) _⟩
set_option maxHeartbeats 400000 in
theorem pFits_any (at_ : Int) (s : List UInt8) (n : Int) (w : World) (hs : s.length ≤ 1000000000) (h2 : -1000000000000 ≤ n) (h3 : n ≤ 1000000000000) :
    Calls Try.prog 119 #[.agg #[.int .i64 at_, .string ⟨s.toArray⟩], .int .i64 n] w fun e w' => e = .returned (.bool (decide (0 ≤ at_) && decide (at_ ≤ n - s.length))) ∧ Below w.heap.size w w' := by
  go_enter Try.func119, Try.ntmps119
  go_wp2_with fail
  refine (stands_any s at_ n _ hs h2 h3).mono ?_
  rintro e w' ⟨rfl, rfl⟩
  obtain ⟨z, hz⟩ : ∃ z, z = (decide (0 ≤ at_) && decide (at_ ≤ n - (s.length : Int))) := ⟨_, rfl⟩
  rw [← hz]
  have HZ := Lib.hid hz
  clear hz
  go_wp2
  go_ret
  exact ⟨by rw [← HZ.out]; rfl, (Below.refl _ _).alloc (Nat.le_refl _) _⟩

theorem field_pr (g k : Nat) (hk : k < 2) (w : World) : (Instr.fieldAt 67 (.pointer (some ⟨g, 0, none⟩)) k).run Try.prog w = .ok (.pointer (some ⟨g, k, none⟩)) w := by
  have h : k = 0 ∨ k = 1 := by omega
  rcases h with rfl | rfl <;> simp [Instr.fieldAt, run_underlying Try.underlying67, Instr.sureAddr, fieldPlace, Addr.add]
/-- A page that was programmed. -/
def progL (was : List UInt8) (k : Nat) (s : List UInt8) : List UInt8 := was.take k ++ pairL (· &&& ·) (was.drop k) s
theorem length_progL (was : List UInt8) (k : Nat) (s : List UInt8) : (progL was k s).length = was.length := by
  unfold progL
  rw [List.length_append, length_pairL, ← List.length_append, List.take_append_drop]
theorem call_and (t d : List UInt8) (ht : t.length ≤ 1000000000) (hd : d.length ≤ 1000000000) (w : World) :
    Calls Try.prog 93 #[.string ⟨t.toArray⟩, .string ⟨d.toArray⟩] w fun e w' => ∃ v, e = .returned v ∧ isVal (.string ⟨(pairL (· &&& ·) t d).toArray⟩) v w' ∧ Below w.heap.size w w' :=
  (and_l t d w ht hd).mono (by rintro e w' ⟨rfl, hb⟩; exact ⟨_, rfl, rfl, hb⟩)
noncomputable def ppOps : Array Oper := regionOf Try.f120 1
set_option maxRecDepth 100000 in
set_option maxHeartbeats 1000000 in
theorem pPage_region (Q : Exit → Act → World → Prop) (a0 : Act) (w0 : World) (hsz : a0.tmps.size = 17) (was s : List UInt8) (k g : Nat) (hk : k ≤ was.length) (h1 : was.length ≤ 1000000) (h2 : s.length ≤ 1000000)
    (e1 : a0.tmps.getD 1 undef = .string ⟨was.toArray⟩) (e2 : a0.tmps.getD 2 undef = .pointer (some ⟨g, 0, none⟩)) (hg : g < w0.heap.size) (c0 : w0.cell? ⟨g, 0, none⟩ = some (.int .i64 (k : Int))) (c1 : w0.cell? ⟨g, 1, none⟩ = some (.string ⟨s.toArray⟩))
    (hQ : ∀ (a : Act) (w : World), a.defers = a0.defers → a.tmps.getD 4 undef = .string ⟨(progL was k s).toArray⟩ → Below w0.heap.size w0 w → Q .normal a w) :
    (Code.region 1 ppOps true).wp Try.prog Q a0 w0 := by
  have hdl : (was.drop k).length ≤ 1000000000 := by rw [List.length_drop]; omega
  refine wp_region_flow mixed (by rw [hsz]; kernel_rfl) ?_
  rw [show ppOps.size = 13 by kernel_rfl]
  refine ⟨isVal (.string ⟨was.toArray⟩), step_move (.tmp 1) (by kernel_rfl) (wanted_none (by kernel_rfl)) (stable_val _) (knows_old 1 (.string ⟨was.toArray⟩) (by kernel_rfl) e1), ?_⟩
  refine ⟨isVal (.pointer (some ⟨g, 0, none⟩)), step_field 67 (.tmp 2) 0 ⟨g, 0, none⟩ ⟨g, 0, none⟩ (by kernel_rfl) (wanted_none (by kernel_rfl)) (knows_old 2 (.pointer (some ⟨g, 0, none⟩)) (by kernel_rfl) e2) (field_pr g 0 (by omega)), ?_⟩
  refine ⟨isVal (.int .i64 (k : Int)), step_read 3 (.tmp 6) ⟨g, 0, none⟩ (.int .i64 (k : Int)) (by kernel_rfl) (wanted_none (by kernel_rfl)) (knows_new (V := isVal (.pointer (some ⟨g, 0, none⟩))) 6 1 (by kernel_rfl) (by kernel_rfl) (by kernel_rfl)) c0 hg agg_int, ?_⟩
  refine ⟨isVal (.string ⟨(was.take k).toArray⟩), step_head 9 (.tmp 5) (.tmp 7) was k (by kernel_rfl) (wanted_none (by kernel_rfl)) (knows_new (V := isVal (.string ⟨was.toArray⟩)) 5 0 (by kernel_rfl) (by kernel_rfl) (by kernel_rfl)) (knows_new (V := isVal (.int .i64 (k : Int))) 7 2 (by kernel_rfl) (by kernel_rfl) (by kernel_rfl)) (head_str was k hk), ?_⟩
  refine ⟨isVal (.string ⟨was.toArray⟩), step_move (.tmp 1) (by kernel_rfl) (wanted_none (by kernel_rfl)) (stable_val _) (knows_old 1 (.string ⟨was.toArray⟩) (by kernel_rfl) e1), ?_⟩
  refine ⟨isVal (.pointer (some ⟨g, 0, none⟩)), step_field 67 (.tmp 2) 0 ⟨g, 0, none⟩ ⟨g, 0, none⟩ (by kernel_rfl) (wanted_none (by kernel_rfl)) (knows_old 2 (.pointer (some ⟨g, 0, none⟩)) (by kernel_rfl) e2) (field_pr g 0 (by omega)), ?_⟩
  refine ⟨isVal (.int .i64 (k : Int)), step_read 3 (.tmp 10) ⟨g, 0, none⟩ (.int .i64 (k : Int)) (by kernel_rfl) (wanted_none (by kernel_rfl)) (knows_new (V := isVal (.pointer (some ⟨g, 0, none⟩))) 10 5 (by kernel_rfl) (by kernel_rfl) (by kernel_rfl)) c0 hg agg_int, ?_⟩
  refine ⟨isVal (.string ⟨(was.drop k).toArray⟩), step_rest 9 (.tmp 9) (.tmp 11) was k (by kernel_rfl) (wanted_none (by kernel_rfl)) (knows_new (V := isVal (.string ⟨was.toArray⟩)) 9 4 (by kernel_rfl) (by kernel_rfl) (by kernel_rfl)) (knows_new (V := isVal (.int .i64 (k : Int))) 11 6 (by kernel_rfl) (by kernel_rfl) (by kernel_rfl)) (rest_str was k hk), ?_⟩
  refine ⟨isVal (.pointer (some ⟨g, 1, none⟩)), step_field 67 (.tmp 2) 1 ⟨g, 0, none⟩ ⟨g, 1, none⟩ (by kernel_rfl) (wanted_none (by kernel_rfl)) (knows_old 2 (.pointer (some ⟨g, 0, none⟩)) (by kernel_rfl) e2) (field_pr g 1 (by omega)), ?_⟩
  refine ⟨isVal (.string ⟨s.toArray⟩), step_read 9 (.tmp 13) ⟨g, 1, none⟩ (.string ⟨s.toArray⟩) (by kernel_rfl) (wanted_none (by kernel_rfl)) (knows_new (V := isVal (.pointer (some ⟨g, 1, none⟩))) 13 8 (by kernel_rfl) (by kernel_rfl) (by kernel_rfl)) c1 hg agg_str, ?_⟩
  refine ⟨isVal (.string ⟨(pairL (· &&& ·) (was.drop k) s).toArray⟩), step_call 93 #[.tmp 12, .tmp 14] #[9, 9] #[.string ⟨(was.drop k).toArray⟩, .string ⟨s.toArray⟩] (by kernel_rfl) (wanted_none (by kernel_rfl)) (stable_val _) (args2 (.tmp 12) (.tmp 14) (.string ⟨(was.drop k).toArray⟩) (.string ⟨s.toArray⟩) (knows_new (V := isVal (.string ⟨(was.drop k).toArray⟩)) 12 7 (by kernel_rfl) (by kernel_rfl) (by kernel_rfl)) (knows_new (V := isVal (.string ⟨s.toArray⟩)) 14 9 (by kernel_rfl) (by kernel_rfl) (by kernel_rfl))) (enters_of Try.func93 (by kernel_rfl) rfl) (by intro w hb; exact call_and (was.drop k) s hdl (by omega) w), ?_⟩
  refine ⟨isVal (.string ⟨(was.take k ++ pairL (· &&& ·) (was.drop k) s).toArray⟩), step_bin .add 9 9 (.tmp 8) (.tmp 15) (.string ⟨(was.take k).toArray⟩) (.string ⟨(pairL (· &&& ·) (was.drop k) s).toArray⟩) (.string ⟨(was.take k ++ pairL (· &&& ·) (was.drop k) s).toArray⟩) (by kernel_rfl) (wanted_none (by kernel_rfl)) (knows_new (V := isVal (.string ⟨(was.take k).toArray⟩)) 8 3 (by kernel_rfl) (by kernel_rfl) (by kernel_rfl)) (knows_new (V := isVal (.string ⟨(pairL (· &&& ·) (was.drop k) s).toArray⟩)) 15 10 (by kernel_rfl) (by kernel_rfl) (by kernel_rfl)) (fun _ => rfl) (fun W => run_string_add_lists W (was.take k) (pairL (· &&& ·) (was.drop k) s) (by rw [List.length_take]; omega) (by rw [length_pairL, List.length_drop]; omega)), ?_⟩
  refine ⟨isVal (.string ⟨(was.take k ++ pairL (· &&& ·) (was.drop k) s).toArray⟩), step_assign (.tmp 16) (by kernel_rfl) (wanted_none (by kernel_rfl)) (stable_val _) (knows_new (V := isVal (.string ⟨(was.take k ++ pairL (· &&& ·) (was.drop k) s).toArray⟩)) 16 11 (by kernel_rfl) (by kernel_rfl) (by kernel_rfl)), ?_⟩
  intro a w hkp hb hd
  exact hQ a w hkp.1 (fdone_of (hd 12 (by rw [show ppOps.size = 13 by kernel_rfl]; decide)) (t := 4) (V := isVal (.string ⟨(was.take k ++ pairL (· &&& ·) (was.drop k) s).toArray⟩)) (by kernel_rfl) (by kernel_rfl)) hb
set_option maxHeartbeats 400000 in
theorem pPage_any (k : Nat) (s was : List UInt8) (w : World) (hk : k ≤ was.length) (h1 : was.length ≤ 1000000) (h2 : s.length ≤ 1000000) :
    Calls Try.prog 120 #[.agg #[.int .i64 (k : Int), .string ⟨s.toArray⟩], .string ⟨was.toArray⟩] w fun e w' => e = .returned (.string ⟨(progL was k s).toArray⟩) ∧ Below w.heap.size w w' := by
  go_enter Try.func120, Try.ntmps120
  go_wp2_with fail
  refine pPage_region _ _ _ rfl was s k w.heap.size hk h1 h2 rfl rfl (by simp) (by rw [World.cell?_alloc_new]; rfl) (by rw [World.cell?_alloc_new]; rfl) ?_
  intro a w5 hd h4 hb5
  have hB := ((Below.refl w.heap.size w).alloc (Nat.le_refl _) _).trans (hb5.mono (by simp))
  go_wp2
  refine bodyPost_ret (results_tmp rfl a.tmps Try.prog w5) hd ⟨?_, hB⟩
  rw [h4]
end Go.Proofs.Ytpjafjnokgeifaa
end
section
namespace Go.Proofs.Ytpjafjnokgeifaa
open Go.RowKit
set_option linter.unusedVariables false
set_option linter.unusedSimpArgs false

/-- A row of one's own, in a block between two numbers. -/
def isBtw (lo hi : Nat) (e : TypeId) (cs : List Value) (v : Value) (w : World) : Prop := (v = .slice none 0 0 ∧ cs = []) ∨
  ∃ g cap cur, v = .slice (some ⟨g, 0, none⟩) cs.length cap ∧ lo ≤ g ∧ g < hi ∧ w.heap[g]? = some (.cells cur e (0, 0)) ∧ cs.length ≤ cap ∧ cur.size = cap ∧ cur.toList.take cs.length = cs
theorem isBtw_own {w : World} {B : Nat} {e : TypeId} {v : Value} {cs : List Value} (h : isOwn B e cs v w) : isBtw B w.heap.size e cs v w := by
  obtain ⟨hl, ⟨rfl, h0⟩ | ⟨g, cap, cur, rfl, hB, hg, hn, _, hs, ht⟩⟩ := h
  · exact .inl ⟨rfl, List.eq_nil_of_length_eq_zero h0⟩
  · rw [Nat.mul_one] at hs ht
    exact .inr ⟨g, cap, cur, rfl, hB, (Array.getElem?_eq_some_iff.1 hg).1, hg, hn, hs, ht⟩
theorem isBtw.grow {lo hi : Nat} {e : TypeId} {cs : List Value} {v : Value} {w w' : World} (h : isBtw lo hi e cs v w) (hb : Below w.heap.size w w') : isBtw lo hi e cs v w' := by
  rcases h with h | ⟨g, cap, cur, hv, h1, h2, hg, rest⟩
  · exact .inl h
  · exact .inr ⟨g, cap, cur, hv, h1, h2, (hb.block g (Array.getElem?_eq_some_iff.1 hg).1).trans hg, rest⟩
theorem isBtw.out {lo hi : Nat} {e : TypeId} {cs : List Value} {v : Value} {w : World} (h : isBtw lo hi e cs v w) {p : Addr} (hp : p.block < lo ∨ hi ≤ p.block) (x : Value) : isBtw lo hi e cs v (w.setCell p x) := by
  rcases h with h | ⟨g, cap, cur, hv, h1, h2, hg, rest⟩
  · exact .inl h
  · exact .inr ⟨g, cap, cur, hv, h1, h2, (Below.heap_setCell w p x g (by omega)).trans hg, rest⟩
theorem isBtw.other {lo hi : Nat} {e e' : TypeId} {cs cs' : List Value} {v v' : Value} {w : World} (h : isBtw lo hi e cs v w) {g cap n : Nat} {cur : Array Value} (hg' : w.heap[g]? = some (.cells cur e' (0, 0))) (hne : e ≠ e') (k : Nat) (x : Value) : isBtw lo hi e cs v (w.setCell ⟨g, k, none⟩ x) := by
  rcases h with h | ⟨g2, cap2, cur2, hv, h1, h2, hg, rest⟩
  · exact .inl h
  · refine .inr ⟨g2, cap2, cur2, hv, h1, h2, (Below.heap_setCell w ⟨g, k, none⟩ x g2 ?_).trans hg, rest⟩
    rintro rfl
    rw [hg'] at hg
    injection hg with hg
    injection hg with _ he _
    exact hne he.symm
theorem isBtw.some_ {lo hi : Nat} {e : TypeId} {cs : List Value} {v : Value} {w : World} (h : isBtw lo hi e cs v w) (h0 : 0 < cs.length) :
    ∃ g cap cur, v = .slice (some ⟨g, 0, none⟩) cs.length cap ∧ lo ≤ g ∧ g < hi ∧ w.heap[g]? = some (.cells cur e (0, 0)) ∧ cs.length ≤ cap ∧ cur.size = cap ∧ cur.toList.take cs.length = cs := by
  rcases h with ⟨_, rfl⟩ | h
  · simp at h0
  · exact h
theorem isBtw.cells {lo hi : Nat} {e : TypeId} {cs : List Value} {v : Value} {w : World} (h : isBtw lo hi e cs v w) : isCells cs v w := by
  rcases h with h | ⟨g, cap, cur, rfl, h1, h2, hg, hn, hs, ht⟩
  · exact .inl h
  · refine .inr (.inr ⟨g, 0, cap, rfl, (Array.getElem?_eq_some_iff.1 hg).1, fun j x hx => ?_⟩)
    have hj := (List.getElem?_eq_some_iff.1 hx).1
    rw [← ht, List.getElem?_take, if_pos hj] at hx
    simp only [World.cell?, hg]
    simpa using hx
theorem isBtw.one {lo hi : Nat} {e : TypeId} {cs : List Value} {v : Value} {w : World} (h : isBtw lo hi e cs v w) : v.oneCell' = true := by
  rcases h with ⟨rfl, _⟩ | ⟨g, cap, cur, rfl, _⟩ <;> rfl
/-- One of its cells is written. -/
theorem isBtw.put {lo hi : Nat} {e : TypeId} {cs : List Value} {g n cap : Nat} {w : World} (h : isBtw lo hi e cs (.slice (some ⟨g, 0, none⟩) n cap) w) (k : Nat) (hk : k < cs.length) (x : Value) : isBtw lo hi e (cs.set k x) (.slice (some ⟨g, 0, none⟩) n cap) (w.setCell ⟨g, k, none⟩ x) := by
  rcases h with ⟨h, _⟩ | ⟨g2, cap2, cur, hv, h1, h2, hg, hn, hs, ht⟩
  · cases h
  · injection hv with e1 e2 e3
    injection e1 with e1
    injection e1 with e1 _ _
    subst e1 e2 e3
    refine .inr ⟨g, cap, cur.setIfInBounds k x, by rw [List.length_set], h1, h2, ?_, by rw [List.length_set]; exact hn, by simpa using hs, ?_⟩
    · exact heap_setCell_same w g k cur e x hg
    · rw [List.length_set, Array.toList_setIfInBounds, List.take_set, ht]
theorem isBtw.cell {lo hi : Nat} {e : TypeId} {cs : List Value} {g n cap : Nat} {w : World} (h : isBtw lo hi e cs (.slice (some ⟨g, 0, none⟩) n cap) w) (k : Nat) (x : Value) (hx : cs[k]? = some x) : w.cell? ⟨g, k, none⟩ = some x ∧ w.frozen? ⟨g, k, none⟩ = false ∧ lo ≤ g ∧ g < hi ∧ ∃ cur, w.heap[g]? = some (.cells cur e (0, 0)) := by
  rcases h with ⟨h, _⟩ | ⟨g2, cap2, cur, hv, h1, h2, hg, hn, hs, ht⟩
  · cases h
  · injection hv with e1 e2 e3
    injection e1 with e1
    injection e1 with e1 _ _
    subst e1 e2 e3
    have hj := (List.getElem?_eq_some_iff.1 hx).1
    rw [← ht, List.getElem?_take, if_pos hj] at hx
    refine ⟨?_, ?_, h1, h2, cur, hg⟩
    · simp only [World.cell?, hg]
      simpa using hx
    · simp [World.frozen?, hg]

theorem isBtw.weak {lo hi lo' hi' : Nat} {e : TypeId} {cs : List Value} {v : Value} {w : World} (h : isBtw lo hi e cs v w) (h1 : lo' ≤ lo) (h2 : hi ≤ hi') : isBtw lo' hi' e cs v w := by
  rcases h with h | ⟨g, cap, cur, hv, h3, h4, rest⟩
  · exact .inl h
  · exact .inr ⟨g, cap, cur, hv, by omega, by omega, rest⟩
theorem isBtw.out5 {lo hi : Nat} {e : TypeId} {cs : List Value} {v : Value} {w : World} (h : isBtw lo hi e cs v w) {g : Nat} (hg : g < lo ∨ hi ≤ g) (v0 v1 v2 v3 v4 : Value) : isBtw lo hi e cs v (set5 w g v0 v1 v2 v3 v4) := by
  unfold set5
  exact ((((h.out (p := ⟨g, 0, none⟩) hg _).out (p := ⟨g, 1, none⟩) hg _).out (p := ⟨g, 2, none⟩) hg _).out (p := ⟨g, 3, none⟩) hg _).out (p := ⟨g, 4, none⟩) hg _
/-- A device whose rows are new: in blocks from B on. -/
def isFlN (B : Nat) (F : Fl) (v : Value) (w : World) : Prop := ∃ vp vw, v = .agg #[vp, vw, .int .i64 F.fuse, strC F.torn, .bool F.dead] ∧ isBtw B w.heap.size 9 (F.pages.map strC) vp w ∧ isBtw B w.heap.size 3 (F.wear.map intC) vw w
theorem isFlN.fl {B : Nat} {F : Fl} {v : Value} {w : World} (h : isFlN B F v w) : isFl F v w := by
  obtain ⟨vp, vw, rfl, hp, hq⟩ := h
  exact ⟨vp, vw, rfl, hp.cells, hq.cells⟩
theorem isFlN.low {B B' : Nat} {F : Fl} {v : Value} {w : World} (h : isFlN B F v w) (hB : B' ≤ B) : isFlN B' F v w := by
  obtain ⟨vp, vw, rfl, hp, hq⟩ := h
  exact ⟨vp, vw, rfl, hp.weak hB (Nat.le_refl _), hq.weak hB (Nat.le_refl _)⟩
/-- The device as it came (F), and as it is told (G). -/
structure TI (w0 W : World) (lo hi g3 g6 g8 : Nat) (F G : Fl) (vp vw vp' vw' : Value) : Prop where
  below : Below w0.heap.size w0 W
  o3 : w0.heap.size ≤ g3 ∧ g3 < lo
  o6 : w0.heap.size ≤ g6 ∧ g6 < lo
  o36 : g3 ≠ g6
  o8 : w0.heap.size ≤ lo ∧ lo ≤ hi ∧ hi ≤ g8
  c3 : Cells5 W g3 vp vw (.int .i64 F.fuse) (strC F.torn) (.bool F.dead)
  c6 : ∃ o0 o1 o2 o3 o4, Cells5 W g6 o0 o1 o2 o3 o4
  f6 : Free5 W g6
  c8 : Cells5 W g8 vp' vw' (.int .i64 G.fuse) (strC G.torn) (.bool G.dead)
  f8 : Free5 W g8
  p : isCells (F.pages.map strC) vp w0
  q : isCells (F.wear.map intC) vw w0
  p' : isBtw lo hi 9 (G.pages.map strC) vp' W
  q' : isBtw lo hi 3 (G.wear.map intC) vw' W

section
variable {w0 W : World} {lo hi g3 g6 g8 g n cap : Nat} {F G : Fl} {vp vw vp' vw' : Value}
theorem TI.grow (h : TI w0 W lo hi g3 g6 g8 F G vp vw vp' vw') {W' : World} (hb : Below W.heap.size W W') : TI w0 W' lo hi g3 g6 g8 F G vp vw vp' vw' where
  below := h.below.trans (hb.mono h.below.size)
  o3 := h.o3
  o6 := h.o6
  o36 := h.o36
  o8 := h.o8
  c3 := h.c3.keep hb h.c3.1
  c6 := by obtain ⟨o0, o1, o2, o3, o4, hc⟩ := h.c6; exact ⟨o0, o1, o2, o3, o4, hc.keep hb hc.1⟩
  f6 := by obtain ⟨o0, o1, o2, o3, o4, hc⟩ := h.c6; exact h.f6.keep hb hc.1
  c8 := h.c8.keep hb h.c8.1
  f8 := h.f8.keep hb h.c8.1
  p := h.p
  q := h.q
  p' := h.p'.grow hb
  q' := h.q'.grow hb
theorem TI.fl (h : TI w0 W lo hi g3 g6 g8 F G vp vw vp' vw') : isFl F (.agg #[vp, vw, .int .i64 F.fuse, strC F.torn, .bool F.dead]) W := ⟨vp, vw, rfl, stable_cells _ _ _ _ h.p h.below, stable_cells _ _ _ _ h.q h.below⟩
theorem TI.fl' (h : TI w0 W lo hi g3 g6 g8 F G vp vw vp' vw') : isFl G (.agg #[vp', vw', .int .i64 G.fuse, strC G.torn, .bool G.dead]) W := ⟨vp', vw', rfl, h.p'.cells, h.q'.cells⟩
theorem TI.page (h : TI w0 W lo hi g3 g6 g8 F G vp vw (.slice (some ⟨g, 0, none⟩) n cap) vw') (k : Nat) (hk : k < G.pages.length) (x : List UInt8) :
    TI w0 (W.setCell ⟨g, k, none⟩ (strC x)) lo hi g3 g6 g8 F { G with pages := G.pages.set k x } vp vw (.slice (some ⟨g, 0, none⟩) n cap) vw' := by
  obtain ⟨hc, hf, h1, h2, cur, hg⟩ := h.p'.cell k (strC G.pages[k]) (get_map strC _ _ hk)
  have o3 := h.o3
  have o6 := h.o6
  have o8 := h.o8
  exact {
    below := h.below.setCell (p := ⟨g, k, none⟩) (by show _ ≤ g; omega) _
    o3 := o3
    o6 := o6
    o36 := h.o36
    o8 := o8
    c3 := h.c3.apart _ (by omega)
    c6 := by obtain ⟨o0, o1, o2, o3', o4, hc⟩ := h.c6; exact ⟨o0, o1, o2, o3', o4, hc.apart _ (by omega)⟩
    f6 := h.f6.set _ _
    c8 := h.c8.apart _ (by omega)
    f8 := h.f8.set _ _
    p := h.p
    q := h.q
    p' := by
      have := h.p'.put k (by simpa using hk) (strC x)
      rwa [← List.map_set] at this
    q' := h.q'.other (cs' := []) (v' := .nilIface) (cap := 0) (n := 0) hg (by decide) k _ }
theorem TI.wear (h : TI w0 W lo hi g3 g6 g8 F G vp vw vp' (.slice (some ⟨g, 0, none⟩) n cap)) (k : Nat) (hk : k < G.wear.length) (x : Int) :
    TI w0 (W.setCell ⟨g, k, none⟩ (intC x)) lo hi g3 g6 g8 F { G with wear := G.wear.set k x } vp vw vp' (.slice (some ⟨g, 0, none⟩) n cap) := by
  obtain ⟨hc, hf, h1, h2, cur, hg⟩ := h.q'.cell k (intC G.wear[k]) (get_map intC _ _ hk)
  have o3 := h.o3
  have o6 := h.o6
  have o8 := h.o8
  exact {
    below := h.below.setCell (p := ⟨g, k, none⟩) (by show _ ≤ g; omega) _
    o3 := o3
    o6 := o6
    o36 := h.o36
    o8 := o8
    c3 := h.c3.apart _ (by omega)
    c6 := by obtain ⟨o0, o1, o2, o3', o4, hc⟩ := h.c6; exact ⟨o0, o1, o2, o3', o4, hc.apart _ (by omega)⟩
    f6 := h.f6.set _ _
    c8 := h.c8.apart _ (by omega)
    f8 := h.f8.set _ _
    p := h.p
    q := h.q
    p' := h.p'.other (cs' := []) (v' := .nilIface) (cap := 0) (n := 0) hg (by decide) k _
    q' := by
      have := h.q'.put k (by simpa using hk) (intC x)
      rwa [← List.map_set] at this }
theorem TI.die (h : TI w0 W lo hi g3 g6 g8 F G vp vw vp' vw') (b : Bool) : TI w0 (W.setCell ⟨g8, 4, none⟩ (.bool b)) lo hi g3 g6 g8 F { G with dead := b } vp vw vp' vw' := by
  have o3 := h.o3
  have o6 := h.o6
  have o8 := h.o8
  exact {
    below := h.below.setCell (p := ⟨g8, 4, none⟩) (by show _ ≤ g8; omega) _
    o3 := o3
    o6 := o6
    o36 := h.o36
    o8 := o8
    c3 := h.c3.apart _ (by omega)
    c6 := by obtain ⟨o0, o1, o2, o3', o4, hc⟩ := h.c6; exact ⟨o0, o1, o2, o3', o4, hc.apart _ (by omega)⟩
    f6 := h.f6.set _ _
    c8 := h.c8.set4 _
    f8 := h.f8.set _ _
    p := h.p
    q := h.q
    p' := h.p'.out (p := ⟨g8, 4, none⟩) (.inr (by show _ ≤ g8; omega)) _
    q' := h.q'.out (p := ⟨g8, 4, none⟩) (.inr (by show _ ≤ g8; omega)) _ }
theorem TI.burn (h : TI w0 W lo hi g3 g6 g8 F G vp vw vp' vw') (n : Int) : TI w0 (W.setCell ⟨g8, 2, none⟩ (.int .i64 n)) lo hi g3 g6 g8 F { G with fuse := n } vp vw vp' vw' := by
  have o3 := h.o3
  have o6 := h.o6
  have o8 := h.o8
  exact {
    below := h.below.setCell (p := ⟨g8, 2, none⟩) (by show _ ≤ g8; omega) _
    o3 := o3
    o6 := o6
    o36 := h.o36
    o8 := o8
    c3 := h.c3.apart _ (by omega)
    c6 := by obtain ⟨o0, o1, o2, o3', o4, hc⟩ := h.c6; exact ⟨o0, o1, o2, o3', o4, hc.apart _ (by omega)⟩
    f6 := h.f6.set _ _
    c8 := h.c8.set2 _
    f8 := h.f8.set _ _
    p := h.p
    q := h.q
    p' := h.p'.out (p := ⟨g8, 2, none⟩) (.inr (by show _ ≤ g8; omega)) _
    q' := h.q'.out (p := ⟨g8, 2, none⟩) (.inr (by show _ ≤ g8; omega)) _ }
end
end Go.Proofs.Ytpjafjnokgeifaa
end
section
namespace Go.Proofs.Ytpjafjnokgeifaa
open Go.RowKit
set_option linter.unusedVariables false
set_option linter.unusedSimpArgs false

structure Wrote (gp k : Nat) (x : Value) (w w' : World) : Prop where
  os : w'.os = w.os
  tape : w'.tape = w.tape
  output : w'.output = w.output
  size : w.heap.size ≤ w'.heap.size
  block : ∀ b, b < w.heap.size → b ≠ gp → w'.heap[b]? = w.heap[b]?
  row : ∀ cur e, w.heap[gp]? = some (.cells cur e (0, 0)) → w'.heap[gp]? = some (.cells cur e (0, 0)) ∨ w'.heap[gp]? = some (.cells (cur.setIfInBounds k x) e (0, 0))
theorem set_twice (cur : Array Value) (k : Nat) (x : Value) : (cur.setIfInBounds k x).setIfInBounds k x = cur.setIfInBounds k x := by
  apply Array.ext
  · simp
  · intro i h1 h2
    simp [Array.getElem_setIfInBounds]
theorem wrote_pre (gp k : Nat) (x : Value) : Pre (Wrote gp k x) where
  refl w := ⟨rfl, rfl, rfl, Nat.le_refl _, fun _ _ _ => rfl, fun _ _ h => .inl h⟩
  trans a b c h1 h2 := ⟨h2.os.trans h1.os, h2.tape.trans h1.tape, h2.output.trans h1.output, Nat.le_trans h1.size h2.size, fun i hi hne => (h2.block i (Nat.lt_of_lt_of_le hi h1.size) hne).trans (h1.block i hi hne), fun cur e he => by
    rcases h1.row cur e he with h | h
    · exact h2.row cur e h
    · rcases h2.row _ e h with h' | h'
      · exact .inr h'
      · rw [set_twice] at h'; exact .inr h'⟩
  grow w w' h := ⟨h.os, h.tape, h.output, h.size, fun b hb _ => h.block b hb, fun cur e he => .inl ((h.block gp (Array.getElem?_eq_some_iff.1 he).1).trans he)⟩
  drew w := ⟨rfl, rfl, rfl, Nat.le_refl _, fun _ _ _ => rfl, fun _ _ h => .inl h⟩
theorem Wrote.cell {gp k : Nat} {x : Value} {w w' : World} (h : Wrote gp k x w w') {p : Addr} {v : Value} (hc : w.cell? p = some v) (hlt : p.block < w.heap.size) (hne : p.block ≠ gp) : w'.cell? p = some v := by
  rw [← hc]
  simp only [World.cell?, h.block p.block hlt hne]
theorem Wrote.set {gp k : Nat} {x : Value} {w : World} {cur : Array Value} {e : TypeId} (hg : w.heap[gp]? = some (.cells cur e (0, 0))) : Wrote gp k x w (w.setCell ⟨gp, k, none⟩ x) where
  os := rfl
  tape := rfl
  output := rfl
  size := by simp
  block b _ hne := Below.heap_setCell w ⟨gp, k, none⟩ x b hne
  row cur' e' h' := by
    rw [hg] at h'
    injection h' with h'
    injection h' with h1 h2 _
    subst h1 h2
    exact .inr (heap_setCell_same w gp k cur e x hg)
theorem stabR_val (R : World → World → Prop) (v : Value) : StableR R (isVal v) := fun _ _ _ h _ => h
def rowIs (gp : Nat) (e : TypeId) (cur : Array Value) : VP := fun _ w => w.heap[gp]? = some (.cells cur e (0, 0))
theorem stabR_row (gp k : Nat) (x : Value) (e : TypeId) (cur : Array Value) : StableR (Wrote gp k x) (rowIs gp e (cur.setIfInBounds k x)) := by
  intro v w w' h hr
  rcases hr.row _ e h with h' | h'
  · exact h'
  · rw [set_twice] at h'; exact h'
section
variable {R : World → World → Prop} {P : Program} {ops : Array Oper} {base : World} {a0 : Act} {Q : Exit → Act → World → Prop} {k0 : Nat} {kn : Nat → VP} {i : Nat} {V : VP}
theorem RStep.store (t : TypeId) (x y : Operand) (p : Addr) (v : Value) (hop : (ops[i]?).map (fun o => (o.op, o.guard, o.dst)) = some (.store t x y, none, none)) (hx : Knows ops a0 kn i x (isVal (.pointer (some p)))) (hy : Knows ops a0 kn i y (isVal v))
    (hs : (P.info? t).map (·.size) = some 1) (hv : v.cells = #[v]) (hv1 : v.oneCell' = true) (hst : StableR R V) (h : ∀ w, R base w → (∃ old, w.cell? p = some old) ∧ w.frozen? p = false ∧ V undef (w.setCell p v) ∧ R w (w.setCell p v)) : RStep R P ops base a0 Q k0 kn i V := by
  refine ⟨hst, fun o ho a w hk0 hb hd => ?_⟩
  have hk := hk0.f
  rw [ho] at hop
  simp only [Option.map_some, Option.some.injEq, Prod.mk.injEq] at hop
  obtain ⟨hop, hgd, hdst⟩ := hop
  have hfd : FDeps ops kn i a w := fun o' ho' e he hbd => rdone_f (hd o' ho' e he hbd)
  have e1 : a.eval x = .pointer (some p) := hx a w hk hfd
  have e2 : a.eval y = v := hy a w hk hfd
  obtain ⟨⟨old, hc⟩, hf, hV, hR⟩ := h w hb
  obtain ⟨ie, hie, hz⟩ := Option.map_eq_some_iff.1 hs
  have hsz : (sizeOf t).run P w = .ok 1 w := by simp [sizeOf, typeInfo, hie, hz]
  have hst : (storeCells p [v]).run P w = .ok () (w.setCell p v) := by
    unfold storeCells
    rw [Sem.run_bind, show p.add 0 = p by simp [Addr.add], run_store P w p v _ hv1, hc]
    simp [hf, storeCells]
  unfold wpOp
  simp only [ho]
  rw [show Region.wanted o (yielded ops a.tmps) = true by simp [Region.wanted, hgd]]
  refine .inl ?_
  unfold Oper.wp execOp
  rw [hop]
  simp only [e1, e2, Instr.storeAt, Instr.sureAddr, Sem.run_bind, Sem.run_pure, Result.andThen_ok, storeVar, hsz, hv]
  rw [if_neg (by simp), hst]
  simp only [Result.andThen_ok, Oper.upon]
  exact ⟨undef, rfl, fun _ => rfl, hV, hR⟩
end
theorem rdone_of {ops : Array Oper} {kn : Nat → VP} {a : Act} {w : World} {j : Nat} {t : Tmp} {V : VP} (h : RDone ops kn a w j) (hd : (ops[j]?).bind (·.dst) = some t) (hV : kn j = V) : V (a.tmps.getD t undef) w := fdone_of (rdone_f h) hd hV
theorem rdone_none {ops : Array Oper} {kn : Nat → VP} {a : Act} {w : World} {j : Nat} {V : VP} (h : RDone ops kn a w j) (hd : (ops[j]?).map (·.dst) = some none) (hV : kn j = V) : V undef w := by
  cases ho : ops[j]? with
  | none => rw [ho] at hd; simp at hd
  | some o =>
    rw [ho] at hd
    simp only [Option.map_some, Option.some.injEq] at hd
    have := h o ho
    rw [hd, hV] at this
    exact this
/-- Behind the store all is as it is where just that was done. -/
theorem Wrote.below {gp k : Nat} {x : Value} {w w' : World} {cur : Array Value} {e : TypeId} (h : Wrote gp k x w w') (hg : w.heap[gp]? = some (.cells cur e (0, 0))) (hg' : w'.heap[gp]? = some (.cells (cur.setIfInBounds k x) e (0, 0))) :
    Below (w.setCell ⟨gp, k, none⟩ x).heap.size (w.setCell ⟨gp, k, none⟩ x) w' where
  os := h.os
  tape := h.tape
  output := h.output
  size := by simpa using h.size
  block b hb := by
    by_cases e' : b = gp
    · subst e'
      rw [hg', heap_setCell_same w b k cur e x hg]
    · rw [Below.heap_setCell w ⟨gp, k, none⟩ x b e', h.block b (by simpa using hb) e']
end Go.Proofs.Ytpjafjnokgeifaa
end
section
namespace Go.Proofs.Ytpjafjnokgeifaa
open Go.RowKit
set_option linter.unusedVariables false
set_option linter.unusedSimpArgs false

section
variable {ops : Array Oper} {base : World} {a0 : Act} {Q : Exit → Act → World → Prop} {kn : Nat → VP} {i : Nat} {V : VP}
theorem step_load5 (x : Operand) (g : Nat) {v0 v1 v2 v3 v4 : Value} (hop : (ops[i]?).map (·.op) = some (.load 25 x)) (hw : Wanted ops a0 kn i) (hx : Knows ops a0 kn i x (isVal (.pointer (some ⟨g, 0, none⟩))))
    (hc : Cells5 base g v0 v1 v2 v3 v4) : FStep Try.prog ops base a0 Q kn i (isVal (.agg #[v0, v1, v2, v3, v4])) :=
  step_mk (stable_val _) hw fun o ho a w hk hb hd => by
    have e1 : a.eval x = .pointer (some ⟨g, 0, none⟩) := hx a w hk hd
    unfold Oper.wp execOp
    rw [op_of hop ho]
    simp only [e1, Instr.loadAt, Instr.sureAddr, Sem.run_bind, Sem.run_pure, Result.andThen_ok, load5 g w v0 v1 v2 v3 v4 (hc.keep hb hc.1), Oper.upon]
    exact ⟨_, rfl, rfl, Below.refl _ _⟩
end
theorem call_has (F : Fl) (page : Int) (z : Bool) (v : Value) (w : World) (hv : isFl F v w) (h1 : F.pages.length ≤ 140737488355328) (h2 : F.wear.length ≤ 140737488355328) (hz : hasB F page = z) :
    Calls Try.prog 45 #[v, .int .i64 page] w fun e w' => ∃ x, e = .returned x ∧ isVal (.bool z) x w' ∧ Below w.heap.size w w' :=
  (hasPage_any F page v w hv h1 h2).mono (by rintro e w' ⟨rfl, hb⟩; exact ⟨_, rfl, by rw [hz]; rfl, hb⟩)
theorem call_efits (n : Int) (w : World) : Calls Try.prog 122 #[.agg #[], .int .i64 n] w fun e w' => ∃ x, e = .returned x ∧ isVal (.bool true) x w' ∧ Below w.heap.size w w' :=
  (eFits_any n w).mono (by rintro e w' ⟨rfl, hb⟩; exact ⟨_, rfl, rfl, hb⟩)
theorem call_pfits (at_ : Int) (s : List UInt8) (n : Nat) (z : Bool) (w : World) (hs : s.length ≤ 1000000) (hn : n ≤ 1000000) (hz : (decide (0 ≤ at_) && decide (at_ ≤ (n : Int) - s.length)) = z) :
    Calls Try.prog 119 #[.agg #[.int .i64 at_, .string ⟨s.toArray⟩], .int .i64 (n : Int)] w fun e w' => ∃ x, e = .returned x ∧ isVal (.bool z) x w' ∧ Below w.heap.size w w' :=
  (pFits_any at_ s n w (by omega) (by omega) (by omega)).mono (by rintro e w' ⟨rfl, hb⟩; exact ⟨_, rfl, by rw [hz]; rfl, hb⟩)
theorem call_ewear (n : Int) (w : World) (h0 : 0 ≤ n) (h1 : n ≤ 2147483647) : Calls Try.prog 124 #[.agg #[], .int .i64 n] w fun e w' => ∃ x, e = .returned x ∧ isVal (.int .i64 (wornN n)) x w' ∧ Below w.heap.size w w' :=
  (eWear_any n w h0 h1).mono (by rintro e w' ⟨rfl, hb⟩; exact ⟨_, rfl, rfl, hb⟩)
theorem call_pwear (at_ : Int) (s : List UInt8) (n : Int) (w : World) : Calls Try.prog 121 #[.agg #[.int .i64 at_, .string ⟨s.toArray⟩], .int .i64 n] w fun e w' => ∃ x, e = .returned x ∧ isVal (.int .i64 n) x w' ∧ Below w.heap.size w w' :=
  (pWear_any (.bool true) n w at_ s).mono (by rintro e w' ⟨rfl, hb⟩; exact ⟨_, rfl, rfl, hb⟩)
theorem call_between (was would torn : List UInt8) (w : World) (h1 : was.length ≤ 1000000) (h2 : would.length ≤ 1000000) (h3 : torn.length ≤ 1000000) :
    Calls Try.prog 80 #[.string ⟨was.toArray⟩, .string ⟨would.toArray⟩, .string ⟨torn.toArray⟩] w fun e w' => ∃ x, e = .returned x ∧ isVal (.string ⟨(betweenL was would torn).toArray⟩) x w' ∧ Below w.heap.size w w' :=
  (between_any was would torn w h1 h2 h3).mono (by rintro e w' ⟨rfl, hb⟩; exact ⟨_, rfl, rfl, hb⟩)
noncomputable def takeOps2 : Array Oper := regionOf Try.f60 2
noncomputable def takeOps9 : Array Oper := regionOf Try.f60 9
noncomputable def takeOps11 : Array Oper := regionOf Try.f60 11

set_option maxRecDepth 100000 in
set_option maxHeartbeats 2000000 in
theorem take2_eno (Q : Exit → Act → World → Prop) (a0 : Act) (w0 : World) (hsz : a0.tmps.size = 84) (g3 : Nat) (F : Fl) (vp vw : Value) (page : Int)
    (e1 : a0.tmps.getD 1 undef = .int .i64 page) (e2 : a0.tmps.getD 2 undef = (.iface 69 (.agg #[]))) (e3 : a0.tmps.getD 3 undef = .pointer (some ⟨g3, 0, none⟩)) (hc3 : Cells5 w0 g3 vp vw (.int .i64 F.fuse) (strC F.torn) (.bool F.dead)) (hfl : isFl F (.agg #[vp, vw, .int .i64 F.fuse, strC F.torn, .bool F.dead]) w0)
    (h1 : F.pages.length ≤ 140737488355328) (h2 : F.wear.length ≤ 140737488355328) (hhas : hasB F page = false)
    (hQ : ∀ (a : Act) (w : World), a.defers = a0.defers → a.tmps.size = a0.tmps.size → (∀ t, (takeOps2.toList.all fun o => o.dst != some t) = true → a.tmps.getD t undef = a0.tmps.getD t undef) → a.tmps.getD 30 undef = .bool true → Below w0.heap.size w0 w → Q .normal a w) :
    (Code.region 2 takeOps2 true).wp Try.prog Q a0 w0 := by
  refine wp_region_flow mixed (by rw [hsz]; kernel_rfl) ?_
  rw [show takeOps2.size = 18 by kernel_rfl]
  refine ⟨isVal (.agg #[vp, vw, .int .i64 F.fuse, strC F.torn, .bool F.dead]), step_load5 (.tmp 3) g3 (by kernel_rfl) (wanted_none (by kernel_rfl)) (knows_old 3 (.pointer (some ⟨g3, 0, none⟩)) (by kernel_rfl) e3) hc3, ?_⟩
  refine ⟨isVal (.int .i64 page), step_move (.tmp 1) (by kernel_rfl) (wanted_none (by kernel_rfl)) (stable_val _) (knows_old 1 (.int .i64 page) (by kernel_rfl) e1), ?_⟩
  refine ⟨isVal (.bool false), step_call 45 #[.tmp 13, .tmp 14] #[25, 3] #[.agg #[vp, vw, .int .i64 F.fuse, strC F.torn, .bool F.dead], .int .i64 page] (by kernel_rfl) (wanted_none (by kernel_rfl)) (stable_val _) (args2 (.tmp 13) (.tmp 14) (.agg #[vp, vw, .int .i64 F.fuse, strC F.torn, .bool F.dead]) (.int .i64 page) (knows_new (V := isVal (.agg #[vp, vw, .int .i64 F.fuse, strC F.torn, .bool F.dead])) 13 0 (by kernel_rfl) (by kernel_rfl) (by kernel_rfl)) (knows_new (V := isVal (.int .i64 page)) 14 1 (by kernel_rfl) (by kernel_rfl) (by kernel_rfl))) (enters_of Try.func45 (by kernel_rfl) rfl) (by intro w hb; exact call_has F page false _ w (stable_fl _ _ _ _ hfl hb) h1 h2 hhas), ?_⟩
  refine ⟨isVal (.bool true), step_un .not 4 (.tmp 15) (.bool false) (.bool true) (by kernel_rfl) (wanted_none (by kernel_rfl)) (knows_new (V := isVal (.bool false)) 15 2 (by kernel_rfl) (by kernel_rfl) (by kernel_rfl)) (fun _ => rfl), ?_⟩
  refine ⟨isVal (.bool true), step_move (.tmp 16) (by kernel_rfl) (wanted_none (by kernel_rfl)) (stable_val _) (knows_new (V := isVal (.bool true)) 16 3 (by kernel_rfl) (by kernel_rfl) (by kernel_rfl)), ?_⟩
  refine ⟨_, step_skip 4 17 false true (by kernel_rfl) (by kernel_rfl) (by kernel_rfl) (by kernel_rfl) rfl, ?_⟩
  refine ⟨_, step_skip 4 17 false true (by kernel_rfl) (by kernel_rfl) (by kernel_rfl) (by kernel_rfl) rfl, ?_⟩
  refine ⟨_, step_skip 4 17 false true (by kernel_rfl) (by kernel_rfl) (by kernel_rfl) (by kernel_rfl) rfl, ?_⟩
  refine ⟨_, step_skip 4 17 false true (by kernel_rfl) (by kernel_rfl) (by kernel_rfl) (by kernel_rfl) rfl, ?_⟩
  refine ⟨_, step_skip 4 17 false true (by kernel_rfl) (by kernel_rfl) (by kernel_rfl) (by kernel_rfl) rfl, ?_⟩
  refine ⟨_, step_skip 4 17 false true (by kernel_rfl) (by kernel_rfl) (by kernel_rfl) (by kernel_rfl) rfl, ?_⟩
  refine ⟨_, step_skip 4 17 false true (by kernel_rfl) (by kernel_rfl) (by kernel_rfl) (by kernel_rfl) rfl, ?_⟩
  refine ⟨_, step_skip 4 17 false true (by kernel_rfl) (by kernel_rfl) (by kernel_rfl) (by kernel_rfl) rfl, ?_⟩
  refine ⟨_, step_skip 4 17 false true (by kernel_rfl) (by kernel_rfl) (by kernel_rfl) (by kernel_rfl) rfl, ?_⟩
  refine ⟨_, step_skip 4 17 false true (by kernel_rfl) (by kernel_rfl) (by kernel_rfl) (by kernel_rfl) rfl, ?_⟩
  refine ⟨_, step_skip 4 17 false true (by kernel_rfl) (by kernel_rfl) (by kernel_rfl) (by kernel_rfl) rfl, ?_⟩
  refine ⟨_, step_skip 4 17 false true (by kernel_rfl) (by kernel_rfl) (by kernel_rfl) (by kernel_rfl) rfl, ?_⟩
  refine ⟨isVal (.bool true), step_pick (.tmp 17) (.const (.bool true)) (.tmp 29) true (by kernel_rfl) (wanted_none (by kernel_rfl)) (stable_val _) (knows_new (V := isVal (.bool true)) 17 4 (by kernel_rfl) (by kernel_rfl) (by kernel_rfl)) (knows_const _), ?_⟩
  intro a w hkp hb hd
  exact hQ a w hkp.1 hkp.2.1 hkp.2.2 (fdone_of (hd 17 (by rw [show takeOps2.size = 18 by kernel_rfl]; decide)) (t := 30) (V := isVal (.bool true)) (by kernel_rfl) (by kernel_rfl)) hb

set_option maxRecDepth 100000 in
set_option maxHeartbeats 2000000 in
theorem take2_eyes (Q : Exit → Act → World → Prop) (a0 : Act) (w0 : World) (hsz : a0.tmps.size = 84) (g3 : Nat) (F : Fl) (vw : Value) (k b off n cap : Nat) (was : List UInt8) (hkn : k < n) (hcell : w0.cell? ⟨b, off + k, none⟩ = some (.string ⟨was.toArray⟩)) (hb0 : b < w0.heap.size) (hw1 : was.length ≤ 1000000)
    (e1 : a0.tmps.getD 1 undef = .int .i64 (k : Int)) (e2 : a0.tmps.getD 2 undef = (.iface 69 (.agg #[]))) (e3 : a0.tmps.getD 3 undef = .pointer (some ⟨g3, 0, none⟩)) (hc3 : Cells5 w0 g3 (.slice (some ⟨b, off, none⟩) n cap) vw (.int .i64 F.fuse) (strC F.torn) (.bool F.dead)) (hfl : isFl F (.agg #[(.slice (some ⟨b, off, none⟩) n cap), vw, .int .i64 F.fuse, strC F.torn, .bool F.dead]) w0)
    (h1 : F.pages.length ≤ 140737488355328) (h2 : F.wear.length ≤ 140737488355328) (hhas : hasB F (k : Int) = true)
    (hQ : ∀ (a : Act) (w : World), a.defers = a0.defers → a.tmps.size = a0.tmps.size → (∀ t, (takeOps2.toList.all fun o => o.dst != some t) = true → a.tmps.getD t undef = a0.tmps.getD t undef) → a.tmps.getD 30 undef = .bool false → Below w0.heap.size w0 w → Q .normal a w) :
    (Code.region 2 takeOps2 true).wp Try.prog Q a0 w0 := by
  refine wp_region_flow mixed (by rw [hsz]; kernel_rfl) ?_
  rw [show takeOps2.size = 18 by kernel_rfl]
  refine ⟨isVal (.agg #[(.slice (some ⟨b, off, none⟩) n cap), vw, .int .i64 F.fuse, strC F.torn, .bool F.dead]), step_load5 (.tmp 3) g3 (by kernel_rfl) (wanted_none (by kernel_rfl)) (knows_old 3 (.pointer (some ⟨g3, 0, none⟩)) (by kernel_rfl) e3) hc3, ?_⟩
  refine ⟨isVal (.int .i64 (k : Int)), step_move (.tmp 1) (by kernel_rfl) (wanted_none (by kernel_rfl)) (stable_val _) (knows_old 1 (.int .i64 (k : Int)) (by kernel_rfl) e1), ?_⟩
  refine ⟨isVal (.bool true), step_call 45 #[.tmp 13, .tmp 14] #[25, 3] #[.agg #[(.slice (some ⟨b, off, none⟩) n cap), vw, .int .i64 F.fuse, strC F.torn, .bool F.dead], .int .i64 (k : Int)] (by kernel_rfl) (wanted_none (by kernel_rfl)) (stable_val _) (args2 (.tmp 13) (.tmp 14) (.agg #[(.slice (some ⟨b, off, none⟩) n cap), vw, .int .i64 F.fuse, strC F.torn, .bool F.dead]) (.int .i64 (k : Int)) (knows_new (V := isVal (.agg #[(.slice (some ⟨b, off, none⟩) n cap), vw, .int .i64 F.fuse, strC F.torn, .bool F.dead])) 13 0 (by kernel_rfl) (by kernel_rfl) (by kernel_rfl)) (knows_new (V := isVal (.int .i64 (k : Int))) 14 1 (by kernel_rfl) (by kernel_rfl) (by kernel_rfl))) (enters_of Try.func45 (by kernel_rfl) rfl) (by intro w hb; exact call_has F (k : Int) true _ w (stable_fl _ _ _ _ hfl hb) h1 h2 hhas), ?_⟩
  refine ⟨isVal (.bool false), step_un .not 4 (.tmp 15) (.bool true) (.bool false) (by kernel_rfl) (wanted_none (by kernel_rfl)) (knows_new (V := isVal (.bool true)) 15 2 (by kernel_rfl) (by kernel_rfl) (by kernel_rfl)) (fun _ => rfl), ?_⟩
  refine ⟨isVal (.bool false), step_move (.tmp 16) (by kernel_rfl) (wanted_none (by kernel_rfl)) (stable_val _) (knows_new (V := isVal (.bool false)) 16 3 (by kernel_rfl) (by kernel_rfl) (by kernel_rfl)), ?_⟩
  refine ⟨isVal (.iface 69 (.agg #[])), step_move (.tmp 2) (by kernel_rfl) (wanted_some 4 17 false (by kernel_rfl) (by kernel_rfl) (by kernel_rfl) (by kernel_rfl)) (stable_val _) (knows_old 2 (.iface 69 (.agg #[])) (by kernel_rfl) e2), ?_⟩
  refine ⟨isVal (.pointer (some ⟨g3, 0, none⟩)), step_field 25 (.tmp 3) 0 ⟨g3, 0, none⟩ ⟨g3, 0, none⟩ (by kernel_rfl) (wanted_some 4 17 false (by kernel_rfl) (by kernel_rfl) (by kernel_rfl) (by kernel_rfl)) (knows_old 3 (.pointer (some ⟨g3, 0, none⟩)) (by kernel_rfl) e3) (field_fl g3 0 (by omega)), ?_⟩
  refine ⟨isVal (.slice (some ⟨b, off, none⟩) n cap), step_read 22 (.tmp 19) ⟨g3, 0, none⟩ (.slice (some ⟨b, off, none⟩) n cap) (by kernel_rfl) (wanted_some 4 17 false (by kernel_rfl) (by kernel_rfl) (by kernel_rfl) (by kernel_rfl)) (knows_new (V := isVal (.pointer (some ⟨g3, 0, none⟩))) 19 6 (by kernel_rfl) (by kernel_rfl) (by kernel_rfl)) hc3.2.1 hc3.1 agg_strs, ?_⟩
  refine ⟨isVal (.int .i64 (k : Int)), step_move (.tmp 1) (by kernel_rfl) (wanted_some 4 17 false (by kernel_rfl) (by kernel_rfl) (by kernel_rfl) (by kernel_rfl)) (stable_val _) (knows_old 1 (.int .i64 (k : Int)) (by kernel_rfl) e1), ?_⟩
  refine ⟨isVal (.pointer (some ⟨b, off + k, none⟩)), step_place 22 9 (.tmp 20) (.tmp 21) b off n cap k (by kernel_rfl) (wanted_some 4 17 false (by kernel_rfl) (by kernel_rfl) (by kernel_rfl) (by kernel_rfl)) (knows_new (V := isVal (.slice (some ⟨b, off, none⟩) n cap)) 20 7 (by kernel_rfl) (by kernel_rfl) (by kernel_rfl)) (knows_new (V := isVal (.int .i64 (k : Int))) 21 8 (by kernel_rfl) (by kernel_rfl) (by kernel_rfl)) Try.underlying22 (by kernel_rfl) hkn, ?_⟩
  refine ⟨isVal (.string ⟨was.toArray⟩), step_read 9 (.tmp 22) ⟨b, off + k, none⟩ (.string ⟨was.toArray⟩) (by kernel_rfl) (wanted_some 4 17 false (by kernel_rfl) (by kernel_rfl) (by kernel_rfl) (by kernel_rfl)) (knows_new (V := isVal (.pointer (some ⟨b, off + k, none⟩))) 22 9 (by kernel_rfl) (by kernel_rfl) (by kernel_rfl)) hcell hb0 agg_str, ?_⟩
  refine ⟨isVal (.int .i64 (was.length : Int)), step_len 9 (.tmp 23) (.string ⟨was.toArray⟩) (.int .i64 (was.length : Int)) (by kernel_rfl) (wanted_some 4 17 false (by kernel_rfl) (by kernel_rfl) (by kernel_rfl) (by kernel_rfl)) (knows_new (V := isVal (.string ⟨was.toArray⟩)) 23 10 (by kernel_rfl) (by kernel_rfl) (by kernel_rfl)) (len_str was), ?_⟩
  refine ⟨isVal (.func (.method "ouroboros/flash.fits") #[(.iface 69 (.agg #[]))] #[]), step_method "ouroboros/flash.fits" (.tmp 18) (.iface 69 (.agg #[])) (by kernel_rfl) (wanted_some 4 17 false (by kernel_rfl) (by kernel_rfl) (by kernel_rfl) (by kernel_rfl)) (knows_new (V := isVal (.iface 69 (.agg #[]))) 18 5 (by kernel_rfl) (by kernel_rfl) (by kernel_rfl)), ?_⟩
  refine ⟨isVal (.func (.method "ouroboros/flash.fits") #[(.iface 69 (.agg #[]))] #[]), step_nil "ouroboros/flash.fits" (.tmp 25) 69 (.agg #[]) (by kernel_rfl) (wanted_some 4 17 false (by kernel_rfl) (by kernel_rfl) (by kernel_rfl) (by kernel_rfl)) (knows_new (V := isVal (.func (.method "ouroboros/flash.fits") #[(.iface 69 (.agg #[]))] #[])) 25 12 (by kernel_rfl) (by kernel_rfl) (by kernel_rfl)) (fun w => by kernel_rfl), ?_⟩
  refine ⟨isVal (.iface 69 (.agg #[])), step_move (.tmp 18) (by kernel_rfl) (wanted_some 4 17 false (by kernel_rfl) (by kernel_rfl) (by kernel_rfl) (by kernel_rfl)) (stable_val _) (knows_new (V := isVal (.iface 69 (.agg #[]))) 18 5 (by kernel_rfl) (by kernel_rfl) (by kernel_rfl)), ?_⟩
  refine ⟨isVal (.bool true), step_invoke "ouroboros/flash.fits" (.tmp 27) (.iface 69 (.agg #[])) 122 #[.tmp 24] #[3] #[.int .i64 (was.length : Int)] #[.agg #[], .int .i64 (was.length : Int)] (by kernel_rfl) (wanted_some 4 17 false (by kernel_rfl) (by kernel_rfl) (by kernel_rfl) (by kernel_rfl)) (stable_val _) (args1 (.tmp 24) (.int .i64 (was.length : Int)) (knows_new (V := isVal (.int .i64 (was.length : Int))) 24 11 (by kernel_rfl) (by kernel_rfl) (by kernel_rfl))) (knows_new (V := isVal (.iface 69 (.agg #[]))) 27 14 (by kernel_rfl) (by kernel_rfl) (by kernel_rfl)) (fun w => by kernel_rfl) (by intro w hb; exact call_efits _ w), ?_⟩
  refine ⟨isVal (.bool false), step_un .not 4 (.tmp 28) (.bool true) (.bool false) (by kernel_rfl) (wanted_some 4 17 false (by kernel_rfl) (by kernel_rfl) (by kernel_rfl) (by kernel_rfl)) (knows_new (V := isVal (.bool true)) 28 15 (by kernel_rfl) (by kernel_rfl) (by kernel_rfl)) (fun _ => rfl), ?_⟩
  refine ⟨isVal (.bool false), step_pick (.tmp 17) (.const (.bool true)) (.tmp 29) false (by kernel_rfl) (wanted_none (by kernel_rfl)) (stable_val _) (knows_new (V := isVal (.bool false)) 17 4 (by kernel_rfl) (by kernel_rfl) (by kernel_rfl)) (knows_new (V := isVal (.bool false)) 29 16 (by kernel_rfl) (by kernel_rfl) (by kernel_rfl)), ?_⟩
  intro a w hkp hb hd
  exact hQ a w hkp.1 hkp.2.1 hkp.2.2 (fdone_of (hd 17 (by rw [show takeOps2.size = 18 by kernel_rfl]; decide)) (t := 30) (V := isVal (.bool false)) (by kernel_rfl) (by kernel_rfl)) hb

set_option maxRecDepth 100000 in
set_option maxHeartbeats 2000000 in
theorem take2_pno (Q : Exit → Act → World → Prop) (a0 : Act) (w0 : World) (hsz : a0.tmps.size = 84) (g3 : Nat) (F : Fl) (vp vw : Value) (at_ : Int) (s : List UInt8) (hs : s.length ≤ 1000000) (page : Int)
    (e1 : a0.tmps.getD 1 undef = .int .i64 page) (e2 : a0.tmps.getD 2 undef = (.iface 67 (.agg #[.int .i64 at_, .string ⟨s.toArray⟩]))) (e3 : a0.tmps.getD 3 undef = .pointer (some ⟨g3, 0, none⟩)) (hc3 : Cells5 w0 g3 vp vw (.int .i64 F.fuse) (strC F.torn) (.bool F.dead)) (hfl : isFl F (.agg #[vp, vw, .int .i64 F.fuse, strC F.torn, .bool F.dead]) w0)
    (h1 : F.pages.length ≤ 140737488355328) (h2 : F.wear.length ≤ 140737488355328) (hhas : hasB F page = false)
    (hQ : ∀ (a : Act) (w : World), a.defers = a0.defers → a.tmps.size = a0.tmps.size → (∀ t, (takeOps2.toList.all fun o => o.dst != some t) = true → a.tmps.getD t undef = a0.tmps.getD t undef) → a.tmps.getD 30 undef = .bool true → Below w0.heap.size w0 w → Q .normal a w) :
    (Code.region 2 takeOps2 true).wp Try.prog Q a0 w0 := by
  refine wp_region_flow mixed (by rw [hsz]; kernel_rfl) ?_
  rw [show takeOps2.size = 18 by kernel_rfl]
  refine ⟨isVal (.agg #[vp, vw, .int .i64 F.fuse, strC F.torn, .bool F.dead]), step_load5 (.tmp 3) g3 (by kernel_rfl) (wanted_none (by kernel_rfl)) (knows_old 3 (.pointer (some ⟨g3, 0, none⟩)) (by kernel_rfl) e3) hc3, ?_⟩
  refine ⟨isVal (.int .i64 page), step_move (.tmp 1) (by kernel_rfl) (wanted_none (by kernel_rfl)) (stable_val _) (knows_old 1 (.int .i64 page) (by kernel_rfl) e1), ?_⟩
  refine ⟨isVal (.bool false), step_call 45 #[.tmp 13, .tmp 14] #[25, 3] #[.agg #[vp, vw, .int .i64 F.fuse, strC F.torn, .bool F.dead], .int .i64 page] (by kernel_rfl) (wanted_none (by kernel_rfl)) (stable_val _) (args2 (.tmp 13) (.tmp 14) (.agg #[vp, vw, .int .i64 F.fuse, strC F.torn, .bool F.dead]) (.int .i64 page) (knows_new (V := isVal (.agg #[vp, vw, .int .i64 F.fuse, strC F.torn, .bool F.dead])) 13 0 (by kernel_rfl) (by kernel_rfl) (by kernel_rfl)) (knows_new (V := isVal (.int .i64 page)) 14 1 (by kernel_rfl) (by kernel_rfl) (by kernel_rfl))) (enters_of Try.func45 (by kernel_rfl) rfl) (by intro w hb; exact call_has F page false _ w (stable_fl _ _ _ _ hfl hb) h1 h2 hhas), ?_⟩
  refine ⟨isVal (.bool true), step_un .not 4 (.tmp 15) (.bool false) (.bool true) (by kernel_rfl) (wanted_none (by kernel_rfl)) (knows_new (V := isVal (.bool false)) 15 2 (by kernel_rfl) (by kernel_rfl) (by kernel_rfl)) (fun _ => rfl), ?_⟩
  refine ⟨isVal (.bool true), step_move (.tmp 16) (by kernel_rfl) (wanted_none (by kernel_rfl)) (stable_val _) (knows_new (V := isVal (.bool true)) 16 3 (by kernel_rfl) (by kernel_rfl) (by kernel_rfl)), ?_⟩
  refine ⟨_, step_skip 4 17 false true (by kernel_rfl) (by kernel_rfl) (by kernel_rfl) (by kernel_rfl) rfl, ?_⟩
  refine ⟨_, step_skip 4 17 false true (by kernel_rfl) (by kernel_rfl) (by kernel_rfl) (by kernel_rfl) rfl, ?_⟩
  refine ⟨_, step_skip 4 17 false true (by kernel_rfl) (by kernel_rfl) (by kernel_rfl) (by kernel_rfl) rfl, ?_⟩
  refine ⟨_, step_skip 4 17 false true (by kernel_rfl) (by kernel_rfl) (by kernel_rfl) (by kernel_rfl) rfl, ?_⟩
  refine ⟨_, step_skip 4 17 false true (by kernel_rfl) (by kernel_rfl) (by kernel_rfl) (by kernel_rfl) rfl, ?_⟩
  refine ⟨_, step_skip 4 17 false true (by kernel_rfl) (by kernel_rfl) (by kernel_rfl) (by kernel_rfl) rfl, ?_⟩
  refine ⟨_, step_skip 4 17 false true (by kernel_rfl) (by kernel_rfl) (by kernel_rfl) (by kernel_rfl) rfl, ?_⟩
  refine ⟨_, step_skip 4 17 false true (by kernel_rfl) (by kernel_rfl) (by kernel_rfl) (by kernel_rfl) rfl, ?_⟩
  refine ⟨_, step_skip 4 17 false true (by kernel_rfl) (by kernel_rfl) (by kernel_rfl) (by kernel_rfl) rfl, ?_⟩
  refine ⟨_, step_skip 4 17 false true (by kernel_rfl) (by kernel_rfl) (by kernel_rfl) (by kernel_rfl) rfl, ?_⟩
  refine ⟨_, step_skip 4 17 false true (by kernel_rfl) (by kernel_rfl) (by kernel_rfl) (by kernel_rfl) rfl, ?_⟩
  refine ⟨_, step_skip 4 17 false true (by kernel_rfl) (by kernel_rfl) (by kernel_rfl) (by kernel_rfl) rfl, ?_⟩
  refine ⟨isVal (.bool true), step_pick (.tmp 17) (.const (.bool true)) (.tmp 29) true (by kernel_rfl) (wanted_none (by kernel_rfl)) (stable_val _) (knows_new (V := isVal (.bool true)) 17 4 (by kernel_rfl) (by kernel_rfl) (by kernel_rfl)) (knows_const _), ?_⟩
  intro a w hkp hb hd
  exact hQ a w hkp.1 hkp.2.1 hkp.2.2 (fdone_of (hd 17 (by rw [show takeOps2.size = 18 by kernel_rfl]; decide)) (t := 30) (V := isVal (.bool true)) (by kernel_rfl) (by kernel_rfl)) hb

set_option maxRecDepth 100000 in
set_option maxHeartbeats 2000000 in
theorem take2_pyes (Q : Exit → Act → World → Prop) (a0 : Act) (w0 : World) (hsz : a0.tmps.size = 84) (g3 : Nat) (F : Fl) (vw : Value) (at_ : Int) (s : List UInt8) (hs : s.length ≤ 1000000) (k b off n cap : Nat) (was : List UInt8) (hkn : k < n) (hcell : w0.cell? ⟨b, off + k, none⟩ = some (.string ⟨was.toArray⟩)) (hb0 : b < w0.heap.size) (hw1 : was.length ≤ 1000000) (hfits : (decide (0 ≤ at_) && decide (at_ ≤ (was.length : Int) - s.length)) = true)
    (e1 : a0.tmps.getD 1 undef = .int .i64 (k : Int)) (e2 : a0.tmps.getD 2 undef = (.iface 67 (.agg #[.int .i64 at_, .string ⟨s.toArray⟩]))) (e3 : a0.tmps.getD 3 undef = .pointer (some ⟨g3, 0, none⟩)) (hc3 : Cells5 w0 g3 (.slice (some ⟨b, off, none⟩) n cap) vw (.int .i64 F.fuse) (strC F.torn) (.bool F.dead)) (hfl : isFl F (.agg #[(.slice (some ⟨b, off, none⟩) n cap), vw, .int .i64 F.fuse, strC F.torn, .bool F.dead]) w0)
    (h1 : F.pages.length ≤ 140737488355328) (h2 : F.wear.length ≤ 140737488355328) (hhas : hasB F (k : Int) = true)
    (hQ : ∀ (a : Act) (w : World), a.defers = a0.defers → a.tmps.size = a0.tmps.size → (∀ t, (takeOps2.toList.all fun o => o.dst != some t) = true → a.tmps.getD t undef = a0.tmps.getD t undef) → a.tmps.getD 30 undef = .bool false → Below w0.heap.size w0 w → Q .normal a w) :
    (Code.region 2 takeOps2 true).wp Try.prog Q a0 w0 := by
  refine wp_region_flow mixed (by rw [hsz]; kernel_rfl) ?_
  rw [show takeOps2.size = 18 by kernel_rfl]
  refine ⟨isVal (.agg #[(.slice (some ⟨b, off, none⟩) n cap), vw, .int .i64 F.fuse, strC F.torn, .bool F.dead]), step_load5 (.tmp 3) g3 (by kernel_rfl) (wanted_none (by kernel_rfl)) (knows_old 3 (.pointer (some ⟨g3, 0, none⟩)) (by kernel_rfl) e3) hc3, ?_⟩
  refine ⟨isVal (.int .i64 (k : Int)), step_move (.tmp 1) (by kernel_rfl) (wanted_none (by kernel_rfl)) (stable_val _) (knows_old 1 (.int .i64 (k : Int)) (by kernel_rfl) e1), ?_⟩
  refine ⟨isVal (.bool true), step_call 45 #[.tmp 13, .tmp 14] #[25, 3] #[.agg #[(.slice (some ⟨b, off, none⟩) n cap), vw, .int .i64 F.fuse, strC F.torn, .bool F.dead], .int .i64 (k : Int)] (by kernel_rfl) (wanted_none (by kernel_rfl)) (stable_val _) (args2 (.tmp 13) (.tmp 14) (.agg #[(.slice (some ⟨b, off, none⟩) n cap), vw, .int .i64 F.fuse, strC F.torn, .bool F.dead]) (.int .i64 (k : Int)) (knows_new (V := isVal (.agg #[(.slice (some ⟨b, off, none⟩) n cap), vw, .int .i64 F.fuse, strC F.torn, .bool F.dead])) 13 0 (by kernel_rfl) (by kernel_rfl) (by kernel_rfl)) (knows_new (V := isVal (.int .i64 (k : Int))) 14 1 (by kernel_rfl) (by kernel_rfl) (by kernel_rfl))) (enters_of Try.func45 (by kernel_rfl) rfl) (by intro w hb; exact call_has F (k : Int) true _ w (stable_fl _ _ _ _ hfl hb) h1 h2 hhas), ?_⟩
  refine ⟨isVal (.bool false), step_un .not 4 (.tmp 15) (.bool true) (.bool false) (by kernel_rfl) (wanted_none (by kernel_rfl)) (knows_new (V := isVal (.bool true)) 15 2 (by kernel_rfl) (by kernel_rfl) (by kernel_rfl)) (fun _ => rfl), ?_⟩
  refine ⟨isVal (.bool false), step_move (.tmp 16) (by kernel_rfl) (wanted_none (by kernel_rfl)) (stable_val _) (knows_new (V := isVal (.bool false)) 16 3 (by kernel_rfl) (by kernel_rfl) (by kernel_rfl)), ?_⟩
  refine ⟨isVal (.iface 67 (.agg #[.int .i64 at_, .string ⟨s.toArray⟩])), step_move (.tmp 2) (by kernel_rfl) (wanted_some 4 17 false (by kernel_rfl) (by kernel_rfl) (by kernel_rfl) (by kernel_rfl)) (stable_val _) (knows_old 2 (.iface 67 (.agg #[.int .i64 at_, .string ⟨s.toArray⟩])) (by kernel_rfl) e2), ?_⟩
  refine ⟨isVal (.pointer (some ⟨g3, 0, none⟩)), step_field 25 (.tmp 3) 0 ⟨g3, 0, none⟩ ⟨g3, 0, none⟩ (by kernel_rfl) (wanted_some 4 17 false (by kernel_rfl) (by kernel_rfl) (by kernel_rfl) (by kernel_rfl)) (knows_old 3 (.pointer (some ⟨g3, 0, none⟩)) (by kernel_rfl) e3) (field_fl g3 0 (by omega)), ?_⟩
  refine ⟨isVal (.slice (some ⟨b, off, none⟩) n cap), step_read 22 (.tmp 19) ⟨g3, 0, none⟩ (.slice (some ⟨b, off, none⟩) n cap) (by kernel_rfl) (wanted_some 4 17 false (by kernel_rfl) (by kernel_rfl) (by kernel_rfl) (by kernel_rfl)) (knows_new (V := isVal (.pointer (some ⟨g3, 0, none⟩))) 19 6 (by kernel_rfl) (by kernel_rfl) (by kernel_rfl)) hc3.2.1 hc3.1 agg_strs, ?_⟩
  refine ⟨isVal (.int .i64 (k : Int)), step_move (.tmp 1) (by kernel_rfl) (wanted_some 4 17 false (by kernel_rfl) (by kernel_rfl) (by kernel_rfl) (by kernel_rfl)) (stable_val _) (knows_old 1 (.int .i64 (k : Int)) (by kernel_rfl) e1), ?_⟩
  refine ⟨isVal (.pointer (some ⟨b, off + k, none⟩)), step_place 22 9 (.tmp 20) (.tmp 21) b off n cap k (by kernel_rfl) (wanted_some 4 17 false (by kernel_rfl) (by kernel_rfl) (by kernel_rfl) (by kernel_rfl)) (knows_new (V := isVal (.slice (some ⟨b, off, none⟩) n cap)) 20 7 (by kernel_rfl) (by kernel_rfl) (by kernel_rfl)) (knows_new (V := isVal (.int .i64 (k : Int))) 21 8 (by kernel_rfl) (by kernel_rfl) (by kernel_rfl)) Try.underlying22 (by kernel_rfl) hkn, ?_⟩
  refine ⟨isVal (.string ⟨was.toArray⟩), step_read 9 (.tmp 22) ⟨b, off + k, none⟩ (.string ⟨was.toArray⟩) (by kernel_rfl) (wanted_some 4 17 false (by kernel_rfl) (by kernel_rfl) (by kernel_rfl) (by kernel_rfl)) (knows_new (V := isVal (.pointer (some ⟨b, off + k, none⟩))) 22 9 (by kernel_rfl) (by kernel_rfl) (by kernel_rfl)) hcell hb0 agg_str, ?_⟩
  refine ⟨isVal (.int .i64 (was.length : Int)), step_len 9 (.tmp 23) (.string ⟨was.toArray⟩) (.int .i64 (was.length : Int)) (by kernel_rfl) (wanted_some 4 17 false (by kernel_rfl) (by kernel_rfl) (by kernel_rfl) (by kernel_rfl)) (knows_new (V := isVal (.string ⟨was.toArray⟩)) 23 10 (by kernel_rfl) (by kernel_rfl) (by kernel_rfl)) (len_str was), ?_⟩
  refine ⟨isVal (.func (.method "ouroboros/flash.fits") #[(.iface 67 (.agg #[.int .i64 at_, .string ⟨s.toArray⟩]))] #[]), step_method "ouroboros/flash.fits" (.tmp 18) (.iface 67 (.agg #[.int .i64 at_, .string ⟨s.toArray⟩])) (by kernel_rfl) (wanted_some 4 17 false (by kernel_rfl) (by kernel_rfl) (by kernel_rfl) (by kernel_rfl)) (knows_new (V := isVal (.iface 67 (.agg #[.int .i64 at_, .string ⟨s.toArray⟩]))) 18 5 (by kernel_rfl) (by kernel_rfl) (by kernel_rfl)), ?_⟩
  refine ⟨isVal (.func (.method "ouroboros/flash.fits") #[(.iface 67 (.agg #[.int .i64 at_, .string ⟨s.toArray⟩]))] #[]), step_nil "ouroboros/flash.fits" (.tmp 25) 67 (.agg #[.int .i64 at_, .string ⟨s.toArray⟩]) (by kernel_rfl) (wanted_some 4 17 false (by kernel_rfl) (by kernel_rfl) (by kernel_rfl) (by kernel_rfl)) (knows_new (V := isVal (.func (.method "ouroboros/flash.fits") #[(.iface 67 (.agg #[.int .i64 at_, .string ⟨s.toArray⟩]))] #[])) 25 12 (by kernel_rfl) (by kernel_rfl) (by kernel_rfl)) (fun w => by kernel_rfl), ?_⟩
  refine ⟨isVal (.iface 67 (.agg #[.int .i64 at_, .string ⟨s.toArray⟩])), step_move (.tmp 18) (by kernel_rfl) (wanted_some 4 17 false (by kernel_rfl) (by kernel_rfl) (by kernel_rfl) (by kernel_rfl)) (stable_val _) (knows_new (V := isVal (.iface 67 (.agg #[.int .i64 at_, .string ⟨s.toArray⟩]))) 18 5 (by kernel_rfl) (by kernel_rfl) (by kernel_rfl)), ?_⟩
  refine ⟨isVal (.bool true), step_invoke "ouroboros/flash.fits" (.tmp 27) (.iface 67 (.agg #[.int .i64 at_, .string ⟨s.toArray⟩])) 119 #[.tmp 24] #[3] #[.int .i64 (was.length : Int)] #[.agg #[.int .i64 at_, .string ⟨s.toArray⟩], .int .i64 (was.length : Int)] (by kernel_rfl) (wanted_some 4 17 false (by kernel_rfl) (by kernel_rfl) (by kernel_rfl) (by kernel_rfl)) (stable_val _) (args1 (.tmp 24) (.int .i64 (was.length : Int)) (knows_new (V := isVal (.int .i64 (was.length : Int))) 24 11 (by kernel_rfl) (by kernel_rfl) (by kernel_rfl))) (knows_new (V := isVal (.iface 67 (.agg #[.int .i64 at_, .string ⟨s.toArray⟩]))) 27 14 (by kernel_rfl) (by kernel_rfl) (by kernel_rfl)) (fun w => by kernel_rfl) (by intro w hb; exact call_pfits at_ s was.length true w hs hw1 hfits), ?_⟩
  refine ⟨isVal (.bool false), step_un .not 4 (.tmp 28) (.bool true) (.bool false) (by kernel_rfl) (wanted_some 4 17 false (by kernel_rfl) (by kernel_rfl) (by kernel_rfl) (by kernel_rfl)) (knows_new (V := isVal (.bool true)) 28 15 (by kernel_rfl) (by kernel_rfl) (by kernel_rfl)) (fun _ => rfl), ?_⟩
  refine ⟨isVal (.bool false), step_pick (.tmp 17) (.const (.bool true)) (.tmp 29) false (by kernel_rfl) (wanted_none (by kernel_rfl)) (stable_val _) (knows_new (V := isVal (.bool false)) 17 4 (by kernel_rfl) (by kernel_rfl) (by kernel_rfl)) (knows_new (V := isVal (.bool false)) 29 16 (by kernel_rfl) (by kernel_rfl) (by kernel_rfl)), ?_⟩
  intro a w hkp hb hd
  exact hQ a w hkp.1 hkp.2.1 hkp.2.2 (fdone_of (hd 17 (by rw [show takeOps2.size = 18 by kernel_rfl]; decide)) (t := 30) (V := isVal (.bool false)) (by kernel_rfl) (by kernel_rfl)) hb

set_option maxRecDepth 100000 in
set_option maxHeartbeats 2000000 in
theorem take2_pout (Q : Exit → Act → World → Prop) (a0 : Act) (w0 : World) (hsz : a0.tmps.size = 84) (g3 : Nat) (F : Fl) (vw : Value) (at_ : Int) (s : List UInt8) (hs : s.length ≤ 1000000) (k b off n cap : Nat) (was : List UInt8) (hkn : k < n) (hcell : w0.cell? ⟨b, off + k, none⟩ = some (.string ⟨was.toArray⟩)) (hb0 : b < w0.heap.size) (hw1 : was.length ≤ 1000000) (hfits : (decide (0 ≤ at_) && decide (at_ ≤ (was.length : Int) - s.length)) = false)
    (e1 : a0.tmps.getD 1 undef = .int .i64 (k : Int)) (e2 : a0.tmps.getD 2 undef = (.iface 67 (.agg #[.int .i64 at_, .string ⟨s.toArray⟩]))) (e3 : a0.tmps.getD 3 undef = .pointer (some ⟨g3, 0, none⟩)) (hc3 : Cells5 w0 g3 (.slice (some ⟨b, off, none⟩) n cap) vw (.int .i64 F.fuse) (strC F.torn) (.bool F.dead)) (hfl : isFl F (.agg #[(.slice (some ⟨b, off, none⟩) n cap), vw, .int .i64 F.fuse, strC F.torn, .bool F.dead]) w0)
    (h1 : F.pages.length ≤ 140737488355328) (h2 : F.wear.length ≤ 140737488355328) (hhas : hasB F (k : Int) = true)
    (hQ : ∀ (a : Act) (w : World), a.defers = a0.defers → a.tmps.size = a0.tmps.size → (∀ t, (takeOps2.toList.all fun o => o.dst != some t) = true → a.tmps.getD t undef = a0.tmps.getD t undef) → a.tmps.getD 30 undef = .bool true → Below w0.heap.size w0 w → Q .normal a w) :
    (Code.region 2 takeOps2 true).wp Try.prog Q a0 w0 := by
  refine wp_region_flow mixed (by rw [hsz]; kernel_rfl) ?_
  rw [show takeOps2.size = 18 by kernel_rfl]
  refine ⟨isVal (.agg #[(.slice (some ⟨b, off, none⟩) n cap), vw, .int .i64 F.fuse, strC F.torn, .bool F.dead]), step_load5 (.tmp 3) g3 (by kernel_rfl) (wanted_none (by kernel_rfl)) (knows_old 3 (.pointer (some ⟨g3, 0, none⟩)) (by kernel_rfl) e3) hc3, ?_⟩
  refine ⟨isVal (.int .i64 (k : Int)), step_move (.tmp 1) (by kernel_rfl) (wanted_none (by kernel_rfl)) (stable_val _) (knows_old 1 (.int .i64 (k : Int)) (by kernel_rfl) e1), ?_⟩
  refine ⟨isVal (.bool true), step_call 45 #[.tmp 13, .tmp 14] #[25, 3] #[.agg #[(.slice (some ⟨b, off, none⟩) n cap), vw, .int .i64 F.fuse, strC F.torn, .bool F.dead], .int .i64 (k : Int)] (by kernel_rfl) (wanted_none (by kernel_rfl)) (stable_val _) (args2 (.tmp 13) (.tmp 14) (.agg #[(.slice (some ⟨b, off, none⟩) n cap), vw, .int .i64 F.fuse, strC F.torn, .bool F.dead]) (.int .i64 (k : Int)) (knows_new (V := isVal (.agg #[(.slice (some ⟨b, off, none⟩) n cap), vw, .int .i64 F.fuse, strC F.torn, .bool F.dead])) 13 0 (by kernel_rfl) (by kernel_rfl) (by kernel_rfl)) (knows_new (V := isVal (.int .i64 (k : Int))) 14 1 (by kernel_rfl) (by kernel_rfl) (by kernel_rfl))) (enters_of Try.func45 (by kernel_rfl) rfl) (by intro w hb; exact call_has F (k : Int) true _ w (stable_fl _ _ _ _ hfl hb) h1 h2 hhas), ?_⟩
  refine ⟨isVal (.bool false), step_un .not 4 (.tmp 15) (.bool true) (.bool false) (by kernel_rfl) (wanted_none (by kernel_rfl)) (knows_new (V := isVal (.bool true)) 15 2 (by kernel_rfl) (by kernel_rfl) (by kernel_rfl)) (fun _ => rfl), ?_⟩
  refine ⟨isVal (.bool false), step_move (.tmp 16) (by kernel_rfl) (wanted_none (by kernel_rfl)) (stable_val _) (knows_new (V := isVal (.bool false)) 16 3 (by kernel_rfl) (by kernel_rfl) (by kernel_rfl)), ?_⟩
  refine ⟨isVal (.iface 67 (.agg #[.int .i64 at_, .string ⟨s.toArray⟩])), step_move (.tmp 2) (by kernel_rfl) (wanted_some 4 17 false (by kernel_rfl) (by kernel_rfl) (by kernel_rfl) (by kernel_rfl)) (stable_val _) (knows_old 2 (.iface 67 (.agg #[.int .i64 at_, .string ⟨s.toArray⟩])) (by kernel_rfl) e2), ?_⟩
  refine ⟨isVal (.pointer (some ⟨g3, 0, none⟩)), step_field 25 (.tmp 3) 0 ⟨g3, 0, none⟩ ⟨g3, 0, none⟩ (by kernel_rfl) (wanted_some 4 17 false (by kernel_rfl) (by kernel_rfl) (by kernel_rfl) (by kernel_rfl)) (knows_old 3 (.pointer (some ⟨g3, 0, none⟩)) (by kernel_rfl) e3) (field_fl g3 0 (by omega)), ?_⟩
  refine ⟨isVal (.slice (some ⟨b, off, none⟩) n cap), step_read 22 (.tmp 19) ⟨g3, 0, none⟩ (.slice (some ⟨b, off, none⟩) n cap) (by kernel_rfl) (wanted_some 4 17 false (by kernel_rfl) (by kernel_rfl) (by kernel_rfl) (by kernel_rfl)) (knows_new (V := isVal (.pointer (some ⟨g3, 0, none⟩))) 19 6 (by kernel_rfl) (by kernel_rfl) (by kernel_rfl)) hc3.2.1 hc3.1 agg_strs, ?_⟩
  refine ⟨isVal (.int .i64 (k : Int)), step_move (.tmp 1) (by kernel_rfl) (wanted_some 4 17 false (by kernel_rfl) (by kernel_rfl) (by kernel_rfl) (by kernel_rfl)) (stable_val _) (knows_old 1 (.int .i64 (k : Int)) (by kernel_rfl) e1), ?_⟩
  refine ⟨isVal (.pointer (some ⟨b, off + k, none⟩)), step_place 22 9 (.tmp 20) (.tmp 21) b off n cap k (by kernel_rfl) (wanted_some 4 17 false (by kernel_rfl) (by kernel_rfl) (by kernel_rfl) (by kernel_rfl)) (knows_new (V := isVal (.slice (some ⟨b, off, none⟩) n cap)) 20 7 (by kernel_rfl) (by kernel_rfl) (by kernel_rfl)) (knows_new (V := isVal (.int .i64 (k : Int))) 21 8 (by kernel_rfl) (by kernel_rfl) (by kernel_rfl)) Try.underlying22 (by kernel_rfl) hkn, ?_⟩
  refine ⟨isVal (.string ⟨was.toArray⟩), step_read 9 (.tmp 22) ⟨b, off + k, none⟩ (.string ⟨was.toArray⟩) (by kernel_rfl) (wanted_some 4 17 false (by kernel_rfl) (by kernel_rfl) (by kernel_rfl) (by kernel_rfl)) (knows_new (V := isVal (.pointer (some ⟨b, off + k, none⟩))) 22 9 (by kernel_rfl) (by kernel_rfl) (by kernel_rfl)) hcell hb0 agg_str, ?_⟩
  refine ⟨isVal (.int .i64 (was.length : Int)), step_len 9 (.tmp 23) (.string ⟨was.toArray⟩) (.int .i64 (was.length : Int)) (by kernel_rfl) (wanted_some 4 17 false (by kernel_rfl) (by kernel_rfl) (by kernel_rfl) (by kernel_rfl)) (knows_new (V := isVal (.string ⟨was.toArray⟩)) 23 10 (by kernel_rfl) (by kernel_rfl) (by kernel_rfl)) (len_str was), ?_⟩
  refine ⟨isVal (.func (.method "ouroboros/flash.fits") #[(.iface 67 (.agg #[.int .i64 at_, .string ⟨s.toArray⟩]))] #[]), step_method "ouroboros/flash.fits" (.tmp 18) (.iface 67 (.agg #[.int .i64 at_, .string ⟨s.toArray⟩])) (by kernel_rfl) (wanted_some 4 17 false (by kernel_rfl) (by kernel_rfl) (by kernel_rfl) (by kernel_rfl)) (knows_new (V := isVal (.iface 67 (.agg #[.int .i64 at_, .string ⟨s.toArray⟩]))) 18 5 (by kernel_rfl) (by kernel_rfl) (by kernel_rfl)), ?_⟩
  refine ⟨isVal (.func (.method "ouroboros/flash.fits") #[(.iface 67 (.agg #[.int .i64 at_, .string ⟨s.toArray⟩]))] #[]), step_nil "ouroboros/flash.fits" (.tmp 25) 67 (.agg #[.int .i64 at_, .string ⟨s.toArray⟩]) (by kernel_rfl) (wanted_some 4 17 false (by kernel_rfl) (by kernel_rfl) (by kernel_rfl) (by kernel_rfl)) (knows_new (V := isVal (.func (.method "ouroboros/flash.fits") #[(.iface 67 (.agg #[.int .i64 at_, .string ⟨s.toArray⟩]))] #[])) 25 12 (by kernel_rfl) (by kernel_rfl) (by kernel_rfl)) (fun w => by kernel_rfl), ?_⟩
  refine ⟨isVal (.iface 67 (.agg #[.int .i64 at_, .string ⟨s.toArray⟩])), step_move (.tmp 18) (by kernel_rfl) (wanted_some 4 17 false (by kernel_rfl) (by kernel_rfl) (by kernel_rfl) (by kernel_rfl)) (stable_val _) (knows_new (V := isVal (.iface 67 (.agg #[.int .i64 at_, .string ⟨s.toArray⟩]))) 18 5 (by kernel_rfl) (by kernel_rfl) (by kernel_rfl)), ?_⟩
  refine ⟨isVal (.bool false), step_invoke "ouroboros/flash.fits" (.tmp 27) (.iface 67 (.agg #[.int .i64 at_, .string ⟨s.toArray⟩])) 119 #[.tmp 24] #[3] #[.int .i64 (was.length : Int)] #[.agg #[.int .i64 at_, .string ⟨s.toArray⟩], .int .i64 (was.length : Int)] (by kernel_rfl) (wanted_some 4 17 false (by kernel_rfl) (by kernel_rfl) (by kernel_rfl) (by kernel_rfl)) (stable_val _) (args1 (.tmp 24) (.int .i64 (was.length : Int)) (knows_new (V := isVal (.int .i64 (was.length : Int))) 24 11 (by kernel_rfl) (by kernel_rfl) (by kernel_rfl))) (knows_new (V := isVal (.iface 67 (.agg #[.int .i64 at_, .string ⟨s.toArray⟩]))) 27 14 (by kernel_rfl) (by kernel_rfl) (by kernel_rfl)) (fun w => by kernel_rfl) (by intro w hb; exact call_pfits at_ s was.length false w hs hw1 hfits), ?_⟩
  refine ⟨isVal (.bool true), step_un .not 4 (.tmp 28) (.bool false) (.bool true) (by kernel_rfl) (wanted_some 4 17 false (by kernel_rfl) (by kernel_rfl) (by kernel_rfl) (by kernel_rfl)) (knows_new (V := isVal (.bool false)) 28 15 (by kernel_rfl) (by kernel_rfl) (by kernel_rfl)) (fun _ => rfl), ?_⟩
  refine ⟨isVal (.bool true), step_pick (.tmp 17) (.const (.bool true)) (.tmp 29) false (by kernel_rfl) (wanted_none (by kernel_rfl)) (stable_val _) (knows_new (V := isVal (.bool false)) 17 4 (by kernel_rfl) (by kernel_rfl) (by kernel_rfl)) (knows_new (V := isVal (.bool true)) 29 16 (by kernel_rfl) (by kernel_rfl) (by kernel_rfl)), ?_⟩
  intro a w hkp hb hd
  exact hQ a w hkp.1 hkp.2.1 hkp.2.2 (fdone_of (hd 17 (by rw [show takeOps2.size = 18 by kernel_rfl]; decide)) (t := 30) (V := isVal (.bool true)) (by kernel_rfl) (by kernel_rfl)) hb

section
variable {P : Program} {ops : Array Oper} {Q : Exit → Act → World → Prop} {i c : Nat} {a : Act} {w : World}
theorem tail_place (t e : TypeId) (x y : Operand) (b off n cap k : Nat) (d : Tmp) (hop : (ops[i]?).map (fun o => (o.op, o.guard)) = some (.indexAddr t x y, none)) (hd : (ops[i]?).bind (·.dst) = some d) (hx : a.eval x = .slice (some ⟨b, off, none⟩) n cap) (hy : a.eval y = .int .i64 (k : Int))
    (ht : P.underlying t = some (.slice e)) (hi : (P.info? e).map (·.size) = some 1) (hk : k < n) (h : Tail P ops Q c (i + 1) (a.put (some d) (.pointer (some ⟨b, off + k, none⟩))) w) : Tail P ops Q (c + 1) i a w :=
  tail_op (fun _ _ => True) hop fun o ho e' => by
    rw [ho] at hd
    simp only [Option.bind_some] at hd
    obtain ⟨ie, hie, hz⟩ := Option.map_eq_some_iff.1 hi
    have hsz : (sizeOf e).run P w = .ok 1 w := by simp [sizeOf, typeInfo, hie, hz]
    have hr : (Instr.indexAt t (.slice (some ⟨b, off, none⟩) n cap) (.int .i64 (k : Int))).run P w = .ok (.pointer (some ⟨b, off + k, none⟩)) w := by
      simp [Instr.indexAt, run_underlying ht, asIntOf, hsz, hk, Addr.add]
    unfold Oper.wp execOp
    rw [e']
    simp only [hx, hy, Sem.run_bind, hr, Result.andThen_ok, Sem.run_pure, Oper.upon, hd]
    exact h
end

set_option maxRecDepth 100000 in
set_option maxHeartbeats 2000000 in
theorem take9 (Q : Exit → Act → World → Prop) (a0 : Act) (w0 W : World) (hsz : a0.tmps.size = 84) (lo hi g3 g6 g8 k gp np capp : Nat) (F G : Fl) (vp vw vw' : Value) (was would : List UInt8)
    (e1 : a0.tmps.getD 1 undef = .int .i64 (k : Int)) (e3 : a0.tmps.getD 3 undef = .pointer (some ⟨g3, 0, none⟩)) (e8 : a0.tmps.getD 8 undef = .pointer (some ⟨g8, 0, none⟩)) (e9 : a0.tmps.getD 9 undef = .string ⟨was.toArray⟩) (e10 : a0.tmps.getD 10 undef = .string ⟨would.toArray⟩)
    (h : TI w0 W lo hi g3 g6 g8 F G vp vw (.slice (some ⟨gp, 0, none⟩) np capp) vw') (hknp : k < np) (hkg : k < G.pages.length) (hw1 : was.length ≤ 1000000) (hw2 : would.length ≤ 1000000) (hw3 : F.torn.length ≤ 1000000)
    (hQ : ∀ (a : Act) (W' : World), a.defers = a0.defers → a.tmps.size = a0.tmps.size → (∀ t, (takeOps9.toList.all fun o => o.dst != some t) = true → a.tmps.getD t undef = a0.tmps.getD t undef) →
      TI w0 W' lo hi g3 g6 g8 F { G with pages := G.pages.set k (betweenL was would F.torn), dead := true } vp vw (.slice (some ⟨gp, 0, none⟩) np capp) vw' → Q .normal a W') :
    (Code.region 9 takeOps9 true).wp Try.prog Q a0 W := by
  have hc3 := h.c3
  have hc8 := h.c8
  refine wp_region_tail 9 mixed (by rw [hsz]; kernel_rfl) (by kernel_rfl) ?_
  rw [show takeOps9.size - 9 = 3 by kernel_rfl]
  refine ⟨isVal (.pointer (some ⟨g8, 0, none⟩)), step_field 25 (.tmp 8) 0 ⟨g8, 0, none⟩ ⟨g8, 0, none⟩ (by kernel_rfl) (wanted_none (by kernel_rfl)) (knows_old 8 (.pointer (some ⟨g8, 0, none⟩)) (by kernel_rfl) e8) (field_fl g8 0 (by omega)), ?_⟩
  refine ⟨isVal (.slice (some ⟨gp, 0, none⟩) np capp), step_read 22 (.tmp 46) ⟨g8, 0, none⟩ (.slice (some ⟨gp, 0, none⟩) np capp) (by kernel_rfl) (wanted_none (by kernel_rfl)) (knows_new (V := isVal (.pointer (some ⟨g8, 0, none⟩))) 46 0 (by kernel_rfl) (by kernel_rfl) (by kernel_rfl)) hc8.2.1 hc8.1 agg_strs, ?_⟩
  refine ⟨isVal (.int .i64 (k : Int)), step_move (.tmp 1) (by kernel_rfl) (wanted_none (by kernel_rfl)) (stable_val _) (knows_old 1 (.int .i64 (k : Int)) (by kernel_rfl) e1), ?_⟩
  refine ⟨isVal (.string ⟨was.toArray⟩), step_move (.tmp 9) (by kernel_rfl) (wanted_none (by kernel_rfl)) (stable_val _) (knows_old 9 (.string ⟨was.toArray⟩) (by kernel_rfl) e9), ?_⟩
  refine ⟨isVal (.string ⟨would.toArray⟩), step_move (.tmp 10) (by kernel_rfl) (wanted_none (by kernel_rfl)) (stable_val _) (knows_old 10 (.string ⟨would.toArray⟩) (by kernel_rfl) e10), ?_⟩
  refine ⟨isVal (.pointer (some ⟨g3, 3, none⟩)), step_field 25 (.tmp 3) 3 ⟨g3, 0, none⟩ ⟨g3, 3, none⟩ (by kernel_rfl) (wanted_none (by kernel_rfl)) (knows_old 3 (.pointer (some ⟨g3, 0, none⟩)) (by kernel_rfl) e3) (field_fl g3 3 (by omega)), ?_⟩
  refine ⟨isVal (.string ⟨F.torn.toArray⟩), step_read 9 (.tmp 51) ⟨g3, 3, none⟩ (.string ⟨F.torn.toArray⟩) (by kernel_rfl) (wanted_none (by kernel_rfl)) (knows_new (V := isVal (.pointer (some ⟨g3, 3, none⟩))) 51 5 (by kernel_rfl) (by kernel_rfl) (by kernel_rfl)) hc3.2.2.2.2.1 hc3.1 agg_str, ?_⟩
  refine ⟨isVal (.string ⟨(betweenL was would F.torn).toArray⟩), step_call 80 #[.tmp 49, .tmp 50, .tmp 52] #[9, 9, 9] #[.string ⟨was.toArray⟩, .string ⟨would.toArray⟩, .string ⟨F.torn.toArray⟩] (by kernel_rfl) (wanted_none (by kernel_rfl)) (stable_val _) (args3 (.tmp 49) (.tmp 50) (.tmp 52) (.string ⟨was.toArray⟩) (.string ⟨would.toArray⟩) (.string ⟨F.torn.toArray⟩) (knows_new (V := isVal (.string ⟨was.toArray⟩)) 49 3 (by kernel_rfl) (by kernel_rfl) (by kernel_rfl)) (knows_new (V := isVal (.string ⟨would.toArray⟩)) 50 4 (by kernel_rfl) (by kernel_rfl) (by kernel_rfl)) (knows_new (V := isVal (.string ⟨F.torn.toArray⟩)) 52 6 (by kernel_rfl) (by kernel_rfl) (by kernel_rfl))) (enters_of Try.func80 (by kernel_rfl) rfl) (by intro w hb; exact call_between was would F.torn w hw1 hw2 hw3), ?_⟩
  refine ⟨isVal (.pointer (some ⟨gp, 0 + k, none⟩)), step_place 22 9 (.tmp 47) (.tmp 48) gp 0 np capp k (by kernel_rfl) (wanted_none (by kernel_rfl)) (knows_new (V := isVal (.slice (some ⟨gp, 0, none⟩) np capp)) 47 1 (by kernel_rfl) (by kernel_rfl) (by kernel_rfl)) (knows_new (V := isVal (.int .i64 (k : Int))) 48 2 (by kernel_rfl) (by kernel_rfl) (by kernel_rfl)) Try.underlying22 (by kernel_rfl) hknp, ?_⟩
  intro a w hk hb hd
  have d53 := fdone_of (hd 7 (by decide)) (t := 53) (V := isVal (.string ⟨(betweenL was would F.torn).toArray⟩)) (by kernel_rfl) (by kernel_rfl)
  have d54 := fdone_of (hd 8 (by decide)) (t := 54) (V := isVal (.pointer (some ⟨gp, 0 + k, none⟩))) (by kernel_rfl) (by kernel_rfl)
  rw [Nat.zero_add] at d54
  have x8 : a.tmps.getD 8 undef = .pointer (some ⟨g8, 0, none⟩) := (hk.2.2 8 (by kernel_rfl)).trans e8
  have hs55 : 55 < a.tmps.size := by rw [hk.2.1, hsz]; decide
  have T1 := h.grow hb
  obtain ⟨q1, q2, _⟩ := T1.p'.cell k (strC G.pages[k]) (get_map strC _ _ hkg)
  refine tail_store 9 (.tmp 54) (.tmp 53) ⟨gp, k, none⟩ (strC (betweenL was would F.torn)) _ (by kernel_rfl) (by kernel_rfl) d54 d53 (by kernel_rfl) rfl rfl q1 q2 ?_
  have T2 := T1.page k hkg (betweenL was would F.torn)
  refine tail_field 25 (.tmp 8) 4 ⟨g8, 0, none⟩ ⟨g8, 4, none⟩ 55 (by kernel_rfl) (by kernel_rfl) x8 (field_fl g8 4 (by omega)) ?_
  refine tail_store 4 (.tmp 55) (.const (.bool true)) ⟨g8, 4, none⟩ (.bool true) _ (by kernel_rfl) (by kernel_rfl) (getD_put_self hs55) rfl (by kernel_rfl) rfl rfl T2.c8.2.2.2.2.2 (T2.f8 4) ?_
  refine hQ _ _ ((defers_put (a := a)).trans hk.1) ((size_put (a := a)).trans hk.2.1) (fun t ht => ?_) (T2.die true)
  have hall : (takeOps9.toList.all fun o => o.dst != some 55) = false := by kernel_rfl
  rw [getD_put (fun e => by rw [e, hall] at ht; cases ht)]
  exact hk.2.2 t ht

set_option maxRecDepth 100000 in
set_option maxHeartbeats 2000000 in
theorem take11_e (Q : Exit → Act → World → Prop) (a0 : Act) (w0 W : World) (hsz : a0.tmps.size = 84) (lo hi g3 g6 g8 k gp np capp gw nw capw b2 off2 n2 cap2 : Nat) (F G : Fl) (vp : Value) (would : List UInt8) (wn : Int)
    (e1 : a0.tmps.getD 1 undef = .int .i64 (k : Int)) (e2 : a0.tmps.getD 2 undef = (.iface 69 (.agg #[]))) (e3 : a0.tmps.getD 3 undef = .pointer (some ⟨g3, 0, none⟩)) (e8 : a0.tmps.getD 8 undef = .pointer (some ⟨g8, 0, none⟩)) (e10 : a0.tmps.getD 10 undef = .string ⟨would.toArray⟩)
    (h : TI w0 W lo hi g3 g6 g8 F G vp (.slice (some ⟨b2, off2, none⟩) n2 cap2) (.slice (some ⟨gp, 0, none⟩) np capp) (.slice (some ⟨gw, 0, none⟩) nw capw)) (hknp : k < np) (hkg : k < G.pages.length) (hknw : k < nw) (hkw : k < G.wear.length)
    (hkn2 : k < n2) (hcell2 : W.cell? ⟨b2, off2 + k, none⟩ = some (.int .i64 wn)) (hb20 : b2 < w0.heap.size) (hn0 : 0 ≤ wn) (hn1 : wn ≤ 2147483647)
    (hQ : ∀ (a : Act) (W' : World), a.defers = a0.defers → a.tmps.size = a0.tmps.size → (∀ t, (takeOps11.toList.all fun o => o.dst != some t) = true → a.tmps.getD t undef = a0.tmps.getD t undef) →
      TI w0 W' lo hi g3 g6 g8 F { G with pages := G.pages.set k would, wear := G.wear.set k (wornN wn) } vp (.slice (some ⟨b2, off2, none⟩) n2 cap2) (.slice (some ⟨gp, 0, none⟩) np capp) (.slice (some ⟨gw, 0, none⟩) nw capw) → Q .normal a W') :
    (Code.region 11 takeOps11 true).wp Try.prog Q a0 W := by
  have hc3 := h.c3
  have hc8 := h.c8
  have o3 := h.o3
  have o6 := h.o6
  have o8 := h.o8
  obtain ⟨qc, qf, ql, qh, cur, qg⟩ := h.p'.cell k (strC G.pages[k]) (get_map strC _ _ hkg)
  have hne3 : g3 ≠ gp := by omega
  have hne8 : g8 ≠ gp := by omega
  have hne2 : b2 ≠ gp := by omega
  have hb2 : b2 < W.heap.size := Nat.lt_of_lt_of_le hb20 h.below.size
  have hR := wrote_pre gp k (strC would)
  refine wp_region_rel hR 19 mixed (by rw [hsz]; kernel_rfl) (by kernel_rfl) ?_
  rw [show takeOps11.size - 19 = 2 by kernel_rfl]
  refine ⟨isVal (.pointer (some ⟨g8, 0, none⟩)), RStep.of hR (stabR_val _ _) (by kernel_rfl) (fun w hw => step_field 25 (.tmp 8) 0 ⟨g8, 0, none⟩ ⟨g8, 0, none⟩ (by kernel_rfl) (wanted_none (by kernel_rfl)) (knows_old 8 (.pointer (some ⟨g8, 0, none⟩)) (by kernel_rfl) e8) (field_fl g8 0 (by omega))), ?_⟩
  refine ⟨isVal (.slice (some ⟨gp, 0, none⟩) np capp), RStep.of hR (stabR_val _ _) (by kernel_rfl) (fun w hw => step_read 22 (.tmp 57) ⟨g8, 0, none⟩ (.slice (some ⟨gp, 0, none⟩) np capp) (by kernel_rfl) (wanted_none (by kernel_rfl)) (knows_new (V := isVal (.pointer (some ⟨g8, 0, none⟩))) 57 0 (by kernel_rfl) (by kernel_rfl) (by kernel_rfl)) (hw.cell hc8.2.1 hc8.1 hne8) (Nat.lt_of_lt_of_le hc8.1 hw.size) agg_strs), ?_⟩
  refine ⟨isVal (.int .i64 (k : Int)), RStep.of hR (stabR_val _ _) (by kernel_rfl) (fun w hw => step_move (.tmp 1) (by kernel_rfl) (wanted_none (by kernel_rfl)) (stable_val _) (knows_old 1 (.int .i64 (k : Int)) (by kernel_rfl) e1)), ?_⟩
  refine ⟨isVal (.pointer (some ⟨g8, 1, none⟩)), RStep.of hR (stabR_val _ _) (by kernel_rfl) (fun w hw => step_field 25 (.tmp 8) 1 ⟨g8, 0, none⟩ ⟨g8, 1, none⟩ (by kernel_rfl) (wanted_none (by kernel_rfl)) (knows_old 8 (.pointer (some ⟨g8, 0, none⟩)) (by kernel_rfl) e8) (field_fl g8 1 (by omega))), ?_⟩
  refine ⟨isVal (.slice (some ⟨gw, 0, none⟩) nw capw), RStep.of hR (stabR_val _ _) (by kernel_rfl) (fun w hw => step_read 23 (.tmp 60) ⟨g8, 1, none⟩ (.slice (some ⟨gw, 0, none⟩) nw capw) (by kernel_rfl) (wanted_none (by kernel_rfl)) (knows_new (V := isVal (.pointer (some ⟨g8, 1, none⟩))) 60 3 (by kernel_rfl) (by kernel_rfl) (by kernel_rfl)) (hw.cell hc8.2.2.1 hc8.1 hne8) (Nat.lt_of_lt_of_le hc8.1 hw.size) agg_ints), ?_⟩
  refine ⟨isVal (.int .i64 (k : Int)), RStep.of hR (stabR_val _ _) (by kernel_rfl) (fun w hw => step_move (.tmp 1) (by kernel_rfl) (wanted_none (by kernel_rfl)) (stable_val _) (knows_old 1 (.int .i64 (k : Int)) (by kernel_rfl) e1)), ?_⟩
  refine ⟨isVal (.string ⟨would.toArray⟩), RStep.of hR (stabR_val _ _) (by kernel_rfl) (fun w hw => step_move (.tmp 10) (by kernel_rfl) (wanted_none (by kernel_rfl)) (stable_val _) (knows_old 10 (.string ⟨would.toArray⟩) (by kernel_rfl) e10)), ?_⟩
  refine ⟨isVal (.iface 69 (.agg #[])), RStep.of hR (stabR_val _ _) (by kernel_rfl) (fun w hw => step_move (.tmp 2) (by kernel_rfl) (wanted_none (by kernel_rfl)) (stable_val _) (knows_old 2 (.iface 69 (.agg #[])) (by kernel_rfl) e2)), ?_⟩
  refine ⟨isVal (.pointer (some ⟨g3, 1, none⟩)), RStep.of hR (stabR_val _ _) (by kernel_rfl) (fun w hw => step_field 25 (.tmp 3) 1 ⟨g3, 0, none⟩ ⟨g3, 1, none⟩ (by kernel_rfl) (wanted_none (by kernel_rfl)) (knows_old 3 (.pointer (some ⟨g3, 0, none⟩)) (by kernel_rfl) e3) (field_fl g3 1 (by omega))), ?_⟩
  refine ⟨isVal (.slice (some ⟨b2, off2, none⟩) n2 cap2), RStep.of hR (stabR_val _ _) (by kernel_rfl) (fun w hw => step_read 23 (.tmp 65) ⟨g3, 1, none⟩ (.slice (some ⟨b2, off2, none⟩) n2 cap2) (by kernel_rfl) (wanted_none (by kernel_rfl)) (knows_new (V := isVal (.pointer (some ⟨g3, 1, none⟩))) 65 8 (by kernel_rfl) (by kernel_rfl) (by kernel_rfl)) (hw.cell hc3.2.2.1 hc3.1 hne3) (Nat.lt_of_lt_of_le hc3.1 hw.size) agg_ints), ?_⟩
  refine ⟨isVal (.int .i64 (k : Int)), RStep.of hR (stabR_val _ _) (by kernel_rfl) (fun w hw => step_move (.tmp 1) (by kernel_rfl) (wanted_none (by kernel_rfl)) (stable_val _) (knows_old 1 (.int .i64 (k : Int)) (by kernel_rfl) e1)), ?_⟩
  refine ⟨isVal (.pointer (some ⟨b2, off2 + k, none⟩)), RStep.of hR (stabR_val _ _) (by kernel_rfl) (fun w hw => step_place 23 3 (.tmp 66) (.tmp 67) b2 off2 n2 cap2 k (by kernel_rfl) (wanted_none (by kernel_rfl)) (knows_new (V := isVal (.slice (some ⟨b2, off2, none⟩) n2 cap2)) 66 9 (by kernel_rfl) (by kernel_rfl) (by kernel_rfl)) (knows_new (V := isVal (.int .i64 (k : Int))) 67 10 (by kernel_rfl) (by kernel_rfl) (by kernel_rfl)) Try.underlying23 (by kernel_rfl) hkn2), ?_⟩
  refine ⟨isVal (.int .i64 wn), RStep.of hR (stabR_val _ _) (by kernel_rfl) (fun w hw => step_read 3 (.tmp 68) ⟨b2, off2 + k, none⟩ (.int .i64 wn) (by kernel_rfl) (wanted_none (by kernel_rfl)) (knows_new (V := isVal (.pointer (some ⟨b2, off2 + k, none⟩))) 68 11 (by kernel_rfl) (by kernel_rfl) (by kernel_rfl)) (hw.cell hcell2 hb2 hne2) (Nat.lt_of_lt_of_le hb2 hw.size) agg_int), ?_⟩
  refine ⟨isVal (.func (.method "ouroboros/flash.wear") #[(.iface 69 (.agg #[]))] #[]), RStep.of hR (stabR_val _ _) (by kernel_rfl) (fun w hw => step_method "ouroboros/flash.wear" (.tmp 64) (.iface 69 (.agg #[])) (by kernel_rfl) (wanted_none (by kernel_rfl)) (knows_new (V := isVal (.iface 69 (.agg #[]))) 64 7 (by kernel_rfl) (by kernel_rfl) (by kernel_rfl))), ?_⟩
  refine ⟨isVal (.func (.method "ouroboros/flash.wear") #[(.iface 69 (.agg #[]))] #[]), RStep.of hR (stabR_val _ _) (by kernel_rfl) (fun w hw => step_nil "ouroboros/flash.wear" (.tmp 70) 69 (.agg #[]) (by kernel_rfl) (wanted_none (by kernel_rfl)) (knows_new (V := isVal (.func (.method "ouroboros/flash.wear") #[(.iface 69 (.agg #[]))] #[])) 70 13 (by kernel_rfl) (by kernel_rfl) (by kernel_rfl)) (fun w => by kernel_rfl)), ?_⟩
  refine ⟨isVal (.iface 69 (.agg #[])), RStep.of hR (stabR_val _ _) (by kernel_rfl) (fun w hw => step_move (.tmp 64) (by kernel_rfl) (wanted_none (by kernel_rfl)) (stable_val _) (knows_new (V := isVal (.iface 69 (.agg #[]))) 64 7 (by kernel_rfl) (by kernel_rfl) (by kernel_rfl))), ?_⟩
  refine ⟨isVal (.int .i64 (wornN wn)), RStep.of hR (stabR_val _ _) (by kernel_rfl) (fun w hw => step_invoke "ouroboros/flash.wear" (.tmp 72) (.iface 69 (.agg #[])) 124 #[.tmp 69] #[3] #[.int .i64 wn] #[.agg #[], .int .i64 wn] (by kernel_rfl) (wanted_none (by kernel_rfl)) (stable_val _) (args1 (.tmp 69) (.int .i64 wn) (knows_new (V := isVal (.int .i64 wn)) 69 12 (by kernel_rfl) (by kernel_rfl) (by kernel_rfl))) (knows_new (V := isVal (.iface 69 (.agg #[]))) 72 15 (by kernel_rfl) (by kernel_rfl) (by kernel_rfl)) (fun w => by kernel_rfl) (by intro w hb; exact call_ewear wn w hn0 hn1)), ?_⟩
  refine ⟨isVal (.pointer (some ⟨gp, 0 + k, none⟩)), RStep.of hR (stabR_val _ _) (by kernel_rfl) (fun w hw => step_place 22 9 (.tmp 58) (.tmp 59) gp 0 np capp k (by kernel_rfl) (wanted_none (by kernel_rfl)) (knows_new (V := isVal (.slice (some ⟨gp, 0, none⟩) np capp)) 58 1 (by kernel_rfl) (by kernel_rfl) (by kernel_rfl)) (knows_new (V := isVal (.int .i64 (k : Int))) 59 2 (by kernel_rfl) (by kernel_rfl) (by kernel_rfl)) Try.underlying22 (by kernel_rfl) hknp), ?_⟩
  refine ⟨rowIs gp 9 (cur.setIfInBounds k (strC would)), RStep.store 9 (.tmp 74) (.tmp 63) ⟨gp, 0 + k, none⟩ (strC would) (by kernel_rfl) (knows_new (V := isVal (.pointer (some ⟨gp, 0 + k, none⟩))) 74 17 (by kernel_rfl) (by kernel_rfl) (by kernel_rfl)) (knows_new (V := isVal (.string ⟨would.toArray⟩)) 63 6 (by kernel_rfl) (by kernel_rfl) (by kernel_rfl)) (by kernel_rfl) rfl rfl (stabR_row _ _ _ _ _) ?_, ?_⟩
  · intro w hw
    rw [Nat.zero_add]
    rcases hw.row cur _ qg with hr | hr
    · refine ⟨⟨strC G.pages[k], ?_⟩, by simp [World.frozen?, hr], heap_setCell_same w gp k cur _ _ hr, Wrote.set hr⟩
      have := qc
      simp only [World.cell?, qg] at this
      simp only [World.cell?, hr]
      exact this
    · refine ⟨⟨strC would, ?_⟩, by simp [World.frozen?, hr], ?_, Wrote.set hr⟩
      · have := qc
        simp only [World.cell?, qg] at this
        simp only [World.cell?, hr]
        have hlt : k < cur.size := by
          by_cases e : k < cur.size
          · exact e
          · simp [Array.getElem?_eq_none (by omega : cur.size ≤ k)] at this
        simp [hlt]
      · have := heap_setCell_same w gp k _ _ (strC would) hr
        rw [set_twice] at this
        exact this
  intro a w hk0 hw hd
  have hk := hk0.f
  have d18 := rdone_none (hd 18 (by decide)) (V := rowIs gp 9 (cur.setIfInBounds k (strC would))) (by kernel_rfl) (by kernel_rfl)
  have d73 := rdone_of (hd 16 (by decide)) (t := 73) (V := isVal (.int .i64 (wornN wn))) (by kernel_rfl) (by kernel_rfl)
  have d61 := rdone_of (hd 4 (by decide)) (t := 61) (V := isVal (.slice (some ⟨gw, 0, none⟩) nw capw)) (by kernel_rfl) (by kernel_rfl)
  have d62 := rdone_of (hd 5 (by decide)) (t := 62) (V := isVal (.int .i64 (k : Int))) (by kernel_rfl) (by kernel_rfl)
  have hs75 : 75 < a.tmps.size := by rw [hk.2.1, hsz]; decide
  have T2 := (h.page k hkg would).grow (hw.below qg d18)
  refine tail_place 23 3 (.tmp 61) (.tmp 62) gw 0 nw capw k 75 (by kernel_rfl) (by kernel_rfl) d61 d62 Try.underlying23 (by kernel_rfl) hknw ?_
  rw [Nat.zero_add]
  obtain ⟨q3, q4, _⟩ := T2.q'.cell k (intC G.wear[k]) (get_map intC _ _ hkw)
  refine tail_store 3 (.tmp 75) (.tmp 73) ⟨gw, k, none⟩ (intC (wornN wn)) _ (by kernel_rfl) (by kernel_rfl) (getD_put_self hs75) ((getD_put (by decide)).trans d73) (by kernel_rfl) rfl rfl q3 q4 ?_
  refine hQ _ _ ((defers_put (a := a)).trans hk.1) ((size_put (a := a)).trans hk.2.1) (fun t ht => ?_) (T2.wear k hkw (wornN wn))
  have hall : (takeOps11.toList.all fun o => o.dst != some 75) = false := by kernel_rfl
  rw [getD_put (fun e => by rw [e, hall] at ht; cases ht)]
  exact hk.2.2 t ht

set_option maxRecDepth 100000 in
set_option maxHeartbeats 2000000 in
theorem take11_p (Q : Exit → Act → World → Prop) (a0 : Act) (w0 W : World) (hsz : a0.tmps.size = 84) (lo hi g3 g6 g8 k gp np capp gw nw capw b2 off2 n2 cap2 : Nat) (F G : Fl) (vp : Value) (would : List UInt8) (wn : Int) (at_ : Int) (s : List UInt8) (hs : s.length ≤ 1000000)
    (e1 : a0.tmps.getD 1 undef = .int .i64 (k : Int)) (e2 : a0.tmps.getD 2 undef = (.iface 67 (.agg #[.int .i64 at_, .string ⟨s.toArray⟩]))) (e3 : a0.tmps.getD 3 undef = .pointer (some ⟨g3, 0, none⟩)) (e8 : a0.tmps.getD 8 undef = .pointer (some ⟨g8, 0, none⟩)) (e10 : a0.tmps.getD 10 undef = .string ⟨would.toArray⟩)
    (h : TI w0 W lo hi g3 g6 g8 F G vp (.slice (some ⟨b2, off2, none⟩) n2 cap2) (.slice (some ⟨gp, 0, none⟩) np capp) (.slice (some ⟨gw, 0, none⟩) nw capw)) (hknp : k < np) (hkg : k < G.pages.length) (hknw : k < nw) (hkw : k < G.wear.length)
    (hkn2 : k < n2) (hcell2 : W.cell? ⟨b2, off2 + k, none⟩ = some (.int .i64 wn)) (hb20 : b2 < w0.heap.size) (hn0 : 0 ≤ wn) (hn1 : wn ≤ 2147483647)
    (hQ : ∀ (a : Act) (W' : World), a.defers = a0.defers → a.tmps.size = a0.tmps.size → (∀ t, (takeOps11.toList.all fun o => o.dst != some t) = true → a.tmps.getD t undef = a0.tmps.getD t undef) →
      TI w0 W' lo hi g3 g6 g8 F { G with pages := G.pages.set k would, wear := G.wear.set k (wn) } vp (.slice (some ⟨b2, off2, none⟩) n2 cap2) (.slice (some ⟨gp, 0, none⟩) np capp) (.slice (some ⟨gw, 0, none⟩) nw capw) → Q .normal a W') :
    (Code.region 11 takeOps11 true).wp Try.prog Q a0 W := by
  have hc3 := h.c3
  have hc8 := h.c8
  have o3 := h.o3
  have o6 := h.o6
  have o8 := h.o8
  obtain ⟨qc, qf, ql, qh, cur, qg⟩ := h.p'.cell k (strC G.pages[k]) (get_map strC _ _ hkg)
  have hne3 : g3 ≠ gp := by omega
  have hne8 : g8 ≠ gp := by omega
  have hne2 : b2 ≠ gp := by omega
  have hb2 : b2 < W.heap.size := Nat.lt_of_lt_of_le hb20 h.below.size
  have hR := wrote_pre gp k (strC would)
  refine wp_region_rel hR 19 mixed (by rw [hsz]; kernel_rfl) (by kernel_rfl) ?_
  rw [show takeOps11.size - 19 = 2 by kernel_rfl]
  refine ⟨isVal (.pointer (some ⟨g8, 0, none⟩)), RStep.of hR (stabR_val _ _) (by kernel_rfl) (fun w hw => step_field 25 (.tmp 8) 0 ⟨g8, 0, none⟩ ⟨g8, 0, none⟩ (by kernel_rfl) (wanted_none (by kernel_rfl)) (knows_old 8 (.pointer (some ⟨g8, 0, none⟩)) (by kernel_rfl) e8) (field_fl g8 0 (by omega))), ?_⟩
  refine ⟨isVal (.slice (some ⟨gp, 0, none⟩) np capp), RStep.of hR (stabR_val _ _) (by kernel_rfl) (fun w hw => step_read 22 (.tmp 57) ⟨g8, 0, none⟩ (.slice (some ⟨gp, 0, none⟩) np capp) (by kernel_rfl) (wanted_none (by kernel_rfl)) (knows_new (V := isVal (.pointer (some ⟨g8, 0, none⟩))) 57 0 (by kernel_rfl) (by kernel_rfl) (by kernel_rfl)) (hw.cell hc8.2.1 hc8.1 hne8) (Nat.lt_of_lt_of_le hc8.1 hw.size) agg_strs), ?_⟩
  refine ⟨isVal (.int .i64 (k : Int)), RStep.of hR (stabR_val _ _) (by kernel_rfl) (fun w hw => step_move (.tmp 1) (by kernel_rfl) (wanted_none (by kernel_rfl)) (stable_val _) (knows_old 1 (.int .i64 (k : Int)) (by kernel_rfl) e1)), ?_⟩
  refine ⟨isVal (.pointer (some ⟨g8, 1, none⟩)), RStep.of hR (stabR_val _ _) (by kernel_rfl) (fun w hw => step_field 25 (.tmp 8) 1 ⟨g8, 0, none⟩ ⟨g8, 1, none⟩ (by kernel_rfl) (wanted_none (by kernel_rfl)) (knows_old 8 (.pointer (some ⟨g8, 0, none⟩)) (by kernel_rfl) e8) (field_fl g8 1 (by omega))), ?_⟩
  refine ⟨isVal (.slice (some ⟨gw, 0, none⟩) nw capw), RStep.of hR (stabR_val _ _) (by kernel_rfl) (fun w hw => step_read 23 (.tmp 60) ⟨g8, 1, none⟩ (.slice (some ⟨gw, 0, none⟩) nw capw) (by kernel_rfl) (wanted_none (by kernel_rfl)) (knows_new (V := isVal (.pointer (some ⟨g8, 1, none⟩))) 60 3 (by kernel_rfl) (by kernel_rfl) (by kernel_rfl)) (hw.cell hc8.2.2.1 hc8.1 hne8) (Nat.lt_of_lt_of_le hc8.1 hw.size) agg_ints), ?_⟩
  refine ⟨isVal (.int .i64 (k : Int)), RStep.of hR (stabR_val _ _) (by kernel_rfl) (fun w hw => step_move (.tmp 1) (by kernel_rfl) (wanted_none (by kernel_rfl)) (stable_val _) (knows_old 1 (.int .i64 (k : Int)) (by kernel_rfl) e1)), ?_⟩
  refine ⟨isVal (.string ⟨would.toArray⟩), RStep.of hR (stabR_val _ _) (by kernel_rfl) (fun w hw => step_move (.tmp 10) (by kernel_rfl) (wanted_none (by kernel_rfl)) (stable_val _) (knows_old 10 (.string ⟨would.toArray⟩) (by kernel_rfl) e10)), ?_⟩
  refine ⟨isVal (.iface 67 (.agg #[.int .i64 at_, .string ⟨s.toArray⟩])), RStep.of hR (stabR_val _ _) (by kernel_rfl) (fun w hw => step_move (.tmp 2) (by kernel_rfl) (wanted_none (by kernel_rfl)) (stable_val _) (knows_old 2 (.iface 67 (.agg #[.int .i64 at_, .string ⟨s.toArray⟩])) (by kernel_rfl) e2)), ?_⟩
  refine ⟨isVal (.pointer (some ⟨g3, 1, none⟩)), RStep.of hR (stabR_val _ _) (by kernel_rfl) (fun w hw => step_field 25 (.tmp 3) 1 ⟨g3, 0, none⟩ ⟨g3, 1, none⟩ (by kernel_rfl) (wanted_none (by kernel_rfl)) (knows_old 3 (.pointer (some ⟨g3, 0, none⟩)) (by kernel_rfl) e3) (field_fl g3 1 (by omega))), ?_⟩
  refine ⟨isVal (.slice (some ⟨b2, off2, none⟩) n2 cap2), RStep.of hR (stabR_val _ _) (by kernel_rfl) (fun w hw => step_read 23 (.tmp 65) ⟨g3, 1, none⟩ (.slice (some ⟨b2, off2, none⟩) n2 cap2) (by kernel_rfl) (wanted_none (by kernel_rfl)) (knows_new (V := isVal (.pointer (some ⟨g3, 1, none⟩))) 65 8 (by kernel_rfl) (by kernel_rfl) (by kernel_rfl)) (hw.cell hc3.2.2.1 hc3.1 hne3) (Nat.lt_of_lt_of_le hc3.1 hw.size) agg_ints), ?_⟩
  refine ⟨isVal (.int .i64 (k : Int)), RStep.of hR (stabR_val _ _) (by kernel_rfl) (fun w hw => step_move (.tmp 1) (by kernel_rfl) (wanted_none (by kernel_rfl)) (stable_val _) (knows_old 1 (.int .i64 (k : Int)) (by kernel_rfl) e1)), ?_⟩
  refine ⟨isVal (.pointer (some ⟨b2, off2 + k, none⟩)), RStep.of hR (stabR_val _ _) (by kernel_rfl) (fun w hw => step_place 23 3 (.tmp 66) (.tmp 67) b2 off2 n2 cap2 k (by kernel_rfl) (wanted_none (by kernel_rfl)) (knows_new (V := isVal (.slice (some ⟨b2, off2, none⟩) n2 cap2)) 66 9 (by kernel_rfl) (by kernel_rfl) (by kernel_rfl)) (knows_new (V := isVal (.int .i64 (k : Int))) 67 10 (by kernel_rfl) (by kernel_rfl) (by kernel_rfl)) Try.underlying23 (by kernel_rfl) hkn2), ?_⟩
  refine ⟨isVal (.int .i64 wn), RStep.of hR (stabR_val _ _) (by kernel_rfl) (fun w hw => step_read 3 (.tmp 68) ⟨b2, off2 + k, none⟩ (.int .i64 wn) (by kernel_rfl) (wanted_none (by kernel_rfl)) (knows_new (V := isVal (.pointer (some ⟨b2, off2 + k, none⟩))) 68 11 (by kernel_rfl) (by kernel_rfl) (by kernel_rfl)) (hw.cell hcell2 hb2 hne2) (Nat.lt_of_lt_of_le hb2 hw.size) agg_int), ?_⟩
  refine ⟨isVal (.func (.method "ouroboros/flash.wear") #[(.iface 67 (.agg #[.int .i64 at_, .string ⟨s.toArray⟩]))] #[]), RStep.of hR (stabR_val _ _) (by kernel_rfl) (fun w hw => step_method "ouroboros/flash.wear" (.tmp 64) (.iface 67 (.agg #[.int .i64 at_, .string ⟨s.toArray⟩])) (by kernel_rfl) (wanted_none (by kernel_rfl)) (knows_new (V := isVal (.iface 67 (.agg #[.int .i64 at_, .string ⟨s.toArray⟩]))) 64 7 (by kernel_rfl) (by kernel_rfl) (by kernel_rfl))), ?_⟩
  refine ⟨isVal (.func (.method "ouroboros/flash.wear") #[(.iface 67 (.agg #[.int .i64 at_, .string ⟨s.toArray⟩]))] #[]), RStep.of hR (stabR_val _ _) (by kernel_rfl) (fun w hw => step_nil "ouroboros/flash.wear" (.tmp 70) 67 (.agg #[.int .i64 at_, .string ⟨s.toArray⟩]) (by kernel_rfl) (wanted_none (by kernel_rfl)) (knows_new (V := isVal (.func (.method "ouroboros/flash.wear") #[(.iface 67 (.agg #[.int .i64 at_, .string ⟨s.toArray⟩]))] #[])) 70 13 (by kernel_rfl) (by kernel_rfl) (by kernel_rfl)) (fun w => by kernel_rfl)), ?_⟩
  refine ⟨isVal (.iface 67 (.agg #[.int .i64 at_, .string ⟨s.toArray⟩])), RStep.of hR (stabR_val _ _) (by kernel_rfl) (fun w hw => step_move (.tmp 64) (by kernel_rfl) (wanted_none (by kernel_rfl)) (stable_val _) (knows_new (V := isVal (.iface 67 (.agg #[.int .i64 at_, .string ⟨s.toArray⟩]))) 64 7 (by kernel_rfl) (by kernel_rfl) (by kernel_rfl))), ?_⟩
  refine ⟨isVal (.int .i64 wn), RStep.of hR (stabR_val _ _) (by kernel_rfl) (fun w hw => step_invoke "ouroboros/flash.wear" (.tmp 72) (.iface 67 (.agg #[.int .i64 at_, .string ⟨s.toArray⟩])) 121 #[.tmp 69] #[3] #[.int .i64 wn] #[.agg #[.int .i64 at_, .string ⟨s.toArray⟩], .int .i64 wn] (by kernel_rfl) (wanted_none (by kernel_rfl)) (stable_val _) (args1 (.tmp 69) (.int .i64 wn) (knows_new (V := isVal (.int .i64 wn)) 69 12 (by kernel_rfl) (by kernel_rfl) (by kernel_rfl))) (knows_new (V := isVal (.iface 67 (.agg #[.int .i64 at_, .string ⟨s.toArray⟩]))) 72 15 (by kernel_rfl) (by kernel_rfl) (by kernel_rfl)) (fun w => by kernel_rfl) (by intro w hb; exact call_pwear at_ s wn w)), ?_⟩
  refine ⟨isVal (.pointer (some ⟨gp, 0 + k, none⟩)), RStep.of hR (stabR_val _ _) (by kernel_rfl) (fun w hw => step_place 22 9 (.tmp 58) (.tmp 59) gp 0 np capp k (by kernel_rfl) (wanted_none (by kernel_rfl)) (knows_new (V := isVal (.slice (some ⟨gp, 0, none⟩) np capp)) 58 1 (by kernel_rfl) (by kernel_rfl) (by kernel_rfl)) (knows_new (V := isVal (.int .i64 (k : Int))) 59 2 (by kernel_rfl) (by kernel_rfl) (by kernel_rfl)) Try.underlying22 (by kernel_rfl) hknp), ?_⟩
  refine ⟨rowIs gp 9 (cur.setIfInBounds k (strC would)), RStep.store 9 (.tmp 74) (.tmp 63) ⟨gp, 0 + k, none⟩ (strC would) (by kernel_rfl) (knows_new (V := isVal (.pointer (some ⟨gp, 0 + k, none⟩))) 74 17 (by kernel_rfl) (by kernel_rfl) (by kernel_rfl)) (knows_new (V := isVal (.string ⟨would.toArray⟩)) 63 6 (by kernel_rfl) (by kernel_rfl) (by kernel_rfl)) (by kernel_rfl) rfl rfl (stabR_row _ _ _ _ _) ?_, ?_⟩
  · intro w hw
    rw [Nat.zero_add]
    rcases hw.row cur _ qg with hr | hr
    · refine ⟨⟨strC G.pages[k], ?_⟩, by simp [World.frozen?, hr], heap_setCell_same w gp k cur _ _ hr, Wrote.set hr⟩
      have := qc
      simp only [World.cell?, qg] at this
      simp only [World.cell?, hr]
      exact this
    · refine ⟨⟨strC would, ?_⟩, by simp [World.frozen?, hr], ?_, Wrote.set hr⟩
      · have := qc
        simp only [World.cell?, qg] at this
        simp only [World.cell?, hr]
        have hlt : k < cur.size := by
          by_cases e : k < cur.size
          · exact e
          · simp [Array.getElem?_eq_none (by omega : cur.size ≤ k)] at this
        simp [hlt]
      · have := heap_setCell_same w gp k _ _ (strC would) hr
        rw [set_twice] at this
        exact this
  intro a w hk0 hw hd
  have hk := hk0.f
  have d18 := rdone_none (hd 18 (by decide)) (V := rowIs gp 9 (cur.setIfInBounds k (strC would))) (by kernel_rfl) (by kernel_rfl)
  have d73 := rdone_of (hd 16 (by decide)) (t := 73) (V := isVal (.int .i64 (wn))) (by kernel_rfl) (by kernel_rfl)
  have d61 := rdone_of (hd 4 (by decide)) (t := 61) (V := isVal (.slice (some ⟨gw, 0, none⟩) nw capw)) (by kernel_rfl) (by kernel_rfl)
  have d62 := rdone_of (hd 5 (by decide)) (t := 62) (V := isVal (.int .i64 (k : Int))) (by kernel_rfl) (by kernel_rfl)
  have hs75 : 75 < a.tmps.size := by rw [hk.2.1, hsz]; decide
  have T2 := (h.page k hkg would).grow (hw.below qg d18)
  refine tail_place 23 3 (.tmp 61) (.tmp 62) gw 0 nw capw k 75 (by kernel_rfl) (by kernel_rfl) d61 d62 Try.underlying23 (by kernel_rfl) hknw ?_
  rw [Nat.zero_add]
  obtain ⟨q3, q4, _⟩ := T2.q'.cell k (intC G.wear[k]) (get_map intC _ _ hkw)
  refine tail_store 3 (.tmp 75) (.tmp 73) ⟨gw, k, none⟩ (intC (wn)) _ (by kernel_rfl) (by kernel_rfl) (getD_put_self hs75) ((getD_put (by decide)).trans d73) (by kernel_rfl) rfl rfl q3 q4 ?_
  refine hQ _ _ ((defers_put (a := a)).trans hk.1) ((size_put (a := a)).trans hk.2.1) (fun t ht => ?_) (T2.wear k hkw (wn))
  have hall : (takeOps11.toList.all fun o => o.dst != some 75) = false := by kernel_rfl
  rw [getD_put (fun e => by rw [e, hall] at ht; cases ht)]
  exact hk.2.2 t ht
end Go.Proofs.Ytpjafjnokgeifaa
end
