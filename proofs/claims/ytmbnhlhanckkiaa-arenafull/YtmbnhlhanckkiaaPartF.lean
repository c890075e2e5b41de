/- Joined texts: contracts of the program's functions, and the mathematics that they lean on. -/
import Derived.Test.YtmbnhlhanckkiaaPartE
import Derived.SizedLaws
import Derived.SliceStrings
import Derived.Carry
import Derived.Deep.Slices
import Derived.Laws.AppendOwnNone
section
namespace Go.Proofs.Ytmbnhlhanckkiaa
set_option linter.unusedVariables false
set_option linter.unusedSimpArgs false

/-! ### Entries below each other -/
theorem joinEE_mk {a b : En} (ha : okE a = true) (hb : okE b = true) (hn : nameB a b = true) : joinEE a b = 0 := by
  unfold joinEE; rw [ha, hb, hn]; rfl
theorem belowE_iff {a b : En} (h : joinEE a b = 0) : belowE a b = true ↔ belowB a.val b.val = true := by
  obtain ⟨e1, e2, e3⟩ := joinE_val h
  unfold belowE
  rw [decide_eq_true_eq, joinEF_some h, below_iff]
  constructor
  · intro e; exact ⟨e1, by rw [← e, ]; exact congrArg (fun z : En => joinF a.val z.val) e⟩
  · rintro ⟨_, e⟩; rw [e, e3]
theorem belowE_self {a : En} (h : okE a = true) : belowE a a = true := by
  have h0 := joinEE_mk h h (name_self a)
  rw [belowE_iff h0, below_iff]
  exact join_self (okE_val h)
theorem name_joinEF {a b : En} (h : joinEE a b = 0) : nameB (joinEF a b) a = true := by
  rw [joinEF_some h, name_iff]
  exact ⟨(join_ok (joinE_val h).1).2, rfl⟩
theorem belowE_join {a b : En} (h : joinEE a b = 0) : belowE a (joinEF a b) = true ∧ belowE b (joinEF a b) = true := by
  obtain ⟨h1, h2, h3⟩ := joinEE_zero h
  have hn := name_joinEF h
  have hok := joinEF_ok h
  have e := joinEF_some h
  rw [belowE_iff (joinEE_mk h1 hok (name_symm hn)), belowE_iff (joinEE_mk h2 hok (name_symm (name_trans hn h3))), e]
  exact ⟨below_join (joinE_val h).1, below_join2 (joinE_val h).1⟩
theorem belowE_trans {a b c : En} (ha : okE a = true) (hb : okE b = true) (hc : okE c = true) (n1 : nameB a b = true) (n2 : nameB b c = true) (h1 : belowE a b = true) (h2 : belowE b c = true) : belowE a c = true := by
  rw [belowE_iff (joinEE_mk ha hb n1)] at h1
  rw [belowE_iff (joinEE_mk hb hc n2)] at h2
  rw [belowE_iff (joinEE_mk ha hc (name_trans n1 n2))]
  exact below_trans h1 h2
theorem belowE_least {a b c : En} (h : joinEE a b = 0) (hc : okE c = true) (n1 : nameB a c = true) (h1 : belowE a c = true) (h2 : belowE b c = true) : belowE (joinEF a b) c = true := by
  obtain ⟨o1, o2, n3⟩ := joinEE_zero h
  rw [belowE_iff (joinEE_mk o1 hc n1)] at h1
  rw [belowE_iff (joinEE_mk o2 hc (name_trans (name_symm n3) n1))] at h2
  rw [belowE_iff (joinEE_mk (joinEF_ok h) hc (name_trans (name_joinEF h) n1)), joinEF_some h]
  show belowB (joinF a.val b.val) c.val = true
  rw [← below_both (joinE_val h).1, h1, h2]; rfl
theorem belowE_anti {a b : En} (ha : okE a = true) (hb : okE b = true) (n : nameB a b = true) (h1 : belowE a b = true) (h2 : belowE b a = true) : a = b := by
  rw [belowE_iff (joinEE_mk ha hb n)] at h1
  rw [belowE_iff (joinEE_mk hb ha (name_symm n))] at h2
  have hv := below_antisymm h1 h2
  have hk := (name_iff.1 n).2
  cases a; cases b
  simp only at hv hk
  rw [hv, hk]
/-- What is above takes nothing more. -/
theorem join_above {a b : En} (ha : okE a = true) (hb : okE b = true) (n : nameB a b = true) (h : belowE b a = true) : joinEF a b = a := by
  have h0 := joinEE_mk hb ha (name_symm n)
  have := joinEF_comm h0
  rw [this]
  unfold belowE at h
  simpa using h

/-! ### Places -/
theorem slotAt_nat (l : List En) (p : Int) (h : 0 ≤ p ∧ p < l.length) : l[p.toNat]? = some (slotAt l p) := by
  unfold slotAt
  rw [List.getElem?_eq_getElem (by omega)]; rfl
theorem asc_names {α : Type} {l : List α} {f g : α → En} (h : ∀ p ∈ l, nameB (f p) (g p) = true) (ha : Asc (l.map g)) : Asc (l.map f) := by
  unfold Asc at *
  rw [List.pairwise_map] at *
  refine ha.imp_of_mem ?_
  intro a b h1 h2 hr
  rw [less_left (h a h1), less_right (h b h2)]
  exact hr
theorem slot_set {l : List En} {k : Nat} {J : En} {p : Int} (hp : 0 ≤ p ∧ p < l.length) : slotAt (l.set k J) p = if k = p.toNat then J else slotAt l p := by
  unfold slotAt
  rw [List.getElem?_set]
  by_cases h : k = p.toNat
  · rw [if_pos h, if_pos h, if_pos (by omega)]; rfl
  · rw [if_neg h, if_neg h]
theorem set_same {α : Type} : ∀ (l : List α) (k : Nat) (x : α), l[k]? = some x → l.set k x = l
  | [], _, _, h => by simp at h
  | a :: l, 0, x, h => by simp at h; subst h; rfl
  | a :: l, k + 1, x, h => by
    rw [List.getElem?_cons_succ] at h
    rw [List.set_cons_succ, set_same l k x h]

/-! ### One entry -/
/-- The slot of that name, where there is one. -/
def slotOf (A : Ar) (x : En) : En := slotAt A.slots (placeI A x)
theorem slot_spec {A : Ar} (h : OkA A) {x : En} (hh : hitB (ordA A) x = true) : slotOf A x ∈ A.slots ∧ okE (slotOf A x) = true ∧ nameB (slotOf A x) x = true ∧ A.slots[(placeI A x).toNat]? = some (slotOf A x) := by
  obtain ⟨h1, _, _, h4⟩ := place_spec h hh
  exact ⟨slotAt_mem h1, h.ents _ (slotAt_mem h1), h4, slotAt_nat _ _ h1⟩
theorem slot_one {A : Ar} (h : OkA A) {x e : En} (hh : hitB (ordA A) x = true) (he : e ∈ A.slots) (hn : nameB e x = true) : e = slotOf A x := by
  obtain ⟨h1, _, h3, _⟩ := slot_spec h hh
  exact one_name h he h1 (name_trans hn (name_symm h3))
theorem ok_hit {A : Ar} (h : OkA A) {x : En} (hx : okE x = true) (hh : hitB (ordA A) x = true) : OkA ⟨A.cap, meetL A x, A.index⟩ := by
  obtain ⟨p1, _, _, p4⟩ := place_spec h hh
  obtain ⟨s1, s2, s3, s4⟩ := slot_spec h hh
  have hj := joinEE_mk s2 hx s3
  refine ⟨h.room, ?_, ?_, ?_, ?_, ?_⟩
  · show ((meetL A x).length : Int) ≤ A.cap
    unfold meetL; rw [List.length_set]; exact h.fits
  · intro e he
    rcases List.mem_or_eq_of_mem_set he with he | he
    · exact h.ents e he
    · rw [he]; exact joinEF_ok hj
  · show A.index.length = (meetL A x).length
    unfold meetL; rw [List.length_set]; exact h.len
  · intro p hp
    show 0 ≤ p ∧ p < (meetL A x).length
    unfold meetL; rw [List.length_set]; exact h.rng p hp
  · show Asc (A.index.map (slotAt (meetL A x)))
    refine asc_names (g := slotAt A.slots) ?_ h.asc
    intro p hp
    unfold meetL
    rw [slot_set (h.rng p hp)]
    split
    · rename_i e
      have : p = placeI A x := by have := (h.rng p hp).1; omega
      rw [this]
      exact name_joinEF hj
    · exact name_self _
theorem ord_new {A : Ar} (h : OkA A) (x : En) : ordA ⟨A.cap, A.slots ++ [x], putIdx A x⟩ = insE (ordA A) x := by
  have e1 : ∀ l : List Int, (∀ p ∈ l, p ∈ A.index) → l.map (slotAt (A.slots ++ [x])) = l.map (slotAt A.slots) := by
    intro l hl
    refine List.map_congr_left ?_
    intro p hp
    have := h.rng p (hl p hp)
    unfold slotAt
    rw [List.getElem?_append_left (by omega)]
  unfold ordA putIdx insE
  rw [List.map_append, List.map_cons, e1 _ (fun p hp => List.mem_of_mem_take hp), e1 _ (fun p hp => List.mem_of_mem_drop hp), List.map_take, List.map_drop]
  congr 2
  unfold slotAt
  simp
theorem ok_new {A : Ar} (h : OkA A) {x : En} (hx : okE x = true) (hh : hitB (ordA A) x = false) (hc : ¬ (A.slots.length : Int) = A.cap) : OkA ⟨A.cap, A.slots ++ [x], putIdx A x⟩ := by
  have hp : posN (ordA A) x ≤ A.index.length := by have := pos_le (ordA A) x; rw [ord_length h, ← h.len] at this; exact this
  refine ⟨h.room, ?_, ?_, ?_, ?_, ?_⟩
  · show ((A.slots ++ [x]).length : Int) ≤ A.cap
    have := h.fits
    rw [List.length_append, List.length_singleton]; omega
  · intro e he
    rcases List.mem_append.1 he with he | he
    · exact h.ents e he
    · rw [List.mem_singleton.1 he]; exact hx
  · show (putIdx A x).length = (A.slots ++ [x]).length
    unfold putIdx
    have := h.len
    simp only [List.length_append, List.length_cons, List.length_take, List.length_drop, List.length_nil]
    omega
  · intro p hp
    show 0 ≤ p ∧ p < (A.slots ++ [x]).length
    rw [List.length_append, List.length_singleton]
    unfold putIdx at hp
    rcases List.mem_append.1 hp with hp | hp
    · have := h.rng p (List.mem_of_mem_take hp); omega
    · rcases List.mem_cons.1 hp with hp | hp
      · omega
      · have := h.rng p (List.mem_of_mem_drop hp); omega
  · rw [ord_new h]; exact asc_ins h.asc hh
/-- The three ways of a join. -/
theorem join_ways (A : Ar) (x : En) (h : OkA A) : (¬ joinAE A x = 0 ∧ joinAB A x = false ∧ joinAF A x = A ∧ (okE x = false ∨ (hitB (ordA A) x = false ∧ (A.slots.length : Int) = A.cap))) ∨
    (okE x = true ∧ hitB (ordA A) x = true ∧ joinAE A x = 0 ∧ joinAB A x = !decide (slotOf A x = joinEF (slotOf A x) x) ∧ joinAF A x = ⟨A.cap, meetL A x, A.index⟩) ∨
    (okE x = true ∧ hitB (ordA A) x = false ∧ ¬ (A.slots.length : Int) = A.cap ∧ joinAE A x = 0 ∧ joinAB A x = true ∧ joinAF A x = ⟨A.cap, A.slots ++ [x], putIdx A x⟩) := by
  have hA := okA_iff.2 h
  cases hx : okE x with
  | false => obtain ⟨a, b, c⟩ := join_no (A := A) (Y := x) (by rw [hA, hx]; rfl); exact .inl ⟨by rw [a]; decide, b, c, .inl rfl⟩
  | true =>
    cases hh : hitB (ordA A) x with
    | true => obtain ⟨a, b, c⟩ := join_hit hA hx hh; exact .inr (.inl ⟨rfl, rfl, a, b, c⟩)
    | false =>
      by_cases hc : (A.slots.length : Int) = A.cap
      · obtain ⟨a, b, c⟩ := join_full hA hx hh hc; exact .inl ⟨by rw [a]; decide, b, c, .inr ⟨rfl, hc⟩⟩
      · obtain ⟨a, b, c⟩ := join_new hA hx hh hc; exact .inr (.inr ⟨rfl, rfl, hc, a, b, c⟩)
theorem join_cap {A : Ar} (h : OkA A) (x : En) : (joinAF A x).cap = A.cap := by
  rcases join_ways A x h with ⟨_, _, e, _⟩ | ⟨_, _, _, _, e⟩ | ⟨_, _, _, _, _, e⟩ <;> rw [e]
theorem join_okA {A : Ar} (h : OkA A) (x : En) : OkA (joinAF A x) := by
  rcases join_ways A x h with ⟨_, _, e, _⟩ | ⟨hx, hh, _, _, e⟩ | ⟨hx, hh, hc, _, _, e⟩
  · rw [e]; exact h
  · rw [e]; exact ok_hit h hx hh
  · rw [e]; exact ok_new h hx hh hc
/-- What is joined to an arena that is none leaves it. -/
theorem join_bad {A : Ar} (h : okA A = false) (x : En) : joinAE A x = 2 ∧ joinAB A x = false ∧ joinAF A x = A := join_no (by rw [h]; rfl)

/-! ### What an arena has -/
def InE (C : Ar) (x : En) : Prop := ∃ f ∈ C.slots, nameB f x = true ∧ belowE x f = true
def Named (C : Ar) (x : En) : Prop := ∃ f ∈ C.slots, nameB f x = true
theorem InE.named {C : Ar} {x : En} (h : InE C x) : Named C x := by obtain ⟨f, hf, hn, _⟩ := h; exact ⟨f, hf, hn⟩
theorem in_self {A : Ar} (h : OkA A) {e : En} (he : e ∈ A.slots) : InE A e := ⟨e, he, name_self e, belowE_self (h.ents e he)⟩
theorem inB_iff {C : Ar} (h : OkA C) {x : En} : inB C x = true ↔ InE C x := by
  unfold inB
  cases hh : hitB (ordA C) x with
  | false =>
    rw [if_pos ((find_ne h).2 hh)]
    constructor
    · intro h; cases h
    · rintro ⟨f, hf, hn, _⟩
      rw [(hit_iff h).2 ⟨f, hf, hn⟩] at hh; cases hh
  | true =>
    rw [if_neg (fun e => by rw [find_ne h, hh] at e; cases e)]
    have e : findI C x = placeI C x := by unfold findI; rw [if_pos (okA_iff.2 h), if_pos hh]
    rw [e]
    obtain ⟨s1, s2, s3, s4⟩ := slot_spec h hh
    constructor
    · intro hb; exact ⟨_, s1, s3, hb⟩
    · rintro ⟨f, hf, hn, hb⟩
      rw [slot_one h hh hf hn] at hb; exact hb
theorem belowA_iff {A C : Ar} : belowA A C = true ↔ OkA A ∧ OkA C ∧ ∀ e ∈ A.slots, InE C e := by
  unfold belowA
  rw [Bool.and_eq_true, Bool.and_eq_true, okA_iff, okA_iff, List.all_eq_true]
  constructor
  · rintro ⟨h1, h2, h3⟩; exact ⟨h1, h2, fun e he => (inB_iff h2).1 (h3 e he)⟩
  · rintro ⟨h1, h2, h3⟩; exact ⟨h1, h2, fun e he => (inB_iff h2).2 (h3 e he)⟩
theorem in_trans {B C : Ar} (hB : OkA B) (hC : OkA C) (h : ∀ e ∈ B.slots, InE C e) {x : En} (hx : okE x = true) (hi : InE B x) : InE C x := by
  obtain ⟨f, hf, n1, b1⟩ := hi
  obtain ⟨g, hg, n2, b2⟩ := h f hf
  exact ⟨g, hg, name_trans n2 n1, belowE_trans hx (hB.ents f hf) (hC.ents g hg) (name_symm n1) (name_symm n2) b1 b2⟩
theorem belowA_trans {A B C : Ar} (h1 : belowA A B = true) (h2 : belowA B C = true) : belowA A C = true := by
  rw [belowA_iff] at *
  exact ⟨h1.1, h2.2.1, fun e he => in_trans h1.2.1 h2.2.1 h2.2.2 (h1.1.ents e he) (h1.2.2 e he)⟩
theorem belowA_self {A : Ar} (h : OkA A) : belowA A A = true := belowA_iff.2 ⟨h, h, fun e he => in_self h he⟩
/-- J1: what was there is below it. -/
theorem join_up {A : Ar} (h : OkA A) (x : En) : ∀ e ∈ A.slots, InE (joinAF A x) e := by
  intro e he
  have hok := join_okA h x
  rcases join_ways A x h with ⟨_, _, e0, _⟩ | ⟨hx, hh, _, _, e0⟩ | ⟨hx, hh, hc, _, _, e0⟩
  · rw [e0]; exact in_self h he
  · obtain ⟨s1, s2, s3, s4⟩ := slot_spec h hh
    have hj := joinEE_mk s2 hx s3
    have hlt : (placeI A x).toNat < A.slots.length := (List.getElem?_eq_some_iff.1 s4).1
    rw [e0]
    by_cases hn : nameB e x = true
    · have := slot_one h hh he hn
      subst this
      exact ⟨joinEF (slotOf A x) x, List.mem_set hlt _, name_joinEF hj, (belowE_join hj).1⟩
    · obtain ⟨k, hk⟩ := List.getElem?_of_mem he
      have hne : (placeI A x).toNat ≠ k := by
        rintro rfl; rw [s4] at hk; injection hk with hk; rw [← hk] at hn; exact hn s3
      refine ⟨e, ?_, name_self e, belowE_self (h.ents e he)⟩
      show e ∈ A.slots.set _ _
      refine List.mem_of_getElem? (i := k) ?_
      rw [List.getElem?_set_ne hne, hk]
  · rw [e0]; exact ⟨e, List.mem_append_left _ he, name_self e, belowE_self (h.ents e he)⟩
/-- J2: what is joined is below it. -/
theorem join_in1 {A : Ar} (h : OkA A) {x : En} (h0 : joinAE A x = 0) : okE x = true ∧ InE (joinAF A x) x := by
  rcases join_ways A x h with ⟨e, _⟩ | ⟨hx, hh, _, _, e0⟩ | ⟨hx, hh, hc, _, _, e0⟩
  · exact absurd h0 e
  · obtain ⟨s1, s2, s3, s4⟩ := slot_spec h hh
    have hj := joinEE_mk s2 hx s3
    have hlt : (placeI A x).toNat < A.slots.length := (List.getElem?_eq_some_iff.1 s4).1
    rw [e0]
    exact ⟨hx, joinEF (slotOf A x) x, List.mem_set hlt _, name_trans (name_joinEF hj) s3, (belowE_join hj).2⟩
  · rw [e0]; exact ⟨hx, x, List.mem_append_right _ (by simp), name_self x, belowE_self hx⟩
/-- J3: it is the least. -/
theorem join_least {A C : Ar} (h : OkA A) (hC : OkA C) {x : En} (hA : ∀ e ∈ A.slots, InE C e) (hx : InE C x) : ∀ f ∈ (joinAF A x).slots, InE C f := by
  rcases join_ways A x h with ⟨_, _, e0, _⟩ | ⟨hxo, hh, _, _, e0⟩ | ⟨hxo, hh, hc, _, _, e0⟩
  · rw [e0]; exact hA
  · obtain ⟨s1, s2, s3, s4⟩ := slot_spec h hh
    have hj := joinEE_mk s2 hxo s3
    rw [e0]
    intro f hf
    rcases List.mem_or_eq_of_mem_set hf with hf | hf
    · exact hA f hf
    · obtain ⟨g1, hg1, n1, b1⟩ := hA _ s1
      obtain ⟨g2, hg2, n2, b2⟩ := hx
      have : g1 = g2 := one_name hC hg1 hg2 (name_trans n1 (name_trans s3 (name_symm n2)))
      subst this
      rw [hf]
      exact ⟨g1, hg1, name_trans n1 (name_symm (name_joinEF hj)), belowE_least hj (hC.ents _ hg1) (name_symm n1) b1 b2⟩
  · rw [e0]
    intro f hf
    rcases List.mem_append.1 hf with hf | hf
    · exact hA f hf
    · rw [List.mem_singleton.1 hf]; exact hx
/-- What is there already changes nothing. -/
theorem join_there {B : Ar} (h : OkA B) {x : En} (hx : okE x = true) (hi : InE B x) : joinAE B x = 0 ∧ joinAB B x = false ∧ joinAF B x = B ∧ hitB (ordA B) x = true ∧ joinEF (slotOf B x) x = slotOf B x := by
  obtain ⟨f, hf, hn, hb⟩ := hi
  have hh : hitB (ordA B) x = true := (hit_iff h).2 ⟨f, hf, hn⟩
  obtain ⟨s1, s2, s3, s4⟩ := slot_spec h hh
  have e := slot_one h hh hf hn
  subst e
  have hj := join_above s2 hx s3 hb
  obtain ⟨a, b, c⟩ := join_hit (okA_iff.2 h) hx hh
  refine ⟨a, ?_, ?_, hh, hj⟩
  · rw [b]
    show (!decide (slotOf B x = joinEF (slotOf B x) x)) = false
    rw [hj]; simp
  · rw [c]
    unfold meetL
    show Ar.mk B.cap (B.slots.set _ (joinEF (slotOf B x) x)) B.index = B
    rw [hj, set_same _ _ _ s4]
/-- Whether it changed. -/
theorem join_changed {A : Ar} (h : OkA A) {x : En} (h0 : joinAE A x = 0) : joinAB A x = !alikeA A (joinAF A x) := by
  have hok := join_okA h x
  have hb : belowA A (joinAF A x) = true := belowA_iff.2 ⟨h, hok, join_up h x⟩
  unfold alikeA
  rw [hb, Bool.true_and]
  rcases join_ways A x h with ⟨e, _⟩ | ⟨hx, hh, _, eb, e0⟩ | ⟨hx, hh, hc, _, eb, e0⟩
  · exact absurd h0 e
  · obtain ⟨s1, s2, s3, s4⟩ := slot_spec h hh
    have hj := joinEE_mk s2 hx s3
    rw [eb]
    congr 1
    rw [Bool.eq_iff_iff, decide_eq_true_eq, belowA_iff]
    constructor
    · intro e
      have : joinAF A x = A := by rw [e0]; unfold meetL; show Ar.mk A.cap (A.slots.set _ (joinEF (slotOf A x) x)) A.index = A; rw [← e, set_same _ _ _ s4]
      rw [this]
      exact ⟨h, h, fun e he => in_self h he⟩
    · rintro ⟨_, _, hall⟩
      have hlt : (placeI A x).toNat < A.slots.length := (List.getElem?_eq_some_iff.1 s4).1
      obtain ⟨f, hf, n1, b1⟩ := hall (joinEF (slotOf A x) x) (by rw [e0]; exact List.mem_set hlt _)
      have : f = slotOf A x := one_name h hf s1 (name_trans n1 (name_joinEF hj))
      subst this
      exact belowE_anti s2 (joinEF_ok hj) (name_symm (name_joinEF hj)) (belowE_join hj).1 b1
  · rw [eb]
    have : belowA (joinAF A x) A = false := by
      cases hb2 : belowA (joinAF A x) A with
      | false => rfl
      | true =>
        obtain ⟨_, _, hall⟩ := belowA_iff.1 hb2
        obtain ⟨f, hf, n1, _⟩ := hall x (by rw [e0]; exact List.mem_append_right _ (by simp))
        rw [(hit_iff h).2 ⟨f, hf, n1⟩] at hh; cases hh
    rw [this]; rfl

/-! ### Entries, one behind the other -/
theorem merge_okA : ∀ (l : List En) {A : Ar}, OkA A → OkA (mergeF A l) ∧ (mergeF A l).cap = A.cap
  | [], A, h => ⟨h, rfl⟩
  | x :: r, A, h => by
    obtain ⟨h1, h2⟩ := merge_okA r (join_okA h x)
    exact ⟨h1, h2.trans (join_cap h x)⟩
theorem merge_up : ∀ (l : List En) {A : Ar}, OkA A → ∀ e ∈ A.slots, InE (mergeF A l) e
  | [], A, h, e, he => in_self h he
  | x :: r, A, h, e, he =>
    in_trans (join_okA h x) (merge_okA r (join_okA h x)).1 (merge_up r (join_okA h x)) (h.ents e he) (join_up h x e he)
theorem merge_all : ∀ (l : List En) {A : Ar}, OkA A → mergeO A l = 0 → ∀ x ∈ l, okE x = true ∧ InE (mergeF A l) x
  | [], A, h, _, x, hx => by simp at hx
  | y :: r, A, h, h0, x, hx => by
    have hj := join_okA h y
    unfold mergeO at h0
    have hy : joinAE A y = 0 := by
      by_cases c : joinAE A y = 0
      · exact c
      · rw [if_neg c] at h0; omega
    have hr : mergeO (joinAF A y) r = 0 := by omega
    rcases List.mem_cons.1 hx with rfl | hx
    · obtain ⟨o, i⟩ := join_in1 h hy
      exact ⟨o, in_trans hj (merge_okA r hj).1 (merge_up r hj) o i⟩
    · exact merge_all r hj hr x hx
theorem merge_least : ∀ (l : List En) {A C : Ar}, OkA A → OkA C → (∀ e ∈ A.slots, InE C e) → (∀ x ∈ l, InE C x) → ∀ f ∈ (mergeF A l).slots, InE C f
  | [], A, C, _, _, hA, _ => hA
  | x :: r, A, C, h, hC, hA, hl => merge_least r (join_okA h x) hC (join_least h hC hA (hl x (by simp))) (fun y hy => hl y (by simp [hy]))
/-- Names in their order, none twice. -/
def nmE (e : En) : Int × List UInt8 := (e.val.kind, e.key)
theorem nm_iff {a b : En} : nmE a = nmE b ↔ nameB a b = true := by
  rw [name_iff]; unfold nmE; exact Prod.mk.injEq .. ▸ Iff.rfl
theorem names_nodup {l : List En} (h : Asc l) : (l.map nmE).Nodup := by
  unfold List.Nodup
  rw [List.pairwise_map]
  refine List.Pairwise.imp ?_ h
  intro a b hab e
  rw [less_name a b (nm_iff.1 e)] at hab; cases hab
theorem room_for {D C : Ar} (hD : OkA D) (hC : OkA C) (hcap : D.cap = C.cap) (hn : ∀ e ∈ D.slots, Named C e) {x : En} (hx : okE x = true) (hxn : Named C x) : joinAE D x = 0 := by
  rcases join_ways D x hD with ⟨_, _, _, hno | ⟨hh, hc⟩⟩ | ⟨_, _, e, _⟩ | ⟨_, _, _, e, _⟩
  · rw [hx] at hno; cases hno
  · exfalso
    have key := nodup_length (nmE x :: (ordA D).map nmE) ((ordA C).map nmE) (List.nodup_cons.2 ⟨?_, names_nodup hD.asc⟩) ?_
    · rw [List.length_cons, List.length_map, List.length_map, ord_length hD, ord_length hC] at key
      have := hC.fits
      omega
    · intro hm
      obtain ⟨e, he, en⟩ := List.mem_map.1 hm
      rw [(hit_iff hD).2 ⟨e, (mem_ord hD e).1 he, nm_iff.1 en⟩] at hh; cases hh
    · intro z hz
      have hq : ∃ e, z = nmE e ∧ Named C e := by
        rcases List.mem_cons.1 hz with rfl | hz
        · exact ⟨x, rfl, hxn⟩
        · obtain ⟨e, he, rfl⟩ := List.mem_map.1 hz
          exact ⟨e, rfl, hn e ((mem_ord hD e).1 he)⟩
      obtain ⟨e, rfl, f, hf, hfn⟩ := hq
      exact List.mem_map.2 ⟨f, (mem_ord hC f).2 hf, nm_iff.2 hfn⟩
  · exact e
  · exact e
theorem named_join {D C : Ar} (hD : OkA D) {x : En} (hn : ∀ e ∈ D.slots, Named C e) (hx : Named C x) : ∀ e ∈ (joinAF D x).slots, Named C e := by
  rcases join_ways D x hD with ⟨_, _, e0, _⟩ | ⟨hxo, hh, _, _, e0⟩ | ⟨hxo, hh, hc, _, _, e0⟩
  · rw [e0]; exact hn
  · obtain ⟨s1, s2, s3, s4⟩ := slot_spec hD hh
    rw [e0]
    intro f hf
    rcases List.mem_or_eq_of_mem_set hf with hf | hf
    · exact hn f hf
    · obtain ⟨g, hg, n⟩ := hn _ s1
      rw [hf]
      exact ⟨g, hg, name_trans n (name_symm (name_joinEF (joinEE_mk s2 hxo s3)))⟩
  · rw [e0]
    intro f hf
    rcases List.mem_append.1 hf with hf | hf
    · exact hn f hf
    · rw [List.mem_singleton.1 hf]; exact hx
theorem merge_fits : ∀ (l : List En) {D C : Ar}, OkA D → OkA C → D.cap = C.cap → (∀ e ∈ D.slots, Named C e) → (∀ x ∈ l, okE x = true ∧ Named C x) → mergeO D l = 0
  | [], D, C, _, _, _, _, _ => rfl
  | x :: r, D, C, hD, hC, hcap, hn, hl => by
    obtain ⟨o, n⟩ := hl x (by simp)
    unfold mergeO
    rw [if_pos (room_for hD hC hcap hn o n), merge_fits r (join_okA hD x) hC ((join_cap hD x).trans hcap) (named_join hD hn n) (fun y hy => hl y (by simp [hy]))]
theorem asc_ext : ∀ {l m : List En}, Asc l → Asc m → (∀ x, x ∈ l ↔ x ∈ m) → l = m
  | [], [], _, _, _ => rfl
  | [], b :: m, _, _, h => by have := (h b).2 (by simp); simp at this
  | a :: l, [], _, _, h => by have := (h a).1 (by simp); simp at this
  | a :: l, b :: m, h1, h2, h => by
    have la : ∀ y ∈ l, lessE a y = true := fun y hy => List.rel_of_pairwise_cons h1 hy
    have lb : ∀ y ∈ m, lessE b y = true := fun y hy => List.rel_of_pairwise_cons h2 hy
    have hab : a = b := by
      rcases List.mem_cons.1 ((h a).1 (by simp)) with e | e
      · exact e
      · rcases List.mem_cons.1 ((h b).2 (by simp)) with e2 | e2
        · exact e2.symm
        · exact (less_both a b (la b e2) (lb a e)).elim
    subst hab
    rw [asc_ext (List.Pairwise.of_cons h1) (List.Pairwise.of_cons h2) (fun x => ?_)]
    constructor
    · intro hx
      rcases List.mem_cons.1 ((h x).1 (by simp [hx])) with e | e
      · subst e; have := la _ hx; rw [lessE_irrefl] at this; cases this
      · exact e
    · intro hx
      rcases List.mem_cons.1 ((h x).2 (by simp [hx])) with e | e
      · subst e; have := lb _ hx; rw [lessE_irrefl] at this; cases this
      · exact e
/-- Arenas that are alike have the same slots, in order. -/
theorem alike_ord {A B : Ar} (h : alikeA A B = true) : ordA A = ordA B := by
  unfold alikeA at h
  rw [Bool.and_eq_true] at h
  obtain ⟨h1, h2, h3⟩ := belowA_iff.1 h.1
  obtain ⟨_, _, h4⟩ := belowA_iff.1 h.2
  have one : ∀ {A B : Ar}, OkA A → OkA B → (∀ e ∈ A.slots, InE B e) → (∀ e ∈ B.slots, InE A e) → ∀ e ∈ A.slots, e ∈ B.slots := by
    intro A B hA hB h1 h2 e he
    obtain ⟨f, hf, n1, b1⟩ := h1 e he
    obtain ⟨g, hg, n2, b2⟩ := h2 f hf
    have : g = e := one_name hA hg he (name_trans n2 n1)
    subst this
    rw [belowE_anti (hA.ents g he) (hB.ents f hf) (name_symm n1) b1 b2]
    exact hf
  refine asc_ext h1.asc h2.asc (fun x => ?_)
  rw [mem_ord h1, mem_ord h2]
  exact ⟨one h1 h2 h3 h4 x, one h2 h1 h4 h3 x⟩
/-- Entries in any order. -/
theorem merge_order {A : Ar} (h : OkA A) (l m : List En) (hm : ∀ x ∈ m, x ∈ l) : (mergeO A l = 0 ↔ mergeO A (m ++ l) = 0) ∧ (mergeO A l = 0 → alikeA (mergeF A l) (mergeF A (m ++ l)) = true) := by
  obtain ⟨o1, c1⟩ := merge_okA l h
  obtain ⟨o2, c2⟩ := merge_okA (m ++ l) h
  have key : ∀ x, x ∈ m ++ l → x ∈ l := fun x hx => (List.mem_append.1 hx).elim (hm x) id
  have i1 : mergeO A l = 0 → mergeO A (m ++ l) = 0 := fun h0 => merge_fits (m ++ l) h o1 c1.symm (fun e he => (merge_up l h e he).named) (fun x hx => ⟨(merge_all l h h0 x (key x hx)).1, (merge_all l h h0 x (key x hx)).2.named⟩)
  refine ⟨⟨i1, fun h0 => merge_fits l h o2 c2.symm (fun e he => (merge_up (m ++ l) h e he).named) (fun x hx => ?_)⟩, fun h0 => ?_⟩
  · have := merge_all (m ++ l) h h0 x (List.mem_append_right _ hx)
    exact ⟨this.1, this.2.named⟩
  · have h0' := i1 h0
    unfold alikeA
    rw [belowA_iff.2 ⟨o1, o2, merge_least l h o2 (merge_up _ h) (fun x hx => (merge_all _ h h0' x (List.mem_append_right _ hx)).2)⟩]
    rw [belowA_iff.2 ⟨o2, o1, merge_least (m ++ l) h o1 (merge_up _ h) (fun x hx => (merge_all _ h h0 x (key x hx)).2)⟩]
    rfl
/-- Slots stay at their places. -/
theorem join_places {A : Ar} (h : OkA A) (x : En) : A.slots.length ≤ (joinAF A x).slots.length ∧ ∀ (i : Nat) (e : En), A.slots[i]? = some e → ∃ f, (joinAF A x).slots[i]? = some f ∧ nameB f e = true := by
  rcases join_ways A x h with ⟨_, _, e0, _⟩ | ⟨hxo, hh, _, _, e0⟩ | ⟨hxo, hh, hc, _, _, e0⟩
  · rw [e0]; exact ⟨Nat.le_refl _, fun i e he => ⟨e, he, name_self e⟩⟩
  · obtain ⟨s1, s2, s3, s4⟩ := slot_spec h hh
    rw [e0]
    refine ⟨by show _ ≤ (A.slots.set _ _).length; rw [List.length_set]; exact Nat.le_refl _, fun i e he => ?_⟩
    show ∃ f, (A.slots.set _ _)[i]? = some f ∧ _
    have hlt := (List.getElem?_eq_some_iff.1 he).1
    by_cases hi : (placeI A x).toNat = i
    · subst hi
      rw [s4] at he
      injection he with he
      subst he
      exact ⟨_, List.getElem?_set_self hlt, name_joinEF (joinEE_mk s2 hxo s3)⟩
    · exact ⟨e, by rw [List.getElem?_set_ne hi, he], name_self e⟩
  · rw [e0]
    refine ⟨by show _ ≤ (A.slots ++ [x]).length; simp, fun i e he => ⟨e, ?_, name_self e⟩⟩
    show (A.slots ++ [x])[i]? = some e
    rw [List.getElem?_append_left (List.getElem?_eq_some_iff.1 he).1, he]
theorem merge_places : ∀ (l : List En) {A : Ar}, OkA A → A.slots.length ≤ (mergeF A l).slots.length ∧ ∀ (i : Nat) (e : En), A.slots[i]? = some e → ∃ f, (mergeF A l).slots[i]? = some f ∧ nameB f e = true
  | [], A, h => ⟨Nat.le_refl _, fun i e he => ⟨e, he, name_self e⟩⟩
  | x :: r, A, h => by
    obtain ⟨a1, a2⟩ := join_places h x
    obtain ⟨b1, b2⟩ := merge_places r (join_okA h x)
    refine ⟨Nat.le_trans a1 b1, fun i e he => ?_⟩
    obtain ⟨f, hf, n1⟩ := a2 i e he
    obtain ⟨g, hg, n2⟩ := b2 i f hf
    exact ⟨g, hg, name_trans n2 n1⟩
theorem find_nameE (A : Ar) (x : En) : findI A (nameE x.val.kind x.key) = findI A x := find_name (name_iff.2 ⟨rfl, rfl⟩)
theorem find_hit {A : Ar} (h : OkA A) {x : En} (hh : hitB (ordA A) x = true) : findI A x = placeI A x := by unfold findI; rw [if_pos (okA_iff.2 h), if_pos hh]
theorem find_no {A : Ar} (h : OkA A) {x : En} (hh : hitB (ordA A) x = false) : findI A x = -1 := (find_ne h).2 hh
theorem find_bad {A : Ar} (h : okA A = false) (x : En) : findI A x = -1 := by unfold findI; rw [h]; rfl
end Go.Proofs.Ytmbnhlhanckkiaa
end
section
namespace Go.Proofs.Ytmbnhlhanckkiaa
open Go.RowKit
set_option linter.unusedVariables false
set_option linter.unusedSimpArgs false
attribute [local irreducible] setN

set_option maxRecDepth 100000 in
set_option maxHeartbeats 2000000 in
theorem eqfunc_any (l m : List En) (v u : Value) (w : World) (hv : isEns l v w) (hu : isEns m u w) (hl : l.length ≤ 1000) (hm : m.length ≤ 1000) (fl : ∀ e ∈ l, FitE e) (fm : ∀ e ∈ m, FitE e) : Calls Try.prog 30 #[v, u, .func (.func 17) #[] #[]] w fun e w' => e = .returned (.bool (decide (l = m))) ∧ Below w.heap.size w w' := by
  have eg : ∀ args w, (callFunc 17 args).run Try.prog w = .ok (.enter 17 args) w := enters_of Try.func17 (by kernel_rfl) rfl
  obtain ⟨va, vc, rfl⟩ := hv.len
  obtain ⟨ua, uc, rfl⟩ := hu.len
  by_cases hlen : l.length = m.length
  · have HV := Kept.mk hv
    have HU := Kept.mk hu
    have FL := Kept.mk fl
    have FM := Kept.mk fm
    clear hv hu fl fm
    generalize hn : l.length = n at *
    generalize hmn : m.length = n2 at *
    subst hlen
    have HN := Kept.mk (And.intro hn hmn)
    clear hn hmn
    go_enter Try.func30, Try.ntmps30
    go_wp2
    go_loopw [17] (fun i wr => ∃ k : Nat, k ≤ n ∧ i = .int .i64 (k : Int) ∧ Kept (Below w.heap.size w wr) ∧ Kept (∀ j, j < k → l[j]? = m[j]?)) (fun i _ => n - (intOf i).toNat)
    case atStart => exact ⟨0, Nat.zero_le _, rfl, ⟨Below.refl _ _⟩, ⟨fun j h => absurd h (Nat.not_lt_zero _)⟩⟩
    case round =>
      obtain ⟨k, hk, rfl, B, A⟩ := hrel
      by_cases hlt : k < n
      · have hlt' : (k : Int) < (n : Int) := by omega
        obtain ⟨X, hX⟩ : ∃ X, l[k]? = some X := ⟨_, List.getElem?_eq_getElem (by have := HN.out.1; omega)⟩
        obtain ⟨Y, hY⟩ : ∃ Y, m[k]? = some Y := ⟨_, List.getElem?_eq_getElem (by have := HN.out.2; omega)⟩
        obtain ⟨bs, os, cs, hvs, hbs, xp, xm, hxc, hxp, hxm⟩ := HV.out.get hX
        injection hvs with h1 hz1 h2
        clear hz1
        subst h1 h2
        obtain ⟨bt, ot, ct, hvt, hbt, yp, ym, hyc, hyp, hym⟩ := HU.out.get hY
        injection hvt with h1 hz1 h2
        clear hz1
        subst h1 h2
        have FX := Kept.mk (FL.out X (List.mem_of_getElem? hX))
        have FY := Kept.mk (FM.out Y (List.mem_of_getElem? hY))
        have HXY := Kept.mk (And.intro hX hY)
        have hsw := B.out.size
        obtain ⟨K1, K2, K3, K4, K5⟩ := enew wr X xp xm (stable_cells _ _ _ _ hxp B.out) (stable_cells _ _ _ _ hxm B.out) wr.heap.size rfl
        have kx0 : wr.cell? ⟨bs, os + k * 9, none⟩ = _ := (B.out.cell (p := ⟨bs, os + k * 9 + 0, none⟩) hbs).trans (hxc 0 _ rfl)
        have kx1 : wr.cell? ⟨bs, os + k * 9 + 1, none⟩ = _ := (B.out.cell (p := ⟨bs, os + k * 9 + 1, none⟩) hbs).trans (hxc 1 _ rfl)
        have kx2 : wr.cell? ⟨bs, os + k * 9 + 2, none⟩ = _ := (B.out.cell (p := ⟨bs, os + k * 9 + 2, none⟩) hbs).trans (hxc 2 _ rfl)
        have kx3 : wr.cell? ⟨bs, os + k * 9 + 3, none⟩ = _ := (B.out.cell (p := ⟨bs, os + k * 9 + 3, none⟩) hbs).trans (hxc 3 _ rfl)
        have kx4 : wr.cell? ⟨bs, os + k * 9 + 4, none⟩ = _ := (B.out.cell (p := ⟨bs, os + k * 9 + 4, none⟩) hbs).trans (hxc 4 _ rfl)
        have kx5 : wr.cell? ⟨bs, os + k * 9 + 5, none⟩ = _ := (B.out.cell (p := ⟨bs, os + k * 9 + 5, none⟩) hbs).trans (hxc 5 _ rfl)
        have kx6 : wr.cell? ⟨bs, os + k * 9 + 6, none⟩ = _ := (B.out.cell (p := ⟨bs, os + k * 9 + 6, none⟩) hbs).trans (hxc 6 _ rfl)
        have kx7 : wr.cell? ⟨bs, os + k * 9 + 7, none⟩ = _ := (B.out.cell (p := ⟨bs, os + k * 9 + 7, none⟩) hbs).trans (hxc 7 _ rfl)
        have kx8 : wr.cell? ⟨bs, os + k * 9 + 8, none⟩ = _ := (B.out.cell (p := ⟨bs, os + k * 9 + 8, none⟩) hbs).trans (hxc 8 _ rfl)
        clear hX hY hxc hxp hxm
        go_wp2_with (first | (have hz0 := K1; refine wpList_storeN 30 rfl (.tmp 8) (.tmp 21) rfl wr.heap.size [.string ⟨X.key.toArray⟩, .int .i64 X.val.kind, .int .i64 X.val.time, .int .i64 X.val.node, .bool X.val.dead, .string ⟨X.val.text.toArray⟩, xp, xm, .int .u64 (X.val.flags.toNat : Int)] size_en rfl rfl K1.out rfl K2.out K5.out ?_; replace B := Kept.mk (B.out.trans (K3.out.mono hsw)); have VX := Kept.mk (show VarN _ _ X from ⟨_, _, K4.out⟩); clear hz0 K1 K2 K3 K4 K5 kx0 kx1 kx2 kx3 kx4 kx5 kx6 kx7 kx8; generalize setN (wr.alloc (.cells #[.string ⟨#[]⟩, .int .i64 0, .int .i64 0, .int .i64 0, .bool false, .string ⟨#[]⟩, .slice none 0 0, .slice none 0 0, .int .u64 0] 30)) wr.heap.size 0 [.string ⟨X.key.toArray⟩, .int .i64 X.val.kind, .int .i64 X.val.time, .int .i64 X.val.node, .bool X.val.dead, .string ⟨X.val.text.toArray⟩, xp, xm, .int .u64 (X.val.flags.toNat : Int)] = W1 at *; generalize wr.heap.size = g1 at *; have hs1 := B.out.size; obtain ⟨J1, J2, J3, J4, J5⟩ := enew W1 Y yp ym (stable_cells _ _ _ _ hyp B.out) (stable_cells _ _ _ _ hym B.out) W1.heap.size rfl; have ky0 : W1.cell? ⟨bt, ot + k * 9, none⟩ = _ := (B.out.cell (p := ⟨bt, ot + k * 9 + 0, none⟩) hbt).trans (hyc 0 _ rfl); have ky1 : W1.cell? ⟨bt, ot + k * 9 + 1, none⟩ = _ := (B.out.cell (p := ⟨bt, ot + k * 9 + 1, none⟩) hbt).trans (hyc 1 _ rfl); have ky2 : W1.cell? ⟨bt, ot + k * 9 + 2, none⟩ = _ := (B.out.cell (p := ⟨bt, ot + k * 9 + 2, none⟩) hbt).trans (hyc 2 _ rfl); have ky3 : W1.cell? ⟨bt, ot + k * 9 + 3, none⟩ = _ := (B.out.cell (p := ⟨bt, ot + k * 9 + 3, none⟩) hbt).trans (hyc 3 _ rfl); have ky4 : W1.cell? ⟨bt, ot + k * 9 + 4, none⟩ = _ := (B.out.cell (p := ⟨bt, ot + k * 9 + 4, none⟩) hbt).trans (hyc 4 _ rfl); have ky5 : W1.cell? ⟨bt, ot + k * 9 + 5, none⟩ = _ := (B.out.cell (p := ⟨bt, ot + k * 9 + 5, none⟩) hbt).trans (hyc 5 _ rfl); have ky6 : W1.cell? ⟨bt, ot + k * 9 + 6, none⟩ = _ := (B.out.cell (p := ⟨bt, ot + k * 9 + 6, none⟩) hbt).trans (hyc 6 _ rfl); have ky7 : W1.cell? ⟨bt, ot + k * 9 + 7, none⟩ = _ := (B.out.cell (p := ⟨bt, ot + k * 9 + 7, none⟩) hbt).trans (hyc 7 _ rfl); have ky8 : W1.cell? ⟨bt, ot + k * 9 + 8, none⟩ = _ := (B.out.cell (p := ⟨bt, ot + k * 9 + 8, none⟩) hbt).trans (hyc 8 _ rfl)) | (have hz0 := J1; refine wpList_storeN 30 rfl (.tmp 9) (.tmp 25) rfl W1.heap.size [.string ⟨Y.key.toArray⟩, .int .i64 Y.val.kind, .int .i64 Y.val.time, .int .i64 Y.val.node, .bool Y.val.dead, .string ⟨Y.val.text.toArray⟩, yp, ym, .int .u64 (Y.val.flags.toNat : Int)] size_en rfl rfl J1.out rfl J2.out J5.out ?_; replace B := Kept.mk (B.out.trans (J3.out.mono hs1)); replace VX := Kept.mk (VX.out.keep J3.out); have VY := Kept.mk (show VarN _ _ Y from ⟨_, _, J4.out⟩); clear hz0 J1 J2 J3 J4 J5 hyc hyp hym ky0 ky1 ky2 ky3 ky4 ky5 ky6 ky7 ky8; generalize setN (W1.alloc (.cells #[.string ⟨#[]⟩, .int .i64 0, .int .i64 0, .int .i64 0, .bool false, .string ⟨#[]⟩, .slice none 0 0, .slice none 0 0, .int .u64 0] 30)) W1.heap.size 0 [.string ⟨Y.key.toArray⟩, .int .i64 Y.val.kind, .int .i64 Y.val.time, .int .i64 Y.val.node, .bool Y.val.dead, .string ⟨Y.val.text.toArray⟩, yp, ym, .int .u64 (Y.val.flags.toNat : Int)] = W2 at *; generalize W1.heap.size = g2 at *; obtain ⟨qx, rx, ix, jx, ka0, ka1, ka2, ka3, ka4, ka5, ka6, ka7, ka8⟩ := VX.out.open_; obtain ⟨qy, ry, iy, jy, kb0, kb1, kb2, kb3, kb4, kb5, kb6, kb7, kb8⟩ := VY.out.open_; have XX := Kept.mk ix; have XY := Kept.mk iy; clear ix iy jx jy))
        refine (esame_any X Y _ _ _ XX.out XY.out FX.out.val FY.out.val).mono ?_
        rintro e W3 ⟨rfl, hb⟩
        replace B := Kept.mk (B.out.trans (hb.mono B.out.size))
        clear hb XX XY VX VY ka0 kb0 ka1 kb1 ka2 kb2 ka3 kb3 ka4 kb4 ka5 kb5 ka6 kb6 ka7 kb7 ka8 kb8
        cases hq : decide (X = Y) with
        | true =>
          have HQ := Kept.mk (of_decide_eq_true hq)
          clear hq
          go_wp2
          go_roundw
          case rel =>
            refine ⟨k + 1, by omega, by go_num, B, ⟨fun j hj => ?_⟩⟩
            by_cases e : j = k
            · subst e; rw [HXY.out.1, HXY.out.2, HQ.out]
            · exact A.out j (by omega)
          case measure => simp [intOf]; omega
        | false =>
          have HE := Kept.mk (show decide (l = m) = false from decide_eq_false (fun e => by
            have := HXY.out.1; rw [e, HXY.out.2] at this; injection this with this
            exact (of_decide_eq_false hq) this.symm))
          clear hq
          go_wp2
          go_ret
          exact ⟨by rw [HE.out]; rfl, B.out⟩
      · have hlt' : ¬ (k : Int) < (n : Int) := by omega
        have HE := Kept.mk (show decide (l = m) = true from decide_eq_true (List.ext_getElem? (fun j => by
          by_cases hj : j < k
          · exact A.out j hj
          · rw [List.getElem?_eq_none (by have := HN.out.1; omega), List.getElem?_eq_none (by have := HN.out.2; omega)])))
        go_wp2
        go_ret
        exact ⟨by rw [HE.out]; rfl, B.out⟩
  · have HE := Kept.mk (show decide (l = m) = false from decide_eq_false (fun e => hlen (by rw [e])))
    clear hv hu fl fm
    generalize l.length = n at *
    generalize m.length = n2 at *
    have hl1 : ((n : Int) == (n2 : Int)) = false := by simp; omega
    have hl2 : ((n : Int) != (n2 : Int)) = true := by simp; omega
    go_enter Try.func30, Try.ntmps30
    go_wp2
    go_ret
    exact ⟨by rw [HE.out]; rfl, Below.refl _ _⟩
theorem ar_eq (A B : Ar) : decide (A = B) = (decide (A.cap = B.cap) && (decide (A.slots = B.slots) && decide (A.index = B.index))) := by
  obtain ⟨a, b, c⟩ := A
  obtain ⟨a', b', c'⟩ := B
  rw [Bool.eq_iff_iff]
  simp
set_option maxRecDepth 100000 in
set_option maxHeartbeats 2000000 in
theorem asame_any (A C : Ar) (v u : Value) (w : World) (hv : isAr A v w) (hu : isAr C u w) (hA : FitA A) (hC : FitA C) : Calls Try.prog 12 #[v, u] w fun e w' => e = .returned (.bool (decide (A = C))) ∧ Below w.heap.size w w' := by
  obtain ⟨vs, vi, rfl, hs, hi⟩ := hv
  obtain ⟨us, ui, rfl, ks, ki⟩ := hu
  obtain ⟨hB, Va⟩ := abox w A vs vi hs hi w.heap.size rfl
  obtain ⟨hBn, Vc⟩ := abox (w.alloc (.cells #[.int .i64 A.cap, vs, vi] 25)) C us ui (stable_ens _ _ _ _ ks hB.out) (stable_cells _ _ _ _ ki hB.out) (w.heap.size + 1) (by simp)
  replace Va := Kept.mk (Va.out.keep hBn.out)
  replace hB := Kept.mk (hB.out.trans (hBn.out.mono hB.out.size))
  clear hBn hs hi ks ki
  have HD := Kept.mk (ar_eq A C)
  obtain ⟨a1, a2, _, sa, _, ka0, ka1, ka2⟩ := Va.out.open_
  obtain ⟨c1, c2, _, sc, _, kc0, kc1, kc2⟩ := Vc.out.open_
  have SA := Kept.mk sa
  have SC := Kept.mk sc
  clear sa sc
  go_enter Try.func12, Try.ntmps12
  by_cases h1 : A.cap = C.cap
  · rw [decide_eq_true h1, Bool.true_and] at HD
    have h1' : (A.cap == C.cap) = true := by simpa using h1
    clear h1
    go_wp2_with fail
    refine (eqfunc_any A.slots C.slots _ _ _ SA.out SC.out hA.slots hC.slots hA.ents hC.ents).mono ?_
    rintro e W1 ⟨rfl, hb⟩
    replace hB := Kept.mk (hB.out.trans (hb.mono hB.out.size))
    replace Va := Kept.mk (Va.out.keep hb)
    replace Vc := Kept.mk (Vc.out.keep hb)
    clear hb ka0 ka1 ka2 kc0 kc1 kc2 SA SC
    cases h2 : decide (A.slots = C.slots) with
    | true =>
      rw [h2, Bool.true_and] at HD
      obtain ⟨_, _, _, _, ia, ka0, ka1, ka2⟩ := Va.out.open_
      obtain ⟨_, _, _, _, ic, kc0, kc1, kc2⟩ := Vc.out.open_
      have IA := Kept.mk ia
      have IC := Kept.mk ic
      clear ia ic
      have f1 := hA.index
      have f2 := hC.index
      go_wp2_with fail
      refine (equal_i A.index C.index _ _ _ IA.out IC.out (by omega) (by omega)).mono ?_
      rintro e W2 ⟨rfl, hb⟩
      replace hB := Kept.mk (hB.out.trans (hb.mono hB.out.size))
      clear hb
      cases h3 : decide (A.index = C.index) <;>
      · rw [h3] at HD
        go_wp2
        go_ret
        exact ⟨by rw [HD.out]; rfl, hB.out⟩
    | false =>
      rw [h2, Bool.false_and] at HD
      go_wp2
      go_ret
      exact ⟨by rw [HD.out]; rfl, hB.out⟩
  · rw [decide_eq_false h1, Bool.false_and] at HD
    have h1' : (A.cap == C.cap) = false := by simpa using h1
    go_wp2
    go_ret
    exact ⟨by rw [HD.out]; rfl, hB.out⟩
end Go.Proofs.Ytmbnhlhanckkiaa
end
section
namespace Go.Proofs.Ytmbnhlhanckkiaa
open Go.RowKit
set_option linter.unusedVariables false
set_option linter.unusedSimpArgs false
attribute [local irreducible] setN

def eX : En := ⟨[98], ⟨3, 0, 0, false, [], [], [], 1⟩⟩
theorem fit_eX : FitE eX := ⟨by decide, ⟨by decide, by decide, by decide⟩⟩
def eY : En := ⟨[97], ⟨3, 0, 0, false, [], [], [], 2⟩⟩
theorem fit_eY : FitE eY := ⟨by decide, ⟨by decide, by decide, by decide⟩⟩
def eZ : En := ⟨[98], ⟨3, 0, 0, false, [], [], [], 3⟩⟩
theorem fit_eZ : FitE eZ := ⟨by decide, ⟨by decide, by decide, by decide⟩⟩
def eW : En := ⟨[99], ⟨3, 0, 0, false, [], [], [], 1⟩⟩
theorem fit_eW : FitE eW := ⟨by decide, ⟨by decide, by decide, by decide⟩⟩
def aA : Ar := ⟨2, [], []⟩
theorem fit_aA : FitA aA := ⟨by decide, by decide, fun e he => by
  simp only [aA, List.mem_cons, List.not_mem_nil, or_false] at he
  skip⟩
def aB : Ar := ⟨2, [eX], [0]⟩
theorem fit_aB : FitA aB := ⟨by decide, by decide, fun e he => by
  simp only [aB, List.mem_cons, List.not_mem_nil, or_false] at he
  subst he; exact fit_eX⟩
def aC : Ar := ⟨2, [eX, eY], [1, 0]⟩
theorem fit_aC : FitA aC := ⟨by decide, by decide, fun e he => by
  simp only [aC, List.mem_cons, List.not_mem_nil, or_false] at he
  rcases he with rfl | rfl
  · exact fit_eX
  · exact fit_eY⟩
def aD : Ar := ⟨2, [eZ, eY], [1, 0]⟩
theorem fit_aD : FitA aD := ⟨by decide, by decide, fun e he => by
  simp only [aD, List.mem_cons, List.not_mem_nil, or_false] at he
  rcases he with rfl | rfl
  · exact fit_eZ
  · exact fit_eY⟩
theorem w_ax (v u : Value) (w : World) (hv : isAr aA v w) (hu : isEn eX u w) : Calls Try.prog 11 #[v, u] w fun e w' => ∃ v', e = .returned (.tuple #[v', .bool true, .int .i64 0]) ∧ isAr aB v' w' ∧ Below w.heap.size w w' := by
  have h := ajoin_any aA eX v u w hv hu fit_aA fit_eX
  rwa [show joinAF aA eX = aB by kernel_rfl, show joinAB aA eX = true by kernel_rfl, show joinAE aA eX = 0 by kernel_rfl] at h
theorem w_by (v u : Value) (w : World) (hv : isAr aB v w) (hu : isEn eY u w) : Calls Try.prog 11 #[v, u] w fun e w' => ∃ v', e = .returned (.tuple #[v', .bool true, .int .i64 0]) ∧ isAr aC v' w' ∧ Below w.heap.size w w' := by
  have h := ajoin_any aB eY v u w hv hu fit_aB fit_eY
  rwa [show joinAF aB eY = aC by kernel_rfl, show joinAB aB eY = true by kernel_rfl, show joinAE aB eY = 0 by kernel_rfl] at h
theorem w_cz (v u : Value) (w : World) (hv : isAr aC v w) (hu : isEn eZ u w) : Calls Try.prog 11 #[v, u] w fun e w' => ∃ v', e = .returned (.tuple #[v', .bool true, .int .i64 0]) ∧ isAr aD v' w' ∧ Below w.heap.size w w' := by
  have h := ajoin_any aC eZ v u w hv hu fit_aC fit_eZ
  rwa [show joinAF aC eZ = aD by kernel_rfl, show joinAB aC eZ = true by kernel_rfl, show joinAE aC eZ = 0 by kernel_rfl] at h
theorem w_dx (v u : Value) (w : World) (hv : isAr aD v w) (hu : isEn eX u w) : Calls Try.prog 11 #[v, u] w fun e w' => ∃ v', e = .returned (.tuple #[v', .bool false, .int .i64 0]) ∧ isAr aD v' w' ∧ Below w.heap.size w w' := by
  have h := ajoin_any aD eX v u w hv hu fit_aD fit_eX
  rwa [show joinAF aD eX = aD by kernel_rfl, show joinAB aD eX = false by kernel_rfl, show joinAE aD eX = 0 by kernel_rfl] at h
theorem w_cw (v u : Value) (w : World) (hv : isAr aC v w) (hu : isEn eW u w) : Calls Try.prog 11 #[v, u] w fun e w' => ∃ v', e = .returned (.tuple #[v', .bool false, .int .i64 4]) ∧ isAr aC v' w' ∧ Below w.heap.size w w' := by
  have h := ajoin_any aC eW v u w hv hu fit_aC fit_eW
  rwa [show joinAF aC eW = aC by kernel_rfl, show joinAB aC eW = false by kernel_rfl, show joinAE aC eW = 4 by kernel_rfl] at h
theorem w_new (w : World) : Calls Try.prog 26 #[.int .i64 2] w fun e w' => ∃ v', e = .returned (.tuple #[v', .int .i64 0]) ∧ isAr aA v' w' ∧ Below w.heap.size w w' := anew_any 2 w
theorem w_merge (v u : Value) (w : World) (hv : isAr aA v w) (hu : isEns [eX, eY, eZ, zeroE] u w) : Calls Try.prog 20 #[v, u] w fun e w' => ∃ v', e = .returned (.tuple #[v', .int .i64 3, .int .i64 1]) ∧ isAr aD v' w' ∧ Below w.heap.size w w' := by
  have h := amerge_any aA [eX, eY, eZ, zeroE] v u w hv hu fit_aA (fun e he => by
    simp only [List.mem_cons, List.not_mem_nil, or_false] at he
    rcases he with rfl | rfl | rfl | rfl
    · exact fit_eX
    · exact fit_eY
    · exact fit_eZ
    · exact ⟨by decide, ⟨by decide, by decide, by decide⟩⟩) (by decide)
  rwa [show mergeF aA [eX, eY, eZ, zeroE] = aD by kernel_rfl, show mergeN aA [eX, eY, eZ, zeroE] = 3 by kernel_rfl, show mergeO aA [eX, eY, eZ, zeroE] = 1 by kernel_rfl] at h
theorem w_all (v : Value) (w : World) (hv : isAr aD v w) : Calls Try.prog 22 #[v] w fun e W' => ∃ v', e = .returned v' ∧ isEns [eY, eZ] v' W' ∧ Below w.heap.size w W' := by
  have h := all_any aD v w hv fit_aD
  rwa [show allA aD = [eY, eZ] by kernel_rfl] at h
theorem w_chunk (v : Value) (w : World) (hv : isAr aD v w) : Calls Try.prog 24 #[v, .int .i64 1, .int .i64 9] w fun e W' => ∃ a c, e = .returned (.slice a 1 c) ∧ Below w.heap.size w W' := by
  have h := chunk_any aD 1 9 v w hv fit_aD
  refine h.mono ?_
  rintro e W' ⟨v', rfl, hv', hb⟩
  obtain ⟨a, c, e⟩ := hv'.len
  exact ⟨a, c, by rw [e, show (chunkA aD 1 9).length = 1 by kernel_rfl], hb⟩
theorem w_find (v : Value) (w : World) (hv : isAr aD v w) : Calls Try.prog 13 #[v, .int .i64 3, .string ⟨#[97]⟩] w fun e w' => e = .returned (.int .i64 1) ∧ Below w.heap.size w w' := by
  have h := find_any aD 3 [97] v w hv fit_aD
  rwa [show findI aD (nameE 3 [97]) = 1 by kernel_rfl] at h
theorem w_find1 (v : Value) (w : World) (hv : isAr aD v w) : Calls Try.prog 13 #[v, .int .i64 1, .string ⟨#[97]⟩] w fun e w' => e = .returned (.int .i64 (-1)) ∧ Below w.heap.size w w' := by
  have h := find_any aD 1 [97] v w hv fit_aD
  rwa [show findI aD (nameE 1 [97]) = -1 by kernel_rfl] at h
theorem w_same (A C : Ar) (r : Bool) (v u : Value) (w : World) (hv : isAr A v w) (hu : isAr C u w) (hA : FitA A) (hC : FitA C) (hr : decide (A = C) = r) : Calls Try.prog 12 #[v, u] w fun e w' => e = .returned (.bool r) ∧ Below w.heap.size w w' := by
  subst hr; exact asame_any A C v u w hv hu hA hC
theorem w_below (A C : Ar) (r : Bool) (v u : Value) (w : World) (hv : isAr A v w) (hu : isAr C u w) (hA : FitA A) (hC : FitA C) (hr : belowA A C = r) : Calls Try.prog 14 #[v, u] w fun e w' => e = .returned (.bool r) ∧ Below w.heap.size w w' := by
  subst hr; exact below_any A C v u w hv hu hA hC
theorem w_alike (A C : Ar) (r : Bool) (v u : Value) (w : World) (hv : isAr A v w) (hu : isAr C u w) (hA : FitA A) (hC : FitA C) (hr : alikeA A C = r) : Calls Try.prog 18 #[v, u] w fun e w' => e = .returned (.bool r) ∧ Below w.heap.size w w' := by
  subst hr; exact alike_any A C v u w hv hu hA hC
theorem w_check (A : Ar) (r : Int) (v : Value) (w : World) (hv : isAr A v w) (hA : FitA A) (hr : chkA A = r) : Calls Try.prog 15 #[v] w fun e w' => e = .returned (.int .i64 r) ∧ Below w.heap.size w w' := by
  subst hr; exact acheck_any A v w hv hA
theorem zeroA_lit (w : World) : isAr zeroA (.agg #[.int .i64 0, .slice none 0 0, .slice none 0 0]) w := ⟨_, _, rfl, .inl ⟨rfl, rfl⟩, .inl ⟨rfl, rfl⟩⟩
theorem fit_zeroA : FitA zeroA := ⟨by decide, by decide, fun e he => by simp [zeroA] at he⟩
theorem w_lits (w : World) : Kept (Below w.heap.size w (((w.alloc (.cells #[.string ⟨#[98]⟩, .int .i64 3, .int .i64 0, .int .i64 0, .bool false, .string ⟨#[]⟩, .slice none 0 0, .slice none 0 0, .int .u64 1] 30)).alloc (.cells #[.string ⟨#[97]⟩, .int .i64 3, .int .i64 0, .int .i64 0, .bool false, .string ⟨#[]⟩, .slice none 0 0, .slice none 0 0, .int .u64 2] 30)).alloc (.cells #[.string ⟨#[98]⟩, .int .i64 3, .int .i64 0, .int .i64 0, .bool false, .string ⟨#[]⟩, .slice none 0 0, .slice none 0 0, .int .u64 3] 30))) ∧ Kept (VarN (((w.alloc (.cells #[.string ⟨#[98]⟩, .int .i64 3, .int .i64 0, .int .i64 0, .bool false, .string ⟨#[]⟩, .slice none 0 0, .slice none 0 0, .int .u64 1] 30)).alloc (.cells #[.string ⟨#[97]⟩, .int .i64 3, .int .i64 0, .int .i64 0, .bool false, .string ⟨#[]⟩, .slice none 0 0, .slice none 0 0, .int .u64 2] 30)).alloc (.cells #[.string ⟨#[98]⟩, .int .i64 3, .int .i64 0, .int .i64 0, .bool false, .string ⟨#[]⟩, .slice none 0 0, .slice none 0 0, .int .u64 3] 30)) w.heap.size eX) ∧ Kept (VarN (((w.alloc (.cells #[.string ⟨#[98]⟩, .int .i64 3, .int .i64 0, .int .i64 0, .bool false, .string ⟨#[]⟩, .slice none 0 0, .slice none 0 0, .int .u64 1] 30)).alloc (.cells #[.string ⟨#[97]⟩, .int .i64 3, .int .i64 0, .int .i64 0, .bool false, .string ⟨#[]⟩, .slice none 0 0, .slice none 0 0, .int .u64 2] 30)).alloc (.cells #[.string ⟨#[98]⟩, .int .i64 3, .int .i64 0, .int .i64 0, .bool false, .string ⟨#[]⟩, .slice none 0 0, .slice none 0 0, .int .u64 3] 30)) (w.heap.size + 1) eY) ∧ Kept (VarN (((w.alloc (.cells #[.string ⟨#[98]⟩, .int .i64 3, .int .i64 0, .int .i64 0, .bool false, .string ⟨#[]⟩, .slice none 0 0, .slice none 0 0, .int .u64 1] 30)).alloc (.cells #[.string ⟨#[97]⟩, .int .i64 3, .int .i64 0, .int .i64 0, .bool false, .string ⟨#[]⟩, .slice none 0 0, .slice none 0 0, .int .u64 2] 30)).alloc (.cells #[.string ⟨#[98]⟩, .int .i64 3, .int .i64 0, .int .i64 0, .bool false, .string ⟨#[]⟩, .slice none 0 0, .slice none 0 0, .int .u64 3] 30)) (w.heap.size + 1 + 1) eZ) := by
  obtain ⟨B1, V1⟩ := ebox w eX (.slice none 0 0) (.slice none 0 0) (.inl ⟨rfl, rfl⟩) (.inl ⟨rfl, rfl⟩) w.heap.size rfl
  obtain ⟨B2, V2⟩ := ebox (w.alloc (.cells #[.string ⟨#[98]⟩, .int .i64 3, .int .i64 0, .int .i64 0, .bool false, .string ⟨#[]⟩, .slice none 0 0, .slice none 0 0, .int .u64 1] 30)) eY (.slice none 0 0) (.slice none 0 0) (.inl ⟨rfl, rfl⟩) (.inl ⟨rfl, rfl⟩) (w.heap.size + 1) (by simp)
  obtain ⟨B3, V3⟩ := ebox ((w.alloc (.cells #[.string ⟨#[98]⟩, .int .i64 3, .int .i64 0, .int .i64 0, .bool false, .string ⟨#[]⟩, .slice none 0 0, .slice none 0 0, .int .u64 1] 30)).alloc (.cells #[.string ⟨#[97]⟩, .int .i64 3, .int .i64 0, .int .i64 0, .bool false, .string ⟨#[]⟩, .slice none 0 0, .slice none 0 0, .int .u64 2] 30)) eZ (.slice none 0 0) (.slice none 0 0) (.inl ⟨rfl, rfl⟩) (.inl ⟨rfl, rfl⟩) (w.heap.size + 1 + 1) (by simp)
  have B12 : Below w.heap.size w _ := B1.out.trans (B2.out.mono B1.out.size)
  exact ⟨⟨B12.trans (B3.out.mono B12.size)⟩, ⟨(V1.out.keep B2.out).keep B3.out⟩, ⟨V2.out.keep B3.out⟩, V3⟩
theorem w_en {vp vm : Value} {w : World} (h : isVa eX.val (.agg #[.int .i64 eX.val.kind, .int .i64 eX.val.time, .int .i64 eX.val.node, .bool eX.val.dead, .string ⟨eX.val.text.toArray⟩, vp, vm, .int .u64 (eX.val.flags.toNat : Int)]) w) : isEn eW (.agg #[.string ⟨#[99]⟩, .int .i64 eX.val.kind, .int .i64 eX.val.time, .int .i64 eX.val.node, .bool eX.val.dead, .string ⟨eX.val.text.toArray⟩, vp, vm, .int .u64 (eX.val.flags.toNat : Int)]) w := by
  obtain ⟨p, m, e, hp, hm⟩ := h
  injection e with e
  simp only [Array.mk.injEq, List.cons.injEq] at e
  obtain ⟨_, _, _, _, _, rfl, rfl, _⟩ := e
  exact ⟨_, _, rfl, hp, hm⟩
theorem en_rows {E : En} {vp vm : Value} {w : World} (h : isEn E (.agg #[.string ⟨E.key.toArray⟩, .int .i64 E.val.kind, .int .i64 E.val.time, .int .i64 E.val.node, .bool E.val.dead, .string ⟨E.val.text.toArray⟩, vp, vm, .int .u64 (E.val.flags.toNat : Int)]) w) : isCells (E.val.plus.map intC) vp w ∧ isCells (E.val.minus.map intC) vm w := by
  obtain ⟨p, m, e, hp, hm⟩ := h
  injection e with e
  simp only [Array.mk.injEq, List.cons.injEq] at e
  obtain ⟨_, _, _, _, _, _, rfl, rfl, _⟩ := e
  exact ⟨hp, hm⟩
theorem w_row (E1 E2 E3 : En) (p1 m1 p2 m2 p3 m3 : Value) (w : World) (h1 : isEn E1 (.agg #[.string ⟨E1.key.toArray⟩, .int .i64 E1.val.kind, .int .i64 E1.val.time, .int .i64 E1.val.node, .bool E1.val.dead, .string ⟨E1.val.text.toArray⟩, p1, m1, .int .u64 (E1.val.flags.toNat : Int)]) w) (h2 : isEn E2 (.agg #[.string ⟨E2.key.toArray⟩, .int .i64 E2.val.kind, .int .i64 E2.val.time, .int .i64 E2.val.node, .bool E2.val.dead, .string ⟨E2.val.text.toArray⟩, p2, m2, .int .u64 (E2.val.flags.toNat : Int)]) w) (h3 : isEn E3 (.agg #[.string ⟨E3.key.toArray⟩, .int .i64 E3.val.kind, .int .i64 E3.val.time, .int .i64 E3.val.node, .bool E3.val.dead, .string ⟨E3.val.text.toArray⟩, p3, m3, .int .u64 (E3.val.flags.toNat : Int)]) w) : isEns [E1, E2, E3, zeroE] (.slice (some ⟨w.heap.size, 0, none⟩) 4 4) (w.alloc (.cells #[.string ⟨E1.key.toArray⟩, .int .i64 E1.val.kind, .int .i64 E1.val.time, .int .i64 E1.val.node, .bool E1.val.dead, .string ⟨E1.val.text.toArray⟩, p1, m1, .int .u64 (E1.val.flags.toNat : Int), .string ⟨E2.key.toArray⟩, .int .i64 E2.val.kind, .int .i64 E2.val.time, .int .i64 E2.val.node, .bool E2.val.dead, .string ⟨E2.val.text.toArray⟩, p2, m2, .int .u64 (E2.val.flags.toNat : Int), .string ⟨E3.key.toArray⟩, .int .i64 E3.val.kind, .int .i64 E3.val.time, .int .i64 E3.val.node, .bool E3.val.dead, .string ⟨E3.val.text.toArray⟩, p3, m3, .int .u64 (E3.val.flags.toNat : Int), .string ⟨#[]⟩, .int .i64 0, .int .i64 0, .int .i64 0, .bool false, .string ⟨#[]⟩, .slice none 0 0, .slice none 0 0, .int .u64 0] 30)) := by
  have hb := lit_below w (.cells #[.string ⟨E1.key.toArray⟩, .int .i64 E1.val.kind, .int .i64 E1.val.time, .int .i64 E1.val.node, .bool E1.val.dead, .string ⟨E1.val.text.toArray⟩, p1, m1, .int .u64 (E1.val.flags.toNat : Int), .string ⟨E2.key.toArray⟩, .int .i64 E2.val.kind, .int .i64 E2.val.time, .int .i64 E2.val.node, .bool E2.val.dead, .string ⟨E2.val.text.toArray⟩, p2, m2, .int .u64 (E2.val.flags.toNat : Int), .string ⟨E3.key.toArray⟩, .int .i64 E3.val.kind, .int .i64 E3.val.time, .int .i64 E3.val.node, .bool E3.val.dead, .string ⟨E3.val.text.toArray⟩, p3, m3, .int .u64 (E3.val.flags.toNat : Int), .string ⟨#[]⟩, .int .i64 0, .int .i64 0, .int .i64 0, .bool false, .string ⟨#[]⟩, .slice none 0 0, .slice none 0 0, .int .u64 0] 30)
  refine .inr (.inr ⟨w.heap.size, 0, 4, rfl, by simp, fun j E hE => ?_⟩)
  match j, hE with
  | 0, h => obtain rfl : _ = E := Option.some.inj h; exact ⟨p1, m1, fun i x hi => by rw [World.cell?_alloc_new]; match i, hi with | 0, h => exact h | 1, h => exact h | 2, h => exact h | 3, h => exact h | 4, h => exact h | 5, h => exact h | 6, h => exact h | 7, h => exact h | 8, h => exact h | n + 9, h => simp at h, stable_cells _ _ _ _ (en_rows h1).1 hb, stable_cells _ _ _ _ (en_rows h1).2 hb⟩
  | 1, h => obtain rfl : _ = E := Option.some.inj h; exact ⟨p2, m2, fun i x hi => by rw [World.cell?_alloc_new]; match i, hi with | 0, h => exact h | 1, h => exact h | 2, h => exact h | 3, h => exact h | 4, h => exact h | 5, h => exact h | 6, h => exact h | 7, h => exact h | 8, h => exact h | n + 9, h => simp at h, stable_cells _ _ _ _ (en_rows h2).1 hb, stable_cells _ _ _ _ (en_rows h2).2 hb⟩
  | 2, h => obtain rfl : _ = E := Option.some.inj h; exact ⟨p3, m3, fun i x hi => by rw [World.cell?_alloc_new]; match i, hi with | 0, h => exact h | 1, h => exact h | 2, h => exact h | 3, h => exact h | 4, h => exact h | 5, h => exact h | 6, h => exact h | 7, h => exact h | 8, h => exact h | n + 9, h => simp at h, stable_cells _ _ _ _ (en_rows h3).1 hb, stable_cells _ _ _ _ (en_rows h3).2 hb⟩
  | 3, h => obtain rfl : _ = E := Option.some.inj h; exact ⟨.slice none 0 0, .slice none 0 0, fun i x hi => by rw [World.cell?_alloc_new]; match i, hi with | 0, h => exact h | 1, h => exact h | 2, h => exact h | 3, h => exact h | 4, h => exact h | 5, h => exact h | 6, h => exact h | 7, h => exact h | 8, h => exact h | n + 9, h => simp at h, .inl ⟨rfl, rfl⟩, .inl ⟨rfl, rfl⟩⟩
  | n + 4, h => simp at h
theorem w_mrow (W : World) (va p1 m1 p2 m2 p3 m3 : Value) (ha : isAr aA va W) (h1 : isEn eX (.agg #[.string ⟨eX.key.toArray⟩, .int .i64 eX.val.kind, .int .i64 eX.val.time, .int .i64 eX.val.node, .bool eX.val.dead, .string ⟨eX.val.text.toArray⟩, p1, m1, .int .u64 (eX.val.flags.toNat : Int)]) W) (h2 : isEn eY (.agg #[.string ⟨eY.key.toArray⟩, .int .i64 eY.val.kind, .int .i64 eY.val.time, .int .i64 eY.val.node, .bool eY.val.dead, .string ⟨eY.val.text.toArray⟩, p2, m2, .int .u64 (eY.val.flags.toNat : Int)]) W) (h3 : isEn eZ (.agg #[.string ⟨eZ.key.toArray⟩, .int .i64 eZ.val.kind, .int .i64 eZ.val.time, .int .i64 eZ.val.node, .bool eZ.val.dead, .string ⟨eZ.val.text.toArray⟩, p3, m3, .int .u64 (eZ.val.flags.toNat : Int)]) W) : Calls Try.prog 20 #[va, .slice (some ⟨W.heap.size, 0, none⟩) 4 4] (W.alloc (.cells #[.string ⟨eX.key.toArray⟩, .int .i64 eX.val.kind, .int .i64 eX.val.time, .int .i64 eX.val.node, .bool eX.val.dead, .string ⟨eX.val.text.toArray⟩, p1, m1, .int .u64 (eX.val.flags.toNat : Int), .string ⟨eY.key.toArray⟩, .int .i64 eY.val.kind, .int .i64 eY.val.time, .int .i64 eY.val.node, .bool eY.val.dead, .string ⟨eY.val.text.toArray⟩, p2, m2, .int .u64 (eY.val.flags.toNat : Int), .string ⟨eZ.key.toArray⟩, .int .i64 eZ.val.kind, .int .i64 eZ.val.time, .int .i64 eZ.val.node, .bool eZ.val.dead, .string ⟨eZ.val.text.toArray⟩, p3, m3, .int .u64 (eZ.val.flags.toNat : Int), .string ⟨#[]⟩, .int .i64 0, .int .i64 0, .int .i64 0, .bool false, .string ⟨#[]⟩, .slice none 0 0, .slice none 0 0, .int .u64 0] 30)) fun e w' => ∃ v', e = .returned (.tuple #[v', .int .i64 3, .int .i64 1]) ∧ isAr aD v' w' ∧ Below W.heap.size W w' := by
  have hb := lit_below W (.cells #[.string ⟨eX.key.toArray⟩, .int .i64 eX.val.kind, .int .i64 eX.val.time, .int .i64 eX.val.node, .bool eX.val.dead, .string ⟨eX.val.text.toArray⟩, p1, m1, .int .u64 (eX.val.flags.toNat : Int), .string ⟨eY.key.toArray⟩, .int .i64 eY.val.kind, .int .i64 eY.val.time, .int .i64 eY.val.node, .bool eY.val.dead, .string ⟨eY.val.text.toArray⟩, p2, m2, .int .u64 (eY.val.flags.toNat : Int), .string ⟨eZ.key.toArray⟩, .int .i64 eZ.val.kind, .int .i64 eZ.val.time, .int .i64 eZ.val.node, .bool eZ.val.dead, .string ⟨eZ.val.text.toArray⟩, p3, m3, .int .u64 (eZ.val.flags.toNat : Int), .string ⟨#[]⟩, .int .i64 0, .int .i64 0, .int .i64 0, .bool false, .string ⟨#[]⟩, .slice none 0 0, .slice none 0 0, .int .u64 0] 30)
  refine (w_merge _ _ _ (stable_ar _ _ _ _ ha hb) (w_row eX eY eZ _ _ _ _ _ _ _ h1 h2 h3)).mono ?_
  rintro e w' ⟨v', rfl, hv, hb'⟩
  exact ⟨v', rfl, hv, hb.trans (hb'.mono hb.size)⟩
theorem aD_0 : aD.slots[0]? = some eZ := rfl
theorem aD_len : aD.slots.length = 2 := rfl
theorem eY_key : (Value.string ⟨eY.key.toArray⟩) = .string ⟨#[97]⟩ := rfl
theorem eZ_fl : (Value.int .u64 (eZ.val.flags.toNat : Int)) = .int .u64 3 := rfl
theorem f_bd : belowA aB aD = true := by kernel_rfl
theorem f_db : belowA aD aB = false := by kernel_rfl
theorem f_dd : alikeA aD aD = true := by kernel_rfl
theorem f_cd : chkA aD = 0 := by kernel_rfl
theorem f_cz : chkA zeroA = 2 := by kernel_rfl
theorem f_ab : decide (aA = aB) = false := by kernel_rfl
end Go.Proofs.Ytmbnhlhanckkiaa
end
section
namespace Go.Proofs.Ytmbnhlhanckkiaa
open Go.RowKit
set_option linter.unusedVariables false
set_option linter.unusedSimpArgs false
attribute [local irreducible] setN eX eY eZ eW zeroE aA aB aC aD

set_option maxRecDepth 100000 in
set_option maxHeartbeats 4000000 in
theorem aworks_any (w : World) : Calls Try.prog 8 #[] w fun e w' => e = .returned (.bool true) ∧ Below w.heap.size w w' := by
  obtain ⟨hB, Vx, Vy, Vz⟩ := w_lits w
  go_enter Try.func8, Try.ntmps8
  go_wp2_with fail
  generalize (((w.alloc (.cells #[.string ⟨#[98]⟩, .int .i64 3, .int .i64 0, .int .i64 0, .bool false, .string ⟨#[]⟩, .slice none 0 0, .slice none 0 0, .int .u64 1] 30)).alloc (.cells #[.string ⟨#[97]⟩, .int .i64 3, .int .i64 0, .int .i64 0, .bool false, .string ⟨#[]⟩, .slice none 0 0, .slice none 0 0, .int .u64 2] 30)).alloc (.cells #[.string ⟨#[98]⟩, .int .i64 3, .int .i64 0, .int .i64 0, .bool false, .string ⟨#[]⟩, .slice none 0 0, .slice none 0 0, .int .u64 3] 30)) = W0 at *
  ((with_reducible refine (w_new _).mono ?_); rintro e U ⟨v', rfl, ⟨p', m', rfl, hp', hm'⟩, hb1⟩)
  obtain ⟨K1, K2, K3, K4, K5⟩ := anew U aA p' m' hp' hm' U.heap.size rfl
  clear hp' hm'
  replace hB := Kept.mk (hB.out.trans ((hb1).mono hB.out.size))
  replace Vx := Kept.mk (Vx.out.keep (hb1))
  replace Vy := Kept.mk (Vy.out.keep (hb1))
  replace Vz := Kept.mk (Vz.out.keep (hb1))
  clear hb1
  go_wp2_with (have hz0 := K1; refine wpList_storeN 25 rfl (.tmp 4) (.tmp 33) rfl U.heap.size [.int .i64 aA.cap, p', m'] size_ar rfl rfl K1.out rfl K2.out K5.out ?_; replace hB := Kept.mk (hB.out.trans ((K3.out).mono hB.out.size)); replace Vx := Kept.mk (Vx.out.keep (K3.out)); replace Vy := Kept.mk (Vy.out.keep (K3.out)); replace Vz := Kept.mk (Vz.out.keep (K3.out)); have Va := Kept.mk K4.out; clear hz0 K1 K2 K3 K4 K5; generalize setN (U.alloc (.cells #[.int .i64 0, .slice none 0 0, .slice none 0 0] 25)) U.heap.size 0 [.int .i64 aA.cap, p', m'] = W1 at *; generalize U.heap.size = ga at *; obtain ⟨qa, ra, xa, sa, ia, ka0, ka1, ka2⟩ := Va.out.open_; have Xa := Kept.mk xa; have Sa := Kept.mk sa; have Ia := Kept.mk ia; clear xa sa ia; obtain ⟨qx, rx, xx, yx, kx0, kx1, kx2, kx3, kx4, kx5, kx6, kx7, kx8⟩ := Vx.out.open_; have Xx := Kept.mk xx; have Yx := Kept.mk yx; clear xx yx)
  ((with_reducible refine (w_ax _ _ _ Xa.out Xx.out).mono ?_); rintro e U ⟨v', rfl, ⟨p', m', rfl, hp', hm'⟩, hb1⟩)
  obtain ⟨K1, K2, K3, K4, K5⟩ := anew U aB p' m' hp' hm' U.heap.size rfl
  clear hp' hm'
  clear Xa Sa Ia ka0 ka1 ka2
  clear Xx Yx kx0 kx1 kx2 kx3 kx4 kx5 kx6 kx7 kx8
  replace hB := Kept.mk (hB.out.trans ((hb1).mono hB.out.size))
  replace Vx := Kept.mk (Vx.out.keep (hb1))
  replace Vy := Kept.mk (Vy.out.keep (hb1))
  replace Vz := Kept.mk (Vz.out.keep (hb1))
  replace Va := Kept.mk (Va.out.keep (hb1))
  clear hb1
  go_wp2_with (have hz0 := K1; refine wpList_storeN 25 rfl (.tmp 6) (.tmp 39) rfl U.heap.size [.int .i64 aB.cap, p', m'] size_ar rfl rfl K1.out rfl K2.out K5.out ?_; replace hB := Kept.mk (hB.out.trans ((K3.out).mono hB.out.size)); replace Vx := Kept.mk (Vx.out.keep (K3.out)); replace Vy := Kept.mk (Vy.out.keep (K3.out)); replace Vz := Kept.mk (Vz.out.keep (K3.out)); replace Va := Kept.mk (Va.out.keep (K3.out)); have Vb := Kept.mk K4.out; clear hz0 K1 K2 K3 K4 K5; generalize setN (U.alloc (.cells #[.int .i64 0, .slice none 0 0, .slice none 0 0] 25)) U.heap.size 0 [.int .i64 aB.cap, p', m'] = W2 at *; generalize U.heap.size = gb at *; obtain ⟨qb, rb, xb, sb, ib, kb0, kb1, kb2⟩ := Vb.out.open_; have Xb := Kept.mk xb; have Sb := Kept.mk sb; have Ib := Kept.mk ib; clear xb sb ib; obtain ⟨qy, ry, xy, yy, ky0, ky1, ky2, ky3, ky4, ky5, ky6, ky7, ky8⟩ := Vy.out.open_; have Xy := Kept.mk xy; have Yy := Kept.mk yy; clear xy yy)
  ((with_reducible refine (w_by _ _ _ Xb.out Xy.out).mono ?_); rintro e U ⟨v', rfl, ⟨p', m', rfl, hp', hm'⟩, hb1⟩)
  obtain ⟨K1, K2, K3, K4, K5⟩ := anew U aC p' m' hp' hm' U.heap.size rfl
  clear hp' hm'
  clear Xb Sb Ib kb0 kb1 kb2
  clear Xy Yy ky0 ky1 ky2 ky3 ky4 ky5 ky6 ky7 ky8
  replace hB := Kept.mk (hB.out.trans ((hb1).mono hB.out.size))
  replace Vx := Kept.mk (Vx.out.keep (hb1))
  replace Vy := Kept.mk (Vy.out.keep (hb1))
  replace Vz := Kept.mk (Vz.out.keep (hb1))
  replace Va := Kept.mk (Va.out.keep (hb1))
  replace Vb := Kept.mk (Vb.out.keep (hb1))
  clear hb1
  go_wp2_with (have hz0 := K1; refine wpList_storeN 25 rfl (.tmp 9) (.tmp 46) rfl U.heap.size [.int .i64 aC.cap, p', m'] size_ar rfl rfl K1.out rfl K2.out K5.out ?_; replace hB := Kept.mk (hB.out.trans ((K3.out).mono hB.out.size)); replace Vx := Kept.mk (Vx.out.keep (K3.out)); replace Vy := Kept.mk (Vy.out.keep (K3.out)); replace Vz := Kept.mk (Vz.out.keep (K3.out)); replace Va := Kept.mk (Va.out.keep (K3.out)); replace Vb := Kept.mk (Vb.out.keep (K3.out)); have Vc := Kept.mk K4.out; clear hz0 K1 K2 K3 K4 K5; generalize setN (U.alloc (.cells #[.int .i64 0, .slice none 0 0, .slice none 0 0] 25)) U.heap.size 0 [.int .i64 aC.cap, p', m'] = W3 at *; generalize U.heap.size = gc at *; obtain ⟨qc, rc, xc, sc, ic, kc0, kc1, kc2⟩ := Vc.out.open_; have Xc := Kept.mk xc; have Sc := Kept.mk sc; have Ic := Kept.mk ic; clear xc sc ic; obtain ⟨qz, rz, xz, yz, kz0, kz1, kz2, kz3, kz4, kz5, kz6, kz7, kz8⟩ := Vz.out.open_; have Xz := Kept.mk xz; have Yz := Kept.mk yz; clear xz yz)
  ((with_reducible refine (w_cz _ _ _ Xc.out Xz.out).mono ?_); rintro e U ⟨v', rfl, ⟨p', m', rfl, hp', hm'⟩, hb1⟩)
  obtain ⟨K1, K2, K3, K4, K5⟩ := anew U aD p' m' hp' hm' U.heap.size rfl
  clear hp' hm'
  clear Xc Sc Ic kc0 kc1 kc2
  clear Xz Yz kz0 kz1 kz2 kz3 kz4 kz5 kz6 kz7 kz8
  replace hB := Kept.mk (hB.out.trans ((hb1).mono hB.out.size))
  replace Vx := Kept.mk (Vx.out.keep (hb1))
  replace Vy := Kept.mk (Vy.out.keep (hb1))
  replace Vz := Kept.mk (Vz.out.keep (hb1))
  replace Va := Kept.mk (Va.out.keep (hb1))
  replace Vb := Kept.mk (Vb.out.keep (hb1))
  replace Vc := Kept.mk (Vc.out.keep (hb1))
  clear hb1
  go_wp2_with (have hz0 := K1; refine wpList_storeN 25 rfl (.tmp 12) (.tmp 53) rfl U.heap.size [.int .i64 aD.cap, p', m'] size_ar rfl rfl K1.out rfl K2.out K5.out ?_; replace hB := Kept.mk (hB.out.trans ((K3.out).mono hB.out.size)); replace Vx := Kept.mk (Vx.out.keep (K3.out)); replace Vy := Kept.mk (Vy.out.keep (K3.out)); replace Vz := Kept.mk (Vz.out.keep (K3.out)); replace Va := Kept.mk (Va.out.keep (K3.out)); replace Vb := Kept.mk (Vb.out.keep (K3.out)); replace Vc := Kept.mk (Vc.out.keep (K3.out)); have Vd := Kept.mk K4.out; clear hz0 K1 K2 K3 K4 K5; generalize setN (U.alloc (.cells #[.int .i64 0, .slice none 0 0, .slice none 0 0] 25)) U.heap.size 0 [.int .i64 aD.cap, p', m'] = W4 at *; generalize U.heap.size = gd at *; obtain ⟨qd, rd, xd, sd, id, kd0, kd1, kd2⟩ := Vd.out.open_; have Xd := Kept.mk xd; have Sd := Kept.mk sd; have Id := Kept.mk id; clear xd sd id; obtain ⟨qx, rx, xx, yx, kx0, kx1, kx2, kx3, kx4, kx5, kx6, kx7, kx8⟩ := Vx.out.open_; have Xx := Kept.mk xx; have Yx := Kept.mk yx; clear xx yx)
  ((with_reducible refine (w_dx _ _ _ Xd.out Xx.out).mono ?_); rintro e U ⟨v', rfl, ⟨p', m', rfl, hp', hm'⟩, hb1⟩)
  obtain ⟨K1, K2, K3, K4, K5⟩ := anew U aD p' m' hp' hm' U.heap.size rfl
  clear hp' hm'
  clear Xd Sd Id kd0 kd1 kd2
  clear Xx Yx kx0 kx1 kx2 kx3 kx4 kx5 kx6 kx7 kx8
  replace hB := Kept.mk (hB.out.trans ((hb1).mono hB.out.size))
  replace Vx := Kept.mk (Vx.out.keep (hb1))
  replace Vy := Kept.mk (Vy.out.keep (hb1))
  replace Vz := Kept.mk (Vz.out.keep (hb1))
  replace Va := Kept.mk (Va.out.keep (hb1))
  replace Vb := Kept.mk (Vb.out.keep (hb1))
  replace Vc := Kept.mk (Vc.out.keep (hb1))
  replace Vd := Kept.mk (Vd.out.keep (hb1))
  clear hb1
  go_wp2_with (have hz0 := K1; refine wpList_storeN 25 rfl (.tmp 15) (.tmp 60) rfl U.heap.size [.int .i64 aD.cap, p', m'] size_ar rfl rfl K1.out rfl K2.out K5.out ?_; replace hB := Kept.mk (hB.out.trans ((K3.out).mono hB.out.size)); replace Vx := Kept.mk (Vx.out.keep (K3.out)); replace Vy := Kept.mk (Vy.out.keep (K3.out)); replace Vz := Kept.mk (Vz.out.keep (K3.out)); replace Va := Kept.mk (Va.out.keep (K3.out)); replace Vb := Kept.mk (Vb.out.keep (K3.out)); replace Vc := Kept.mk (Vc.out.keep (K3.out)); replace Vd := Kept.mk (Vd.out.keep (K3.out)); have Vj := Kept.mk K4.out; clear hz0 K1 K2 K3 K4 K5; generalize setN (U.alloc (.cells #[.int .i64 0, .slice none 0 0, .slice none 0 0] 25)) U.heap.size 0 [.int .i64 aD.cap, p', m'] = W5 at *; generalize U.heap.size = gj at *; obtain ⟨qc, rc, xc, sc, ic, kc0, kc1, kc2⟩ := Vc.out.open_; have Xc := Kept.mk xc; have Sc := Kept.mk sc; have Ic := Kept.mk ic; clear xc sc ic; obtain ⟨qx, rx, xx, yx, kx0, kx1, kx2, kx3, kx4, kx5, kx6, kx7, kx8⟩ := Vx.out.open_; have Xx := Kept.mk xx; have Yx := Kept.mk yx; clear xx yx)
  ((refine (w_cw _ _ _ Xc.out (w_en Yx.out)).mono ?_); rintro e U ⟨v', rfl, ⟨p', m', rfl, hp', hm'⟩, hb1⟩)
  obtain ⟨K1, K2, K3, K4, K5⟩ := anew U aC p' m' hp' hm' U.heap.size rfl
  clear hp' hm'
  clear Xc Sc Ic kc0 kc1 kc2
  clear Xx Yx kx0 kx1 kx2 kx3 kx4 kx5 kx6 kx7 kx8
  replace hB := Kept.mk (hB.out.trans ((hb1).mono hB.out.size))
  replace Vx := Kept.mk (Vx.out.keep (hb1))
  replace Vy := Kept.mk (Vy.out.keep (hb1))
  replace Vz := Kept.mk (Vz.out.keep (hb1))
  replace Va := Kept.mk (Va.out.keep (hb1))
  replace Vb := Kept.mk (Vb.out.keep (hb1))
  replace Vc := Kept.mk (Vc.out.keep (hb1))
  replace Vd := Kept.mk (Vd.out.keep (hb1))
  replace Vj := Kept.mk (Vj.out.keep (hb1))
  clear hb1
  go_wp2_with (have hz0 := K1; refine wpList_storeN 25 rfl (.tmp 18) (.tmp 69) rfl U.heap.size [.int .i64 aC.cap, p', m'] size_ar rfl rfl K1.out rfl K2.out K5.out ?_; replace hB := Kept.mk (hB.out.trans ((K3.out).mono hB.out.size)); replace Vx := Kept.mk (Vx.out.keep (K3.out)); replace Vy := Kept.mk (Vy.out.keep (K3.out)); replace Vz := Kept.mk (Vz.out.keep (K3.out)); replace Va := Kept.mk (Va.out.keep (K3.out)); replace Vb := Kept.mk (Vb.out.keep (K3.out)); replace Vc := Kept.mk (Vc.out.keep (K3.out)); replace Vd := Kept.mk (Vd.out.keep (K3.out)); replace Vj := Kept.mk (Vj.out.keep (K3.out)); have Vh := Kept.mk K4.out; clear hz0 K1 K2 K3 K4 K5; generalize setN (U.alloc (.cells #[.int .i64 0, .slice none 0 0, .slice none 0 0] 25)) U.heap.size 0 [.int .i64 aC.cap, p', m'] = W6 at *; generalize U.heap.size = gh at *; obtain ⟨qa, ra, xa, sa, ia, ka0, ka1, ka2⟩ := Va.out.open_; have Xa := Kept.mk xa; have Sa := Kept.mk sa; have Ia := Kept.mk ia; clear xa sa ia; obtain ⟨qx, rx, xx, yx, kx0, kx1, kx2, kx3, kx4, kx5, kx6, kx7, kx8⟩ := Vx.out.open_; have Xx := Kept.mk xx; have Yx := Kept.mk yx; clear xx yx; obtain ⟨qy, ry, xy, yy, ky0, ky1, ky2, ky3, ky4, ky5, ky6, ky7, ky8⟩ := Vy.out.open_; have Xy := Kept.mk xy; have Yy := Kept.mk yy; clear xy yy; obtain ⟨qz, rz, xz, yz, kz0, kz1, kz2, kz3, kz4, kz5, kz6, kz7, kz8⟩ := Vz.out.open_; have Xz := Kept.mk xz; have Yz := Kept.mk yz; clear xz yz)
  ((with_reducible refine (w_mrow _ _ _ _ _ _ _ _ Xa.out Xx.out Xy.out Xz.out).mono ?_); rintro e U ⟨v', rfl, ⟨p', m', rfl, hp', hm'⟩, hb1⟩)
  obtain ⟨K1, K2, K3, K4, K5⟩ := anew U aD p' m' hp' hm' U.heap.size rfl
  clear hp' hm'
  clear Xa Sa Ia ka0 ka1 ka2
  clear Xx Yx kx0 kx1 kx2 kx3 kx4 kx5 kx6 kx7 kx8
  clear Xy Yy ky0 ky1 ky2 ky3 ky4 ky5 ky6 ky7 ky8
  clear Xz Yz kz0 kz1 kz2 kz3 kz4 kz5 kz6 kz7 kz8
  replace hB := Kept.mk (hB.out.trans ((hb1).mono hB.out.size))
  replace Vx := Kept.mk (Vx.out.keep (hb1))
  replace Vy := Kept.mk (Vy.out.keep (hb1))
  replace Vz := Kept.mk (Vz.out.keep (hb1))
  replace Va := Kept.mk (Va.out.keep (hb1))
  replace Vb := Kept.mk (Vb.out.keep (hb1))
  replace Vc := Kept.mk (Vc.out.keep (hb1))
  replace Vd := Kept.mk (Vd.out.keep (hb1))
  replace Vj := Kept.mk (Vj.out.keep (hb1))
  replace Vh := Kept.mk (Vh.out.keep (hb1))
  clear hb1
  go_wp2_with (have hz0 := K1; refine wpList_storeN 25 rfl (.tmp 21) (.tmp 80) rfl U.heap.size [.int .i64 aD.cap, p', m'] size_ar rfl rfl K1.out rfl K2.out K5.out ?_; replace hB := Kept.mk (hB.out.trans ((K3.out).mono hB.out.size)); replace Vx := Kept.mk (Vx.out.keep (K3.out)); replace Vy := Kept.mk (Vy.out.keep (K3.out)); replace Vz := Kept.mk (Vz.out.keep (K3.out)); replace Va := Kept.mk (Va.out.keep (K3.out)); replace Vb := Kept.mk (Vb.out.keep (K3.out)); replace Vc := Kept.mk (Vc.out.keep (K3.out)); replace Vd := Kept.mk (Vd.out.keep (K3.out)); replace Vj := Kept.mk (Vj.out.keep (K3.out)); replace Vh := Kept.mk (Vh.out.keep (K3.out)); have Vm := Kept.mk K4.out; clear hz0 K1 K2 K3 K4 K5; generalize setN (U.alloc (.cells #[.int .i64 0, .slice none 0 0, .slice none 0 0] 25)) U.heap.size 0 [.int .i64 aD.cap, p', m'] = W7 at *; generalize U.heap.size = gm at *; obtain ⟨qd, rd, xd, sd, id, kd0, kd1, kd2⟩ := Vd.out.open_; have Xd := Kept.mk xd; have Sd := Kept.mk sd; have Id := Kept.mk id; clear xd sd id)
  ((with_reducible refine (w_all _ _ Xd.out).mono ?_); rintro e W8 ⟨vl, rfl, hl, hb1⟩)
  clear Xd Sd Id kd0 kd1 kd2
  replace hB := Kept.mk (hB.out.trans ((hb1).mono hB.out.size))
  replace Vx := Kept.mk (Vx.out.keep (hb1))
  replace Vy := Kept.mk (Vy.out.keep (hb1))
  replace Vz := Kept.mk (Vz.out.keep (hb1))
  replace Va := Kept.mk (Va.out.keep (hb1))
  replace Vb := Kept.mk (Vb.out.keep (hb1))
  replace Vc := Kept.mk (Vc.out.keep (hb1))
  replace Vd := Kept.mk (Vd.out.keep (hb1))
  replace Vj := Kept.mk (Vj.out.keep (hb1))
  replace Vh := Kept.mk (Vh.out.keep (hb1))
  replace Vm := Kept.mk (Vm.out.keep (hb1))
  clear hb1
  obtain ⟨bl, ol, cl, rfl, hbl, hEl⟩ := hl.get (j := 0) (E := eY) rfl
  obtain ⟨ql, rl, xl, yl, kl0, kl1, kl2, kl3, kl4, kl5, kl6, kl7, kl8⟩ := hEl.open_
  obtain ⟨qd, rd, xd, sd, id, kd0, kd1, kd2⟩ := Vd.out.open_
  have Xd := Kept.mk xd
  have Sd := Kept.mk sd
  have Id := Kept.mk id
  clear xd sd id
  obtain ⟨bd, od, cd, rfl, hbd, hEd⟩ := Sd.out.get aD_0
  obtain ⟨qm, rm, xm, ym, ke0, ke1, ke2, ke3, ke4, ke5, ke6, ke7, ke8⟩ := hEd.open_
  clear xl yl xm ym hl
  rw [aD_len] at kd1 Xd Sd
  simp only [List.length_cons, List.length_nil, Nat.zero_add, Nat.zero_mul, Nat.add_zero] at *
  rw [eY_key] at kl0
  rw [eZ_fl] at ke8
  clear kl1 kl2 kl3 kl4 kl5 kl6 kl7 kl8 ke0 ke1 ke2 ke3 ke4 ke5 ke6 ke7 hEl hEd
  go_wp2_with fail
  ((with_reducible refine (w_find _ _ Xd.out).mono ?_); rintro e W9 ⟨rfl, hb1⟩)
  clear Xd Sd Id kd0 kd1 kd2
  replace hB := Kept.mk (hB.out.trans ((hb1).mono hB.out.size))
  replace Vx := Kept.mk (Vx.out.keep (hb1))
  replace Vy := Kept.mk (Vy.out.keep (hb1))
  replace Vz := Kept.mk (Vz.out.keep (hb1))
  replace Va := Kept.mk (Va.out.keep (hb1))
  replace Vb := Kept.mk (Vb.out.keep (hb1))
  replace Vc := Kept.mk (Vc.out.keep (hb1))
  replace Vd := Kept.mk (Vd.out.keep (hb1))
  replace Vj := Kept.mk (Vj.out.keep (hb1))
  replace Vh := Kept.mk (Vh.out.keep (hb1))
  replace Vm := Kept.mk (Vm.out.keep (hb1))
  clear hb1
  clear kl0 ke8 hbl hbd
  obtain ⟨qd, rd, xd, sd, id, kd0, kd1, kd2⟩ := Vd.out.open_
  have Xd := Kept.mk xd
  have Sd := Kept.mk sd
  have Id := Kept.mk id
  clear xd sd id
  go_wp2_with fail
  ((with_reducible refine (w_find1 _ _ Xd.out).mono ?_); rintro e W10 ⟨rfl, hb1⟩)
  clear Xd Sd Id kd0 kd1 kd2
  replace hB := Kept.mk (hB.out.trans ((hb1).mono hB.out.size))
  replace Vx := Kept.mk (Vx.out.keep (hb1))
  replace Vy := Kept.mk (Vy.out.keep (hb1))
  replace Vz := Kept.mk (Vz.out.keep (hb1))
  replace Va := Kept.mk (Va.out.keep (hb1))
  replace Vb := Kept.mk (Vb.out.keep (hb1))
  replace Vc := Kept.mk (Vc.out.keep (hb1))
  replace Vd := Kept.mk (Vd.out.keep (hb1))
  replace Vj := Kept.mk (Vj.out.keep (hb1))
  replace Vh := Kept.mk (Vh.out.keep (hb1))
  replace Vm := Kept.mk (Vm.out.keep (hb1))
  clear hb1
  obtain ⟨qm, rm, xm, sm, im, km0, km1, km2⟩ := Vm.out.open_
  have Xm := Kept.mk xm
  have Sm := Kept.mk sm
  have Im := Kept.mk im
  clear xm sm im
  obtain ⟨qd, rd, xd, sd, id, kd0, kd1, kd2⟩ := Vd.out.open_
  have Xd := Kept.mk xd
  have Sd := Kept.mk sd
  have Id := Kept.mk id
  clear xd sd id
  go_wp2_with fail
  ((with_reducible refine (w_same aD aD true _ _ _ Xm.out Xd.out fit_aD fit_aD (by simp)).mono ?_); rintro e W11 ⟨rfl, hb1⟩)
  clear Xm Sm Im km0 km1 km2
  clear Xd Sd Id kd0 kd1 kd2
  replace hB := Kept.mk (hB.out.trans ((hb1).mono hB.out.size))
  replace Vx := Kept.mk (Vx.out.keep (hb1))
  replace Vy := Kept.mk (Vy.out.keep (hb1))
  replace Vz := Kept.mk (Vz.out.keep (hb1))
  replace Va := Kept.mk (Va.out.keep (hb1))
  replace Vb := Kept.mk (Vb.out.keep (hb1))
  replace Vc := Kept.mk (Vc.out.keep (hb1))
  replace Vd := Kept.mk (Vd.out.keep (hb1))
  replace Vj := Kept.mk (Vj.out.keep (hb1))
  replace Vh := Kept.mk (Vh.out.keep (hb1))
  replace Vm := Kept.mk (Vm.out.keep (hb1))
  clear hb1
  obtain ⟨qb, rb, xb, sb, ib, kb0, kb1, kb2⟩ := Vb.out.open_
  have Xb := Kept.mk xb
  have Sb := Kept.mk sb
  have Ib := Kept.mk ib
  clear xb sb ib
  obtain ⟨qd, rd, xd, sd, id, kd0, kd1, kd2⟩ := Vd.out.open_
  have Xd := Kept.mk xd
  have Sd := Kept.mk sd
  have Id := Kept.mk id
  clear xd sd id
  go_wp2_with fail
  ((with_reducible refine (w_below aB aD true _ _ _ Xb.out Xd.out fit_aB fit_aD f_bd).mono ?_); rintro e W12 ⟨rfl, hb1⟩)
  clear Xb Sb Ib kb0 kb1 kb2
  clear Xd Sd Id kd0 kd1 kd2
  replace hB := Kept.mk (hB.out.trans ((hb1).mono hB.out.size))
  replace Vx := Kept.mk (Vx.out.keep (hb1))
  replace Vy := Kept.mk (Vy.out.keep (hb1))
  replace Vz := Kept.mk (Vz.out.keep (hb1))
  replace Va := Kept.mk (Va.out.keep (hb1))
  replace Vb := Kept.mk (Vb.out.keep (hb1))
  replace Vc := Kept.mk (Vc.out.keep (hb1))
  replace Vd := Kept.mk (Vd.out.keep (hb1))
  replace Vj := Kept.mk (Vj.out.keep (hb1))
  replace Vh := Kept.mk (Vh.out.keep (hb1))
  replace Vm := Kept.mk (Vm.out.keep (hb1))
  clear hb1
  obtain ⟨qd, rd, xd, sd, id, kd0, kd1, kd2⟩ := Vd.out.open_
  have Xd := Kept.mk xd
  have Sd := Kept.mk sd
  have Id := Kept.mk id
  clear xd sd id
  obtain ⟨qb, rb, xb, sb, ib, kb0, kb1, kb2⟩ := Vb.out.open_
  have Xb := Kept.mk xb
  have Sb := Kept.mk sb
  have Ib := Kept.mk ib
  clear xb sb ib
  go_wp2_with fail
  ((with_reducible refine (w_below aD aB false _ _ _ Xd.out Xb.out fit_aD fit_aB f_db).mono ?_); rintro e W13 ⟨rfl, hb1⟩)
  clear Xd Sd Id kd0 kd1 kd2
  clear Xb Sb Ib kb0 kb1 kb2
  replace hB := Kept.mk (hB.out.trans ((hb1).mono hB.out.size))
  replace Vx := Kept.mk (Vx.out.keep (hb1))
  replace Vy := Kept.mk (Vy.out.keep (hb1))
  replace Vz := Kept.mk (Vz.out.keep (hb1))
  replace Va := Kept.mk (Va.out.keep (hb1))
  replace Vb := Kept.mk (Vb.out.keep (hb1))
  replace Vc := Kept.mk (Vc.out.keep (hb1))
  replace Vd := Kept.mk (Vd.out.keep (hb1))
  replace Vj := Kept.mk (Vj.out.keep (hb1))
  replace Vh := Kept.mk (Vh.out.keep (hb1))
  replace Vm := Kept.mk (Vm.out.keep (hb1))
  clear hb1
  obtain ⟨qd, rd, xd, sd, id, kd0, kd1, kd2⟩ := Vd.out.open_
  have Xd := Kept.mk xd
  have Sd := Kept.mk sd
  have Id := Kept.mk id
  clear xd sd id
  obtain ⟨qm, rm, xm, sm, im, km0, km1, km2⟩ := Vm.out.open_
  have Xm := Kept.mk xm
  have Sm := Kept.mk sm
  have Im := Kept.mk im
  clear xm sm im
  go_wp2_with fail
  ((with_reducible refine (w_alike aD aD true _ _ _ Xd.out Xm.out fit_aD fit_aD f_dd).mono ?_); rintro e W14 ⟨rfl, hb1⟩)
  clear Xd Sd Id kd0 kd1 kd2
  clear Xm Sm Im km0 km1 km2
  replace hB := Kept.mk (hB.out.trans ((hb1).mono hB.out.size))
  replace Vx := Kept.mk (Vx.out.keep (hb1))
  replace Vy := Kept.mk (Vy.out.keep (hb1))
  replace Vz := Kept.mk (Vz.out.keep (hb1))
  replace Va := Kept.mk (Va.out.keep (hb1))
  replace Vb := Kept.mk (Vb.out.keep (hb1))
  replace Vc := Kept.mk (Vc.out.keep (hb1))
  replace Vd := Kept.mk (Vd.out.keep (hb1))
  replace Vj := Kept.mk (Vj.out.keep (hb1))
  replace Vh := Kept.mk (Vh.out.keep (hb1))
  replace Vm := Kept.mk (Vm.out.keep (hb1))
  clear hb1
  obtain ⟨qd, rd, xd, sd, id, kd0, kd1, kd2⟩ := Vd.out.open_
  have Xd := Kept.mk xd
  have Sd := Kept.mk sd
  have Id := Kept.mk id
  clear xd sd id
  go_wp2_with fail
  ((with_reducible refine (w_chunk _ _ Xd.out).mono ?_); rintro e W15 ⟨ca, cc, rfl, hb1⟩)
  clear Xd Sd Id kd0 kd1 kd2
  replace hB := Kept.mk (hB.out.trans ((hb1).mono hB.out.size))
  replace Vx := Kept.mk (Vx.out.keep (hb1))
  replace Vy := Kept.mk (Vy.out.keep (hb1))
  replace Vz := Kept.mk (Vz.out.keep (hb1))
  replace Va := Kept.mk (Va.out.keep (hb1))
  replace Vb := Kept.mk (Vb.out.keep (hb1))
  replace Vc := Kept.mk (Vc.out.keep (hb1))
  replace Vd := Kept.mk (Vd.out.keep (hb1))
  replace Vj := Kept.mk (Vj.out.keep (hb1))
  replace Vh := Kept.mk (Vh.out.keep (hb1))
  replace Vm := Kept.mk (Vm.out.keep (hb1))
  clear hb1
  obtain ⟨qd, rd, xd, sd, id, kd0, kd1, kd2⟩ := Vd.out.open_
  have Xd := Kept.mk xd
  have Sd := Kept.mk sd
  have Id := Kept.mk id
  clear xd sd id
  go_wp2_with fail
  ((with_reducible refine (w_check aD 0 _ _ Xd.out fit_aD f_cd).mono ?_); rintro e W16 ⟨rfl, hb1⟩)
  clear Xd Sd Id kd0 kd1 kd2
  replace hB := Kept.mk (hB.out.trans ((hb1).mono hB.out.size))
  replace Vx := Kept.mk (Vx.out.keep (hb1))
  replace Vy := Kept.mk (Vy.out.keep (hb1))
  replace Vz := Kept.mk (Vz.out.keep (hb1))
  replace Va := Kept.mk (Va.out.keep (hb1))
  replace Vb := Kept.mk (Vb.out.keep (hb1))
  replace Vc := Kept.mk (Vc.out.keep (hb1))
  replace Vd := Kept.mk (Vd.out.keep (hb1))
  replace Vj := Kept.mk (Vj.out.keep (hb1))
  replace Vh := Kept.mk (Vh.out.keep (hb1))
  replace Vm := Kept.mk (Vm.out.keep (hb1))
  clear hb1
  go_wp2_with fail
  ((with_reducible refine (w_check zeroA 2 _ _ (zeroA_lit _) fit_zeroA f_cz).mono ?_); rintro e W17 ⟨rfl, hb1⟩)
  replace hB := Kept.mk (hB.out.trans ((hb1).mono hB.out.size))
  replace Vx := Kept.mk (Vx.out.keep (hb1))
  replace Vy := Kept.mk (Vy.out.keep (hb1))
  replace Vz := Kept.mk (Vz.out.keep (hb1))
  replace Va := Kept.mk (Va.out.keep (hb1))
  replace Vb := Kept.mk (Vb.out.keep (hb1))
  replace Vc := Kept.mk (Vc.out.keep (hb1))
  replace Vd := Kept.mk (Vd.out.keep (hb1))
  replace Vj := Kept.mk (Vj.out.keep (hb1))
  replace Vh := Kept.mk (Vh.out.keep (hb1))
  replace Vm := Kept.mk (Vm.out.keep (hb1))
  clear hb1
  obtain ⟨qa, ra, xa, sa, ia, ka0, ka1, ka2⟩ := Va.out.open_
  have Xa := Kept.mk xa
  have Sa := Kept.mk sa
  have Ia := Kept.mk ia
  clear xa sa ia
  obtain ⟨qb, rb, xb, sb, ib, kb0, kb1, kb2⟩ := Vb.out.open_
  have Xb := Kept.mk xb
  have Sb := Kept.mk sb
  have Ib := Kept.mk ib
  clear xb sb ib
  go_wp2_with fail
  ((with_reducible refine (w_same aA aB false _ _ _ Xa.out Xb.out fit_aA fit_aB f_ab).mono ?_); rintro e W18 ⟨rfl, hb1⟩)
  clear Xa Sa Ia ka0 ka1 ka2
  clear Xb Sb Ib kb0 kb1 kb2
  replace hB := Kept.mk (hB.out.trans ((hb1).mono hB.out.size))
  replace Vx := Kept.mk (Vx.out.keep (hb1))
  replace Vy := Kept.mk (Vy.out.keep (hb1))
  replace Vz := Kept.mk (Vz.out.keep (hb1))
  replace Va := Kept.mk (Va.out.keep (hb1))
  replace Vb := Kept.mk (Vb.out.keep (hb1))
  replace Vc := Kept.mk (Vc.out.keep (hb1))
  replace Vd := Kept.mk (Vd.out.keep (hb1))
  replace Vj := Kept.mk (Vj.out.keep (hb1))
  replace Vh := Kept.mk (Vh.out.keep (hb1))
  replace Vm := Kept.mk (Vm.out.keep (hb1))
  clear hb1
  go_wp2
  go_ret
  exact ⟨rfl, hB.out⟩
end Go.Proofs.Ytmbnhlhanckkiaa
end
section
namespace Go.Proofs.Ytmbnhlhanckkiaa
open Go.RowKit Go.ChangeShapes Go.WideShapes
set_option linter.unusedVariables false
set_option linter.unusedSimpArgs false

theorem spot_none {w : World} {a : Addr} {v : Value} (h : w.cell? a = some v) : a = ⟨a.block, a.off, none⟩ := by
  obtain ⟨b, o, s⟩ := a
  cases s with
  | none => rfl
  | some s =>
    simp only [World.cell?] at h
    split at h <;> simp at h
theorem add_plain (b o i : Nat) : (⟨b, o, none⟩ : Addr).add i = ⟨b, o + i, none⟩ := by
  by_cases e : i = 0
  · subst e; simp [Addr.add]
  · simp [Addr.add, e]
/-- A row that came in. -/
theorem cells_came {w : World} {a : Addr} {len cap : Nat} (cs : List Value) (hl : cs.length = len) (hc : ∀ (i : Nat) (x : Value), cs[i]? = some x → w.cell? (a.add i) = some x) : isCells cs (.slice (some a) len cap) w := by
  cases cs with
  | nil => subst hl; exact .inr (.inl ⟨a, cap, rfl, rfl⟩)
  | cons x cs =>
    have h0 := hc 0 x rfl
    have e0 : a.add 0 = a := by simp [Addr.add]
    rw [e0] at h0
    have ha := spot_none h0
    rw [ha] at hc ⊢
    subst hl
    refine .inr (.inr ⟨a.block, a.off, cap, rfl, ?_, fun j y hy => ?_⟩)
    · simp only [World.cell?] at h0
      split at h0
      · rename_i h; exact (Array.getElem?_eq_some_iff.1 h).1
      · simp at h0
    · have := hc j y hy
      rwa [add_plain] at this
section
variable {W : World} {H : Type} {enc : TypeId × Value → H} {base : Nat} {spare : Nat → Bool} {held : Bool} {n : Nat}
theorem open_row {v : Value} {y : DataW H × List MemPlace} (g : DataW.trod enc Try.prog W base spare held n 23 [v] = some y) :
    ∃ l : List Int, isCells (l.map intC) v W ∧ l.length ≤ maxLen ∧ (∀ x ∈ l, (Lit.int .i64 x).wf = true) := by
  rcases open_ints Try.underlying23 Try.underlying3 (by kernel_rfl) g with ⟨hc, _⟩ | ⟨a, len, cap, zs, hc, _, hl, hm, hz, hx0, hcell, hs⟩
  · injection hc with hc _
    subst hc
    exact ⟨[], .inl ⟨rfl, rfl⟩, Nat.zero_le _, (fun s hs => by simp at hs)⟩
  · injection hc with hc _
    subst hc
    have hle : len ≤ zs.length := by rw [hz]; split <;> omega
    refine ⟨zs.take len, cells_came _ (by simp; omega) (fun i x hx => ?_), by simp; omega, (fun s h => hs s (List.mem_of_mem_take h))⟩
    have hi : i < len := by have := (List.getElem?_eq_some_iff.1 hx).1; simp at this; omega
    rw [hcell i (by omega)]
    rw [List.getElem?_map, List.getElem?_take, if_pos hi, List.getElem?_eq_getElem (by omega : i < zs.length)] at hx
    simp only [Option.map_some, Option.some.injEq] at hx
    rw [← hx]
    simp [List.getD_eq_getElem?_getD, show i < zs.length by omega, intC]
end
theorem wf_i64 {x : Int} (h : (Lit.int .i64 x).wf = true) : -9223372036854775808 ≤ x ∧ x ≤ 9223372036854775807 := by
  unfold Lit.wf at h
  rw [Bool.and_eq_true] at h
  exact ⟨of_decide_eq_true h.1, of_decide_eq_true h.2⟩
theorem wf_u64 {x : Int} (h : (Lit.int .u64 x).wf = true) : 0 ≤ x ∧ x ≤ 18446744073709551615 := by
  unfold Lit.wf at h
  rw [Bool.and_eq_true] at h
  exact ⟨of_decide_eq_true h.1, of_decide_eq_true h.2⟩
/-- What a value that came in is. -/
structure CameV (A : Va) : Prop where
  kind : (Lit.int .i64 A.kind).wf = true
  time : (Lit.int .i64 A.time).wf = true
  node : (Lit.int .i64 A.node).wf = true
  text : A.text.length ≤ maxLen
  plus : ∀ x ∈ A.plus, (Lit.int .i64 x).wf = true
  minus : ∀ x ∈ A.minus, (Lit.int .i64 x).wf = true
  np : A.plus.length ≤ maxLen
  nm : A.minus.length ≤ maxLen
set_option maxRecDepth 100000 in
set_option maxHeartbeats 1000000 in
theorem open_va {W : World} {H : Type} {enc : TypeId × Value → H} {base b0 : Nat} {spare : Nat → Bool} {held : Bool} {v : Value} {d : DataW H} {p : List MemPlace} (hv : Value.okWide Try.prog W .any b0 28 v)
    (h : DataW.Trod enc Try.prog W base spare held 28 v d p) : ∃ A : Va, isVa A v W ∧ CameV A := by
  obtain ⟨⟨l⟩, rfl, hsz⟩ := okWide_struct Try.underlying28 hv
  have hl : l.length = 8 := hsz.trans (by kernel_rfl)
  match l, hl with
  | [v0, v1, v2, v3, v4, v5, v6, v7], _ =>
    obtain ⟨fuel, hf⟩ := h
    obtain ⟨xs, n, _, hxe, _, hxl, hg⟩ := DataW.trod_struct Try.underlying28 hf
    have at_ : ∀ i, i < 8 → ∃ y, xs[i]? = some y := fun i hi => ⟨_, List.getElem?_eq_getElem (by rw [hxl]; exact hi)⟩
    have c2 : Try.prog.cellsOf 23 = 1 := by kernel_rfl
    have c3 : Try.prog.cellsOf 3 = 1 := by kernel_rfl
    have c4 : Try.prog.cellsOf 9 = 1 := by kernel_rfl
    have c5 : Try.prog.cellsOf 4 = 1 := by kernel_rfl
    have c6 : Try.prog.cellsOf 26 = 1 := by kernel_rfl
    obtain ⟨y0, e0⟩ := at_ 0 (by decide)
    obtain ⟨y1, e1⟩ := at_ 1 (by decide)
    obtain ⟨y2, e2⟩ := at_ 2 (by decide)
    obtain ⟨y3, e3⟩ := at_ 3 (by decide)
    obtain ⟨y4, e4⟩ := at_ 4 (by decide)
    obtain ⟨y5, e5⟩ := at_ 5 (by decide)
    obtain ⟨y6, e6⟩ := at_ 6 (by decide)
    obtain ⟨y7, e7⟩ := at_ 7 (by decide)
    have g0 := hg 0 _ rfl
    have g1 := hg 1 _ rfl
    have g2 := hg 2 _ rfl
    have g3 := hg 3 _ rfl
    have g4 := hg 4 _ rfl
    have g5 := hg 5 _ rfl
    have g6 := hg 6 _ rfl
    have g7 := hg 7 _ rfl
    simp only [Value.cells, c2, c3, c4, c5, c6, List.drop_zero, List.drop_succ_cons, List.take_succ_cons, List.take_zero] at g0 g1 g2 g3 g4 g5 g6 g7
    rw [e0] at g0
    rw [e1] at g1
    rw [e2] at g2
    rw [e3] at g3
    rw [e4] at g4
    rw [e5] at g5
    rw [e6] at g6
    rw [e7] at g7
    obtain ⟨kind, h0, _, w0⟩ := DataW.trod_int Try.underlying3 g0
    obtain ⟨time, h1, _, w1⟩ := DataW.trod_int Try.underlying3 g1
    obtain ⟨node, h2, _, w2⟩ := DataW.trod_int Try.underlying3 g2
    obtain ⟨dead, h3, _⟩ := DataW.trod_bool Try.underlying4 g3
    obtain ⟨text, h4, _, w4⟩ := DataW.trod_string Try.underlying9 g4
    obtain ⟨plus, hp, hpn, hpw⟩ := open_row g5
    obtain ⟨minus, hm, hmn, hmw⟩ := open_row g6
    obtain ⟨flags, h7, _, w7⟩ := DataW.trod_int Try.underlying26 g7
    injection h0 with h0 _
    injection h1 with h1 _
    injection h2 with h2 _
    injection h3 with h3 _
    injection h4 with h4 _
    injection h7 with h7 _
    subst h0 h1 h2 h3 h4 h7
    have b7 := wf_u64 w7
    have f7 : ((UInt64.ofNat flags.toNat).toNat : Int) = flags := by
      rw [UInt64.toNat_ofNat_of_lt' (by show flags.toNat < 18446744073709551616; omega)]
      omega
    refine ⟨⟨kind, time, node, dead, text.data.toList, plus, minus, UInt64.ofNat flags.toNat⟩, ⟨v5, v6, ?_, hp, hm⟩, ⟨w0, w1, w2, by simpa using w4, hpw, hmw, hpn, hmn⟩⟩
    show Value.agg #[.int .i64 kind, .int .i64 time, .int .i64 node, .bool dead, .string text, v5, v6, .int .u64 flags] = .agg #[.int .i64 kind, .int .i64 time, .int .i64 node, .bool dead, .string ⟨text.data.toList.toArray⟩, v5, v6, .int .u64 ((UInt64.ofNat flags.toNat).toNat : Int)]
    rw [f7, ← str_eta]
theorem joinE_self (A : Va) : (joinE A A == 0) = okV A := by
  unfold joinE
  cases okV A <;> simp
theorem checkV_zero (A : Va) : (checkV A == 0) = okV A := by
  unfold checkV
  cases okV A <;> simp
theorem joinE_no {A B : Va} (h : okV A = false) : (joinE A B == 0) = false := by
  unfold joinE
  rw [h]
  rfl
theorem joinE_no2 {A B : Va} (h : okV B = false) : (joinE A B == 0) = false := by
  unfold joinE
  rw [h, Bool.and_false]
  rfl
end Go.Proofs.Ytmbnhlhanckkiaa
end
section
namespace Go.Proofs.Ytmbnhlhanckkiaa
open Go.RowKit Go.ChangeShapes Go.WideShapes
set_option linter.unusedVariables false
set_option linter.unusedSimpArgs false

structure CameE (E : En) : Prop where
  key : E.key.length ≤ maxLen
  val : CameV E.val
set_option maxRecDepth 100000 in
set_option maxHeartbeats 1000000 in
theorem open_en {W : World} {H : Type} {enc : TypeId × Value → H} {base b0 : Nat} {spare : Nat → Bool} {held : Bool} {v : Value} {d : DataW H} {p : List MemPlace} (hv : Value.okWide Try.prog W .any b0 30 v)
    (h : DataW.Trod enc Try.prog W base spare held 30 v d p) : ∃ E : En, isEn E v W ∧ CameE E := by
  obtain ⟨⟨l⟩, rfl, hsz⟩ := okWide_struct Try.underlying30 hv
  have hl : l.length = 9 := hsz.trans (by kernel_rfl)
  match l, hl with
  | [v8, v0, v1, v2, v3, v4, v5, v6, v7], _ =>
    obtain ⟨fuel0, hf0⟩ := h
    obtain ⟨xs0, n0, _, hxe0, _, hxl0, hg0⟩ := DataW.trod_struct Try.underlying30 hf0
    obtain ⟨z0, ez0⟩ : ∃ y, xs0[0]? = some y := ⟨_, List.getElem?_eq_getElem (by rw [hxl0]; decide)⟩
    obtain ⟨z1, ez1⟩ : ∃ y, xs0[1]? = some y := ⟨_, List.getElem?_eq_getElem (by rw [hxl0]; decide)⟩
    have g8 := hg0 0 _ rfl
    have hf := hg0 1 _ rfl
    have c2 : Try.prog.cellsOf 23 = 1 := by kernel_rfl
    have c3 : Try.prog.cellsOf 3 = 1 := by kernel_rfl
    have c4 : Try.prog.cellsOf 9 = 1 := by kernel_rfl
    have c5 : Try.prog.cellsOf 4 = 1 := by kernel_rfl
    have c6 : Try.prog.cellsOf 26 = 1 := by kernel_rfl
    have c7 : Try.prog.cellsOf 28 = 8 := by kernel_rfl
    have g8a : DataW.trod enc Try.prog W base spare held n0 9 (List.take (Try.prog.cellsOf 9) [v8, v0, v1, v2, v3, v4, v5, v6, v7]) = xs0[0]? := g8
    have hfa : DataW.trod enc Try.prog W base spare held n0 28 (List.take (Try.prog.cellsOf 28) [v0, v1, v2, v3, v4, v5, v6, v7]) = xs0[1]? := hf
    rw [ez0, c4] at g8a
    rw [ez1, c7] at hfa
    replace g8 : DataW.trod enc Try.prog W base spare held n0 9 [v8] = some z0 := g8a
    replace hf : DataW.trod enc Try.prog W base spare held n0 28 [v0, v1, v2, v3, v4, v5, v6, v7] = some z1 := hfa
    obtain ⟨key, h8, _, w8⟩ := DataW.trod_string Try.underlying9 g8
    obtain ⟨xs, n, _, hxe, _, hxl, hg⟩ := DataW.trod_struct Try.underlying28 hf
    have at_ : ∀ i, i < 8 → ∃ y, xs[i]? = some y := fun i hi => ⟨_, List.getElem?_eq_getElem (by rw [hxl]; exact hi)⟩
    obtain ⟨y0, e0⟩ := at_ 0 (by decide)
    obtain ⟨y1, e1⟩ := at_ 1 (by decide)
    obtain ⟨y2, e2⟩ := at_ 2 (by decide)
    obtain ⟨y3, e3⟩ := at_ 3 (by decide)
    obtain ⟨y4, e4⟩ := at_ 4 (by decide)
    obtain ⟨y5, e5⟩ := at_ 5 (by decide)
    obtain ⟨y6, e6⟩ := at_ 6 (by decide)
    obtain ⟨y7, e7⟩ := at_ 7 (by decide)
    have g0 := hg 0 _ rfl
    have g1 := hg 1 _ rfl
    have g2 := hg 2 _ rfl
    have g3 := hg 3 _ rfl
    have g4 := hg 4 _ rfl
    have g5 := hg 5 _ rfl
    have g6 := hg 6 _ rfl
    have g7 := hg 7 _ rfl
    have q0 : DataW.trod enc Try.prog W base spare held n 3 (List.take (Try.prog.cellsOf 3) [v0, v1, v2, v3, v4, v5, v6, v7]) = xs[0]? := g0
    rw [e0, c3] at q0
    replace g0 : DataW.trod enc Try.prog W base spare held n 3 [v0] = some y0 := q0
    have q1 : DataW.trod enc Try.prog W base spare held n 3 (List.take (Try.prog.cellsOf 3) [v1, v2, v3, v4, v5, v6, v7]) = xs[1]? := g1
    rw [e1, c3] at q1
    replace g1 : DataW.trod enc Try.prog W base spare held n 3 [v1] = some y1 := q1
    have q2 : DataW.trod enc Try.prog W base spare held n 3 (List.take (Try.prog.cellsOf 3) [v2, v3, v4, v5, v6, v7]) = xs[2]? := g2
    rw [e2, c3] at q2
    replace g2 : DataW.trod enc Try.prog W base spare held n 3 [v2] = some y2 := q2
    have q3 : DataW.trod enc Try.prog W base spare held n 4 (List.take (Try.prog.cellsOf 4) [v3, v4, v5, v6, v7]) = xs[3]? := g3
    rw [e3, c5] at q3
    replace g3 : DataW.trod enc Try.prog W base spare held n 4 [v3] = some y3 := q3
    have q4 : DataW.trod enc Try.prog W base spare held n 9 (List.take (Try.prog.cellsOf 9) [v4, v5, v6, v7]) = xs[4]? := g4
    rw [e4, c4] at q4
    replace g4 : DataW.trod enc Try.prog W base spare held n 9 [v4] = some y4 := q4
    have q5 : DataW.trod enc Try.prog W base spare held n 23 (List.take (Try.prog.cellsOf 23) [v5, v6, v7]) = xs[5]? := g5
    rw [e5, c2] at q5
    replace g5 : DataW.trod enc Try.prog W base spare held n 23 [v5] = some y5 := q5
    have q6 : DataW.trod enc Try.prog W base spare held n 23 (List.take (Try.prog.cellsOf 23) [v6, v7]) = xs[6]? := g6
    rw [e6, c2] at q6
    replace g6 : DataW.trod enc Try.prog W base spare held n 23 [v6] = some y6 := q6
    have q7 : DataW.trod enc Try.prog W base spare held n 26 (List.take (Try.prog.cellsOf 26) [v7]) = xs[7]? := g7
    rw [e7, c6] at q7
    replace g7 : DataW.trod enc Try.prog W base spare held n 26 [v7] = some y7 := q7
    obtain ⟨kind, h0, _, w0⟩ := DataW.trod_int Try.underlying3 g0
    obtain ⟨time, h1, _, w1⟩ := DataW.trod_int Try.underlying3 g1
    obtain ⟨node, h2, _, w2⟩ := DataW.trod_int Try.underlying3 g2
    obtain ⟨dead, h3, _⟩ := DataW.trod_bool Try.underlying4 g3
    obtain ⟨text, h4, _, w4⟩ := DataW.trod_string Try.underlying9 g4
    obtain ⟨plus, hp, hpn, hpw⟩ := open_row g5
    obtain ⟨minus, hm, hmn, hmw⟩ := open_row g6
    obtain ⟨flags, h7, _, w7⟩ := DataW.trod_int Try.underlying26 g7
    injection h8 with h8 _
    injection h0 with h0 _
    injection h1 with h1 _
    injection h2 with h2 _
    injection h3 with h3 _
    injection h4 with h4 _
    injection h7 with h7 _
    subst h0 h1 h2 h3 h4 h7 h8
    have b7 := wf_u64 w7
    have f7 : ((UInt64.ofNat flags.toNat).toNat : Int) = flags := by
      rw [UInt64.toNat_ofNat_of_lt' (by show flags.toNat < 18446744073709551616; omega)]
      omega
    refine ⟨⟨key.data.toList, ⟨kind, time, node, dead, text.data.toList, plus, minus, UInt64.ofNat flags.toNat⟩⟩, ⟨v5, v6, ?_, hp, hm⟩, ⟨by simpa using w8, ⟨w0, w1, w2, by simpa using w4, hpw, hmw, hpn, hmn⟩⟩⟩
    show Value.agg #[.string key, .int .i64 kind, .int .i64 time, .int .i64 node, .bool dead, .string text, v5, v6, .int .u64 flags] = .agg #[.string ⟨key.data.toList.toArray⟩, .int .i64 kind, .int .i64 time, .int .i64 node, .bool dead, .string ⟨text.data.toList.toArray⟩, v5, v6, .int .u64 ((UInt64.ofNat flags.toNat).toNat : Int)]
    rw [f7, ← str_eta, ← str_eta]
/-- Few. -/
def fewE (E : En) : Bool := fewV E.val && decide ((E.key.length : Int) ≤ 100)
theorem fewE_fit {E : En} (h : fewE E = true) : FitE E := by
  unfold fewE at h
  rw [Bool.and_eq_true, decide_eq_true_eq] at h
  exact ⟨by omega, few_fit h.1⟩
set_option maxRecDepth 100000 in
set_option maxHeartbeats 2000000 in
theorem efew_any (E : En) (v : Value) (w : World) (hv : isEn E v w) (hk : E.key.length ≤ maxLen) : Calls Try.prog 10 #[v] w fun e w' => e = .returned (.bool (fewE E)) ∧ Below w.heap.size w w' := by
  have hs : (⟨E.key.toArray⟩ : ByteArray).size = E.key.length := by simp [ByteArray.size]
  have HF := Kept.mk (show fewE E = (fewV E.val && decide ((E.key.length : Int) ≤ 100)) from rfl)
  obtain ⟨pe, me, rfl, hpe, hme⟩ := hv
  obtain ⟨hB, Ve⟩ := ebox w E pe me hpe hme (w.heap.size) (by simp)
  clear hpe hme
  obtain ⟨qe, re, xe, ye, ke0, ke1, ke2, ke3, ke4, ke5, ke6, ke7, ke8⟩ := Ve.out.open_
  have Xe := Kept.mk xe
  have Ye := Kept.mk ye
  clear xe ye
  go_enter Try.func10, Try.ntmps10
  go_wp2_with fail
  refine (vfew_any E.val _ _ Ye.out).mono ?_
  rintro e W1 ⟨rfl, hb1⟩
  replace hB := Kept.mk (hB.out.trans (hb1.mono hB.out.size))
  replace Ve := Kept.mk (Ve.out.keep hb1)
  clear hb1 Xe Ye ke0 ke1 ke2 ke3 ke4 ke5 ke6 ke7 ke8
  obtain ⟨_, _, _, _, ke0, _⟩ := Ve.out.open_
  cases hz : fewV E.val with
  | false =>
    rw [hz] at HF
    go_wp2
    go_ret
    exact ⟨by rw [HF.out]; rfl, hB.out⟩
  | true =>
    rw [hz] at HF
    go_wp2
    go_ret
    exact ⟨by rw [HF.out]; rfl, hB.out⟩
end Go.Proofs.Ytmbnhlhanckkiaa
end
section
namespace Go.Proofs.Ytmbnhlhanckkiaa
open Go.RowKit
set_option linter.unusedVariables false
set_option linter.unusedSimpArgs false

def fewL (l : List En) (m : Int) : Bool := decide ((l.length : Int) ≤ m) && l.all fewE
def fewA (A : Ar) : Bool := fewL A.slots 12 && decide ((A.index.length : Int) ≤ 40)
theorem fewL_len {l : List En} {m : Int} (h : fewL l m = true) : (l.length : Int) ≤ m := by
  unfold fewL at h
  rw [Bool.and_eq_true, decide_eq_true_eq] at h
  exact h.1
theorem fewL_fit {l : List En} {m : Int} (h : fewL l m = true) : ∀ e ∈ l, FitE e := by
  unfold fewL at h
  rw [Bool.and_eq_true, List.all_eq_true] at h
  exact fun e he => fewE_fit (h.2 e he)
theorem fewA_fit {A : Ar} (h : fewA A = true) : FitA A := by
  unfold fewA at h
  rw [Bool.and_eq_true, decide_eq_true_eq] at h
  have := fewL_len h.1
  exact ⟨by omega, by omega, fewL_fit h.1⟩
theorem fewA_slots {A : Ar} (h : fewA A = true) : A.slots.length ≤ 12 := by
  unfold fewA at h
  rw [Bool.and_eq_true] at h
  have := fewL_len h.1
  omega
set_option maxRecDepth 100000 in
set_option maxHeartbeats 2000000 in
theorem entries_any (l : List En) (m : Int) (v : Value) (w : World) (hv : isEns l v w) (hk : ∀ e ∈ l, e.key.length ≤ maxLen) (hl : l.length ≤ maxLen) (hm0 : 0 ≤ m) (hm : m ≤ 1000) : Calls Try.prog 19 #[v, .int .i64 m] w fun e w' => e = .returned (.bool (fewL l m)) ∧ Below w.heap.size w w' := by
  rcases hv.cases_ with ⟨a, cap, rfl, rfl⟩ | ⟨b, off, cap, rfl, hb0, hc⟩
  · have HE := Kept.mk (show fewL [] m = true from by unfold fewL; simp [hm0])
    go_enter Try.func19, Try.ntmps19
    go_wp2
    go_loopw [5] (fun i wr => i = .int .i64 0 ∧ Kept (Below w.heap.size w wr)) (fun i _ => 0)
    case atStart => exact ⟨rfl, ⟨Below.refl _ _⟩⟩
    case round =>
      obtain ⟨rfl, B⟩ := hrel
      go_wp2
      go_ret
      exact ⟨by rw [HE.out]; rfl, B.out⟩
  · have HC := Kept.mk hc
    have HK := Kept.mk hk
    clear hc hv hk
    generalize hn : l.length = n at hl
    have hl2 : (n : Int) ≤ 9223372036854775807 := by have : maxLen = 9223372036854775807 := rfl; omega
    go_enter Try.func19, Try.ntmps19
    go_wp2
    go_loopw [5] (fun i wr => ∃ k : Nat, k ≤ n ∧ (k : Int) ≤ m + 1 ∧ i = .int .i64 (k : Int) ∧ Kept (Below w.heap.size w wr) ∧ Kept (∀ j E, j < k → l[j]? = some E → fewE E = true)) (fun i _ => n - (intOf i).toNat)
    case atStart => exact ⟨0, Nat.zero_le _, by omega, rfl, ⟨Below.refl _ _⟩, ⟨fun j E h => absurd h (Nat.not_lt_zero _)⟩⟩
    case round =>
      obtain ⟨k, hk, hk1, rfl, B, A⟩ := hrel
      by_cases hlt : k < n
      · have hlt' : (k : Int) < (n : Int) := by omega
        by_cases hkm : (k : Int) ≤ m
        · obtain ⟨E, hE⟩ : ∃ E, l[k]? = some E := ⟨_, List.getElem?_eq_getElem (by omega)⟩
          obtain ⟨vp, vm, x0, y0, kc0, kc1, kc2, kc3, kc4, kc5, kc6, kc7, kc8⟩ := (HC.out k E hE).keep B.out hb0 |>.open_
          have X := Kept.mk x0
          have FE := Kept.mk (HK.out E (List.mem_of_getElem? hE))
          have HE := Kept.mk hE
          clear x0 y0 hE
          go_wp2_with fail
          refine (efew_any E _ _ X.out FE.out).mono ?_
          rintro e W1 ⟨rfl, hb⟩
          replace B := Kept.mk (B.out.trans (hb.mono B.out.size))
          clear hb X kc0 kc1 kc2 kc3 kc4 kc5 kc6 kc7 kc8
          cases hok : fewE E with
          | true =>
            have HO := Kept.mk hok
            clear hok
            go_wp2
            go_roundw
            case rel =>
              refine ⟨k + 1, by omega, by omega, by go_num, B, ⟨fun j E' hj h => ?_⟩⟩
              by_cases e : j = k
              · subst e; rw [HE.out] at h; injection h with h; rw [← h]; exact HO.out
              · exact A.out j E' (by omega) h
            case measure => simp [intOf]; omega
          | false =>
            have HR := Kept.mk (show fewL l m = false by unfold fewL; rw [show l.all fewE = false by rw [List.all_eq_false]; exact ⟨E, List.mem_of_getElem? HE.out, by simp [hok]⟩]; simp)
            clear hok
            go_wp2
            go_ret
            exact ⟨by rw [HR.out]; rfl, B.out⟩
        · have HR := Kept.mk (show fewL l m = false by unfold fewL; rw [decide_eq_false (by rw [hn]; omega)]; rfl)
          have hnm : ¬ (n : Int) ≤ m := by omega
          go_wp2
          go_ret
          exact ⟨by rw [HR.out]; rfl, B.out⟩
      · have hlt' : ¬ (k : Int) < (n : Int) := by omega
        have HA : l.all fewE = true := by
          rw [List.all_eq_true]; intro x hx
          obtain ⟨j, hj⟩ := List.getElem?_of_mem hx
          have := (List.getElem?_eq_some_iff.1 hj).1
          exact A.out j x (by omega) hj
        have HR := Kept.mk (show fewL l m = decide ((n : Int) ≤ m) by unfold fewL; rw [HA, Bool.and_true, hn])
        clear HA
        by_cases hnm : (n : Int) ≤ m
        · rw [decide_eq_true hnm] at HR
          go_wp2
          go_ret
          exact ⟨by rw [HR.out]; rfl, B.out⟩
        · rw [decide_eq_false hnm] at HR
          go_wp2
          go_ret
          exact ⟨by rw [HR.out]; rfl, B.out⟩
set_option maxRecDepth 100000 in
set_option maxHeartbeats 2000000 in
theorem afew_any (A : Ar) (v : Value) (w : World) (hv : isAr A v w) (hk : ∀ e ∈ A.slots, e.key.length ≤ maxLen) (hl : A.slots.length ≤ maxLen) (hi0 : A.index.length ≤ maxLen) : Calls Try.prog 9 #[v] w fun e w' => e = .returned (.bool (fewA A)) ∧ Below w.heap.size w w' := by
  obtain ⟨vs, vi, rfl, hs, hi⟩ := hv
  obtain ⟨hB, Va⟩ := abox w A vs vi hs hi w.heap.size rfl
  clear hs hi
  obtain ⟨qa, ra, xa, sa, ia, ka0, ka1, ka2⟩ := Va.out.open_
  have SA := Kept.mk sa
  clear xa sa ia
  have HC := Kept.mk (show fewA A = (fewL A.slots 12 && decide ((A.index.length : Int) ≤ 40)) from rfl)
  have hi2 : (A.index.length : Int) ≤ 9223372036854775807 := by have : maxLen = 9223372036854775807 := rfl; omega
  go_enter Try.func9, Try.ntmps9
  go_wp2_with fail
  refine (entries_any A.slots 12 _ _ SA.out hk hl (by decide) (by decide)).mono ?_
  rintro e W1 ⟨rfl, hb⟩
  replace hB := Kept.mk (hB.out.trans (hb.mono hB.out.size))
  replace Va := Kept.mk (Va.out.keep hb)
  clear hb ka0 ka1 ka2 SA
  cases hr : fewL A.slots 12 with
  | false =>
    rw [hr, Bool.false_and] at HC
    go_wp2
    go_ret
    exact ⟨by rw [HC.out]; rfl, hB.out⟩
  | true =>
    rw [hr, Bool.true_and] at HC
    obtain ⟨qb, rb, xb, sb, ib, kb0, kb1, kb2⟩ := Va.out.open_
    obtain ⟨ba, bc, rfl⟩ := ib.len
    rw [List.length_map] at kb2
    clear xb sb ib
    generalize A.index.length = n at *
    go_wp2
    go_ret
    exact ⟨by rw [HC.out]; rfl, hB.out⟩
end Go.Proofs.Ytmbnhlhanckkiaa
end
section
namespace Go.Proofs.Ytmbnhlhanckkiaa
open Go.RowKit Go.ChangeShapes Go.WideShapes
set_option linter.unusedVariables false
set_option linter.unusedSimpArgs false

section
variable {W : World} {H : Type} {enc : TypeId × Value → H} {base : Nat} {spare : Nat → Bool} {held : Bool} {n : Nat}
set_option maxRecDepth 100000 in
set_option maxHeartbeats 2000000 in
theorem open_encells {cs : List Value} {z : DataW H × List MemPlace} (hf0 : DataW.trod enc Try.prog W base spare held n 30 cs = some z) :
    ∃ (E : En) (vp vm : Value), cs = [.string ⟨E.key.toArray⟩, .int .i64 E.val.kind, .int .i64 E.val.time, .int .i64 E.val.node, .bool E.val.dead, .string ⟨E.val.text.toArray⟩, vp, vm, .int .u64 (E.val.flags.toNat : Int)] ∧ isCells (E.val.plus.map intC) vp W ∧ isCells (E.val.minus.map intC) vm W ∧ CameE E := by
  obtain ⟨xs0, n0, _, hxe0, hsz, hxl0, hg0⟩ := DataW.trod_struct Try.underlying30 hf0
  have hl : cs.length = 9 := hsz.trans (by kernel_rfl)
  match cs, hl with
  | [v8, v0, v1, v2, v3, v4, v5, v6, v7], _ =>
    obtain ⟨z0, ez0⟩ : ∃ y, xs0[0]? = some y := ⟨_, List.getElem?_eq_getElem (by rw [hxl0]; decide)⟩
    obtain ⟨z1, ez1⟩ : ∃ y, xs0[1]? = some y := ⟨_, List.getElem?_eq_getElem (by rw [hxl0]; decide)⟩
    have g8 := hg0 0 _ rfl
    have hf := hg0 1 _ rfl
    have c2 : Try.prog.cellsOf 23 = 1 := by kernel_rfl
    have c3 : Try.prog.cellsOf 3 = 1 := by kernel_rfl
    have c4 : Try.prog.cellsOf 9 = 1 := by kernel_rfl
    have c5 : Try.prog.cellsOf 4 = 1 := by kernel_rfl
    have c6 : Try.prog.cellsOf 26 = 1 := by kernel_rfl
    have c7 : Try.prog.cellsOf 28 = 8 := by kernel_rfl
    have g8a : DataW.trod enc Try.prog W base spare held n0 9 (List.take (Try.prog.cellsOf 9) [v8, v0, v1, v2, v3, v4, v5, v6, v7]) = xs0[0]? := g8
    have hfa : DataW.trod enc Try.prog W base spare held n0 28 (List.take (Try.prog.cellsOf 28) [v0, v1, v2, v3, v4, v5, v6, v7]) = xs0[1]? := hf
    rw [ez0, c4] at g8a
    rw [ez1, c7] at hfa
    replace g8 : DataW.trod enc Try.prog W base spare held n0 9 [v8] = some z0 := g8a
    replace hf : DataW.trod enc Try.prog W base spare held n0 28 [v0, v1, v2, v3, v4, v5, v6, v7] = some z1 := hfa
    obtain ⟨key, h8, _, w8⟩ := DataW.trod_string Try.underlying9 g8
    obtain ⟨xs, n, _, hxe, _, hxl, hg⟩ := DataW.trod_struct Try.underlying28 hf
    have at_ : ∀ i, i < 8 → ∃ y, xs[i]? = some y := fun i hi => ⟨_, List.getElem?_eq_getElem (by rw [hxl]; exact hi)⟩
    obtain ⟨y0, e0⟩ := at_ 0 (by decide)
    obtain ⟨y1, e1⟩ := at_ 1 (by decide)
    obtain ⟨y2, e2⟩ := at_ 2 (by decide)
    obtain ⟨y3, e3⟩ := at_ 3 (by decide)
    obtain ⟨y4, e4⟩ := at_ 4 (by decide)
    obtain ⟨y5, e5⟩ := at_ 5 (by decide)
    obtain ⟨y6, e6⟩ := at_ 6 (by decide)
    obtain ⟨y7, e7⟩ := at_ 7 (by decide)
    have g0 := hg 0 _ rfl
    have g1 := hg 1 _ rfl
    have g2 := hg 2 _ rfl
    have g3 := hg 3 _ rfl
    have g4 := hg 4 _ rfl
    have g5 := hg 5 _ rfl
    have g6 := hg 6 _ rfl
    have g7 := hg 7 _ rfl
    have q0 : DataW.trod enc Try.prog W base spare held n 3 (List.take (Try.prog.cellsOf 3) [v0, v1, v2, v3, v4, v5, v6, v7]) = xs[0]? := g0
    rw [e0, c3] at q0
    replace g0 : DataW.trod enc Try.prog W base spare held n 3 [v0] = some y0 := q0
    have q1 : DataW.trod enc Try.prog W base spare held n 3 (List.take (Try.prog.cellsOf 3) [v1, v2, v3, v4, v5, v6, v7]) = xs[1]? := g1
    rw [e1, c3] at q1
    replace g1 : DataW.trod enc Try.prog W base spare held n 3 [v1] = some y1 := q1
    have q2 : DataW.trod enc Try.prog W base spare held n 3 (List.take (Try.prog.cellsOf 3) [v2, v3, v4, v5, v6, v7]) = xs[2]? := g2
    rw [e2, c3] at q2
    replace g2 : DataW.trod enc Try.prog W base spare held n 3 [v2] = some y2 := q2
    have q3 : DataW.trod enc Try.prog W base spare held n 4 (List.take (Try.prog.cellsOf 4) [v3, v4, v5, v6, v7]) = xs[3]? := g3
    rw [e3, c5] at q3
    replace g3 : DataW.trod enc Try.prog W base spare held n 4 [v3] = some y3 := q3
    have q4 : DataW.trod enc Try.prog W base spare held n 9 (List.take (Try.prog.cellsOf 9) [v4, v5, v6, v7]) = xs[4]? := g4
    rw [e4, c4] at q4
    replace g4 : DataW.trod enc Try.prog W base spare held n 9 [v4] = some y4 := q4
    have q5 : DataW.trod enc Try.prog W base spare held n 23 (List.take (Try.prog.cellsOf 23) [v5, v6, v7]) = xs[5]? := g5
    rw [e5, c2] at q5
    replace g5 : DataW.trod enc Try.prog W base spare held n 23 [v5] = some y5 := q5
    have q6 : DataW.trod enc Try.prog W base spare held n 23 (List.take (Try.prog.cellsOf 23) [v6, v7]) = xs[6]? := g6
    rw [e6, c2] at q6
    replace g6 : DataW.trod enc Try.prog W base spare held n 23 [v6] = some y6 := q6
    have q7 : DataW.trod enc Try.prog W base spare held n 26 (List.take (Try.prog.cellsOf 26) [v7]) = xs[7]? := g7
    rw [e7, c6] at q7
    replace g7 : DataW.trod enc Try.prog W base spare held n 26 [v7] = some y7 := q7
    obtain ⟨kind, h0, _, w0⟩ := DataW.trod_int Try.underlying3 g0
    obtain ⟨time, h1, _, w1⟩ := DataW.trod_int Try.underlying3 g1
    obtain ⟨node, h2, _, w2⟩ := DataW.trod_int Try.underlying3 g2
    obtain ⟨dead, h3, _⟩ := DataW.trod_bool Try.underlying4 g3
    obtain ⟨text, h4, _, w4⟩ := DataW.trod_string Try.underlying9 g4
    obtain ⟨plus, hp, hpn, hpw⟩ := open_row g5
    obtain ⟨minus, hm, hmn, hmw⟩ := open_row g6
    obtain ⟨flags, h7, _, w7⟩ := DataW.trod_int Try.underlying26 g7
    injection h8 with h8 _
    injection h0 with h0 _
    injection h1 with h1 _
    injection h2 with h2 _
    injection h3 with h3 _
    injection h4 with h4 _
    injection h7 with h7 _
    subst h0 h1 h2 h3 h4 h7 h8
    have b7 := wf_u64 w7
    have f7 : ((UInt64.ofNat flags.toNat).toNat : Int) = flags := by
      rw [UInt64.toNat_ofNat_of_lt' (by show flags.toNat < 18446744073709551616; omega)]
      omega
    refine ⟨⟨key.data.toList, ⟨kind, time, node, dead, text.data.toList, plus, minus, UInt64.ofNat flags.toNat⟩⟩, v5, v6, ?_, hp, hm, ⟨by simpa using w8, ⟨w0, w1, w2, by simpa using w4, hpw, hmw, hpn, hmn⟩⟩⟩
    show [Value.string key, .int .i64 kind, .int .i64 time, .int .i64 node, .bool dead, .string text, v5, v6, .int .u64 flags] = [.string ⟨key.data.toList.toArray⟩, .int .i64 kind, .int .i64 time, .int .i64 node, .bool dead, .string ⟨text.data.toList.toArray⟩, v5, v6, .int .u64 ((UInt64.ofNat flags.toNat).toNat : Int)]
    rw [f7, ← str_eta, ← str_eta]
set_option maxRecDepth 100000 in
set_option maxHeartbeats 2000000 in
theorem open_ens {v : Value} {y : DataW H × List MemPlace} (g : DataW.trod enc Try.prog W base spare held n 22 [v] = some y) :
    ∃ l : List En, isEns l v W ∧ l.length ≤ maxLen ∧ ∀ e ∈ l, CameE e := by
  have c9 : Try.prog.cellsOf 30 = 9 := by kernel_rfl
  rcases Go.Deep.open_slice Try.underlying22 g with ⟨hc, _⟩ | ⟨a, len, cap, m, n', D, Pl, hc, _, hl, hm, hmm, _, hx⟩
  · injection hc with hc _
    subst hc
    exact ⟨[], .inl ⟨rfl, rfl⟩, Nat.zero_le _, (fun s hs => by simp at hs)⟩
  · injection hc with hc _
    subst hc
    have hle : len ≤ m := by rw [hmm]; split <;> omega
    rw [c9] at hx
    haveI : Inhabited En := ⟨⟨[], ⟨0, 0, 0, false, [], [], [], 0⟩⟩⟩
    obtain ⟨f, hf⟩ := Go.Deep.choose_lt (α := En) (n := len) (p := fun i E => (∃ vp vm, (∀ (j : Nat) (x : Value), [.string ⟨E.key.toArray⟩, .int .i64 E.val.kind, .int .i64 E.val.time, .int .i64 E.val.node, .bool E.val.dead, .string ⟨E.val.text.toArray⟩, vp, vm, .int .u64 (E.val.flags.toNat : Int)][j]? = some x → W.cell? (a.add (i * 9 + j)) = some x) ∧ isCells (E.val.plus.map intC) vp W ∧ isCells (E.val.minus.map intC) vm W) ∧ CameE E) (fun i hi => by
      obtain ⟨cs', h1, h2⟩ := hx i (by omega)
      obtain ⟨_, hlen, hcell⟩ := World.cells?_some h1
      obtain ⟨E, vp, vm, rfl, hp, hm', hE⟩ := open_encells h2
      refine ⟨E, ⟨vp, vm, fun j x hj => ?_, hp, hm'⟩, hE⟩
      have hj9 : j < 9 := by have := (List.getElem?_eq_some_iff.1 hj).1; simpa using this
      have := hcell j hj9
      rw [Go.Deep.add_add] at this
      rw [this, hj])
    refine ⟨(List.range len).map f, ?_, by simp; omega, fun e he => ?_⟩
    · cases hlen : len with
      | zero => exact .inr (.inl ⟨a, cap, rfl, rfl⟩)
      | succ k =>
        rw [← hlen]
        obtain ⟨⟨vp, vm, h0, _⟩, _⟩ := hf 0 (by omega)
        have h00 := h0 0 _ rfl
        have e0 : a.add (0 * 9 + 0) = a := by simp [Addr.add]
        rw [e0] at h00
        have ha := spot_none h00
        refine .inr (.inr ⟨a.block, a.off, cap, by rw [← ha]; simp, ?_, fun j E hE => ?_⟩)
        · simp only [World.cell?] at h00
          split at h00
          · rename_i h; exact (Array.getElem?_eq_some_iff.1 h).1
          · simp at h00
        · have hj : j < len := by have := (List.getElem?_eq_some_iff.1 hE).1; simpa using this
          rw [List.getElem?_map, List.getElem?_range hj] at hE
          simp only [Option.map_some, Option.some.injEq] at hE
          subst hE
          obtain ⟨⟨vp, vm, hcj, hp, hm'⟩, _⟩ := hf j hj
          refine ⟨vp, vm, fun k' x hx' => ?_, hp, hm'⟩
          have := hcj k' x hx'
          rw [ha, add_plain] at this
          rw [Nat.add_assoc]
          exact this
    · obtain ⟨i, hi, rfl⟩ := List.mem_map.1 he
      exact (hf i (by simpa using hi)).2
end
structure CameA (A : Ar) : Prop where
  cap : (Lit.int .i64 A.cap).wf = true
  slots : A.slots.length ≤ maxLen
  ents : ∀ e ∈ A.slots, CameE e
  index : A.index.length ≤ maxLen
  idx : ∀ x ∈ A.index, (Lit.int .i64 x).wf = true
theorem CameA.keys {A : Ar} (h : CameA A) : ∀ e ∈ A.slots, e.key.length ≤ maxLen := fun e he => (h.ents e he).key
set_option maxRecDepth 100000 in
set_option maxHeartbeats 2000000 in
theorem open_ar {W : World} {H : Type} {enc : TypeId × Value → H} {base b0 : Nat} {spare : Nat → Bool} {held : Bool} {v : Value} {d : DataW H} {p : List MemPlace} (hv : Value.okWide Try.prog W .any b0 25 v)
    (h : DataW.Trod enc Try.prog W base spare held 25 v d p) : ∃ A : Ar, isAr A v W ∧ CameA A := by
  obtain ⟨⟨l⟩, rfl, hsz⟩ := okWide_struct Try.underlying25 hv
  have hl : l.length = 3 := hsz.trans (by kernel_rfl)
  match l, hl with
  | [v0, v1, v2], _ =>
    obtain ⟨fuel0, hf0⟩ := h
    obtain ⟨xs, n, _, hxe, _, hxl, hg⟩ := DataW.trod_struct Try.underlying25 hf0
    have at_ : ∀ i, i < 3 → ∃ y, xs[i]? = some y := fun i hi => ⟨_, List.getElem?_eq_getElem (by rw [hxl]; exact hi)⟩
    obtain ⟨y0, e0⟩ := at_ 0 (by decide)
    obtain ⟨y1, e1⟩ := at_ 1 (by decide)
    obtain ⟨y2, e2⟩ := at_ 2 (by decide)
    have c1 : Try.prog.cellsOf 22 = 1 := by kernel_rfl
    have c2 : Try.prog.cellsOf 23 = 1 := by kernel_rfl
    have c3 : Try.prog.cellsOf 3 = 1 := by kernel_rfl
    have g0 := hg 0 _ rfl
    have g1 := hg 1 _ rfl
    have g2 := hg 2 _ rfl
    have q0 : DataW.trod enc Try.prog W base spare held n 3 (List.take (Try.prog.cellsOf 3) [v0, v1, v2]) = xs[0]? := g0
    rw [e0, c3] at q0
    replace g0 : DataW.trod enc Try.prog W base spare held n 3 [v0] = some y0 := q0
    have q1 : DataW.trod enc Try.prog W base spare held n 22 (List.take (Try.prog.cellsOf 22) [v1, v2]) = xs[1]? := g1
    rw [e1, c1] at q1
    replace g1 : DataW.trod enc Try.prog W base spare held n 22 [v1] = some y1 := q1
    have q2 : DataW.trod enc Try.prog W base spare held n 23 (List.take (Try.prog.cellsOf 23) [v2]) = xs[2]? := g2
    rw [e2, c2] at q2
    replace g2 : DataW.trod enc Try.prog W base spare held n 23 [v2] = some y2 := q2
    obtain ⟨cap, h0, _, w0⟩ := DataW.trod_int Try.underlying3 g0
    injection h0 with h0 _
    subst h0
    obtain ⟨sl, hs, hsn, hsc⟩ := open_ens g1
    obtain ⟨ix, hi, hin, hiw⟩ := open_row g2
    exact ⟨⟨cap, sl, ix⟩, ⟨v1, v2, rfl, hs, hi⟩, ⟨w0, hsn, hsc, hin, hiw⟩⟩
set_option maxRecDepth 100000 in
set_option maxHeartbeats 2000000 in
theorem open_el {W : World} {H : Type} {enc : TypeId × Value → H} {base b0 : Nat} {spare : Nat → Bool} {held : Bool} {v : Value} {d : DataW H} {p : List MemPlace} (hv : Value.okWide Try.prog W .any b0 22 v)
    (h : DataW.Trod enc Try.prog W base spare held 22 v d p) : ∃ l : List En, isEns l v W ∧ l.length ≤ maxLen ∧ ∀ e ∈ l, CameE e := by
  obtain ⟨fuel0, hf0⟩ := h
  have hc : ∃ cs, DataW.trod enc Try.prog W base spare held fuel0 22 [v] = some cs := by
    cases v with
    | agg cs =>
      exfalso
      rcases Go.Deep.open_slice Try.underlying22 hf0 with ⟨hc, _⟩ | ⟨a, len, cap, m, n', D, Pl, hc, _⟩
      all_goals (simp only [Value.okWide, Try.underlying22] at hv; first | (obtain ⟨_, h, _⟩ := hv; cases h) | (rcases hv with h | ⟨_, _, _, h, _⟩ <;> cases h) | cases hv)
    | _ => exact ⟨_, hf0⟩
  obtain ⟨cs, hc⟩ := hc
  exact open_ens hc
end Go.Proofs.Ytmbnhlhanckkiaa
end
section
namespace Go.Proofs.Ytmbnhlhanckkiaa
open Go.RowKit
set_option linter.unusedVariables false
set_option linter.unusedSimpArgs false

theorem ga_join (A : Ar) (Y : En) (G : Ar) (b : Bool) (r : Int) (v u : Value) (w : World) (hv : isAr A v w) (hu : isEn Y u w) (hF : FitA A) (hY : FitE Y) (hG : joinAF A Y = G) (hb : joinAB A Y = b) (hr : joinAE A Y = r) : Calls Try.prog 11 #[v, u] w fun e w' => ∃ v', e = .returned (.tuple #[v', .bool b, .int .i64 r]) ∧ isAr G v' w' ∧ Below w.heap.size w w' := by
  subst hG hb hr; exact ajoin_any A Y v u w hv hu hF hY
theorem ga_merge (A : Ar) (L : List En) (G : Ar) (n o : Int) (v u : Value) (w : World) (hv : isAr A v w) (hu : isEns L u w) (hF : FitA A) (hL : ∀ e ∈ L, FitE e) (hLn : L.length ≤ 500) (hG : mergeF A L = G) (hn : (mergeN A L : Int) = n) (ho : (mergeO A L : Int) = o) : Calls Try.prog 20 #[v, u] w fun e w' => ∃ v', e = .returned (.tuple #[v', .int .i64 n, .int .i64 o]) ∧ isAr G v' w' ∧ Below w.heap.size w w' := by
  subst hG hn ho; exact amerge_any A L v u w hv hu hF hL hLn
theorem ga_find (A : Ar) (x : En) (p : Int) (v : Value) (w : World) (hv : isAr A v w) (hF : FitA A) (hp : findI A x = p) : Calls Try.prog 13 #[v, .int .i64 x.val.kind, .string ⟨x.key.toArray⟩] w fun e w' => e = .returned (.int .i64 p) ∧ Below w.heap.size w w' := by
  have h := find_any A x.val.kind x.key v w hv hF
  rwa [find_nameE, hp] at h
theorem ga_all (A : Ar) (l : List En) (v : Value) (w : World) (hv : isAr A v w) (hF : FitA A) (hl : allA A = l) : Calls Try.prog 22 #[v] w fun e W' => ∃ v', e = .returned v' ∧ isEns l v' W' ∧ Below w.heap.size w W' := by
  subst hl; exact all_any A v w hv hF
theorem ga_chunk (A : Ar) (at_ n : Int) (l : List En) (v : Value) (w : World) (hv : isAr A v w) (hF : FitA A) (hl : chunkA A at_ n = l) : Calls Try.prog 24 #[v, .int .i64 at_, .int .i64 n] w fun e W' => ∃ v', e = .returned v' ∧ isEns l v' W' ∧ Below w.heap.size w W' := by
  subst hl; exact chunk_any A at_ n v w hv hF
theorem ga_echeck (E : En) (r : Int) (v : Value) (w : World) (hv : isEn E v w) (hF : FitE E) (hr : chkE E = r) : Calls Try.prog 25 #[v] w fun e w' => e = .returned (.int .i64 r) ∧ Below w.heap.size w w' := by
  subst hr; exact echeck_any E v w hv hF
theorem ga_esame (A B : En) (r : Bool) (v u : Value) (w : World) (hv : isEn A v w) (hu : isEn B u w) (h1 : Fit A.val) (h2 : Fit B.val) (hr : decide (A = B) = r) : Calls Try.prog 17 #[v, u] w fun e w' => e = .returned (.bool r) ∧ Below w.heap.size w w' := by
  subst hr; exact esame_any A B v u w hv hu h1 h2
theorem ga_ejoin (A B : En) (r : Int) (G : En) (v u : Value) (w : World) (hv : isEn A v w) (hu : isEn B u w) (hA : FitE A) (hF : FitE B) (hr : joinEE A B = r) (hg : joinEF A B = G) : Calls Try.prog 16 #[v, u] w fun e w' => ∃ v', e = .returned (.tuple #[v', .int .i64 r]) ∧ isEnN w.heap.size G v' w' ∧ Below w.heap.size w w' := by
  subst hr hg; exact ejoin_any A B v u w hv hu hA hF
theorem ga_less (A B : En) (r : Bool) (v u : Value) (w : World) (hv : isEn A v w) (hu : isEn B u w) (hr : lessE A B = r) : Calls Try.prog 23 #[v, u] w fun e w' => e = .returned (.bool r) ∧ Below w.heap.size w w' := by
  subst hr; exact eless_any A B v u w hv hu
/-- The merge of an arena's slots is the least above both. -/
theorem merge_both {A B C : Ar} (hA : OkA A) (hB : OkA B) (h0 : mergeO A B.slots = 0) (h1 : belowA A C = true) (h2 : belowA B C = true) : belowA (mergeF A B.slots) C = true := by
  obtain ⟨_, hC, a1⟩ := belowA_iff.1 h1
  obtain ⟨_, _, a2⟩ := belowA_iff.1 h2
  exact belowA_iff.2 ⟨(merge_okA _ hA).1, hC, merge_least _ hA hC a1 a2⟩
theorem merge_upA {A : Ar} (hA : OkA A) (l : List En) : belowA A (mergeF A l) = true := belowA_iff.2 ⟨hA, (merge_okA _ hA).1, merge_up l hA⟩
theorem merge_upB {A B : Ar} (hA : OkA A) (hB : OkA B) (h0 : mergeO A B.slots = 0) : belowA B (mergeF A B.slots) = true := belowA_iff.2 ⟨hB, (merge_okA _ hA).1, fun e he => (merge_all _ hA h0 e he).2⟩
theorem below_bad {A B : Ar} (h : okA A = false ∨ okA B = false) : belowA A B = false := by
  unfold belowA
  rcases h with h | h <;> simp [h]
theorem okA_fit {A : Ar} (h : OkA A) : FitA A := by
  have h1 := h.fits
  have h2 := h.room
  have h3 := h.len
  exact ⟨by omega, by omega, fun e he => ok_fit' (h.ents e he)⟩
theorem chkA_yes {A : Ar} (h : okA A = true) : chkA A = 0 := by unfold chkA; rw [if_pos h]
theorem chkA_no {A : Ar} (h : okA A = false) : chkA A = 2 := by unfold chkA; rw [h]; rfl
end Go.Proofs.Ytmbnhlhanckkiaa
end
section
namespace Go.Proofs.Ytmbnhlhanckkiaa
open Go.RowKit Go.Shelf
set_option linter.unusedVariables false
set_option linter.unusedSimpArgs false

abbrev RowE := List (En × Value × Value)
structure OutV (N : Nat) (v : Value) (ps : RowE) (W : World) : Prop where
  own : W.ownsRow N 30 9 v ps.length (flatE ps)
  rows : RowsOk ps W
  off : ∀ q ∈ ps, ∀ b, v.ownBlock = some b → OffQ b q
theorem outV_nil (N : Nat) (W : World) : OutV N (.slice none 0 0) [] W := ⟨World.ownsRow_nil _ _ _ _, (fun q hq => by cases hq), (fun q hq => by cases hq)⟩
theorem OutV.keep {N : Nat} {v : Value} {ps : RowE} {W W' : World} (h : OutV N v ps W) (hb : Below W.heap.size W W') : OutV N v ps W' :=
  ⟨own_grow h.own hb, fun q hq => ⟨stable_cells _ _ _ _ (h.rows q hq).1 hb, stable_cells _ _ _ _ (h.rows q hq).2 hb⟩, h.off⟩
theorem OutV.ens {N : Nat} {v : Value} {ps : RowE} {W : World} (h : OutV N v ps W) : isEns (ps.map (·.1)) v W := own_ens h.own h.rows
theorem OutV.low {N N' : Nat} {v : Value} {ps : RowE} {W : World} (h : OutV N v ps W) (hN : N' ≤ N) : OutV N' v ps W := ⟨own_low h.own hN, h.rows, h.off⟩
theorem OutV.len {N : Nat} {v : Value} {ps : RowE} {W : World} (h : OutV N v ps W) : ∃ a c, v = .slice a ps.length c := by
  obtain ⟨_, ⟨rfl, h0⟩ | ⟨g, cap, cur, rfl, _⟩⟩ := h.own
  · exact ⟨_, _, by rw [h0]⟩
  · exact ⟨_, _, rfl⟩
/-- A row of entries as append reads it. -/
def SrcE (u : Value) (ps : RowE) (w : World) : Prop := (u = .slice none 0 0 ∧ ps = []) ∨ ∃ (a : Addr) (c : Nat), u = .slice (some a) ps.length c ∧ ∀ (j : Nat) (x : Value), (flatE ps)[j]? = some x → w.cell? (a.add j) = some x
theorem add_at (b off j : Nat) : (⟨b, off, none⟩ : Addr).add j = ⟨b, off + j, none⟩ := by
  by_cases e : j = 0
  · subst e; simp [Addr.add]
  · simp [Addr.add, e]
theorem flatE_at : ∀ {ps : RowE} {j : Nat} {x : Value}, (flatE ps)[j]? = some x → ∃ q, ps[j / 9]? = some q ∧ (enL q.1 q.2.1 q.2.2)[j % 9]? = some x
  | [], j, x, h => by simp [flatE] at h
  | p :: ps, j, x, h => by
    rw [flatE_cons] at h
    by_cases hj : j < 9
    · rw [List.getElem?_append_left (show j < (enL p.1 p.2.1 p.2.2).length from hj)] at h
      rw [Nat.div_eq_of_lt hj, Nat.mod_eq_of_lt hj]
      exact ⟨p, rfl, h⟩
    · rw [List.getElem?_append_right (show (enL p.1 p.2.1 p.2.2).length ≤ j from by show 9 ≤ j; omega)] at h
      have h' : (flatE ps)[j - 9]? = some x := h
      obtain ⟨q, h1, h2⟩ := flatE_at h'
      have e1 : j / 9 = (j - 9) / 9 + 1 := by omega
      have e2 : j % 9 = (j - 9) % 9 := by omega
      rw [e1, e2, List.getElem?_cons_succ]
      exact ⟨q, h1, h2⟩
theorem ens_rows : ∀ (l : List En) (b off : Nat) (w : World), (∀ (j : Nat) (E : En), l[j]? = some E → EnAt w b (off + j * 9) E) → ∃ ps : RowE, ps.map (·.1) = l ∧ RowsOk ps w ∧ ∀ (j : Nat) (q : En × Value × Value), ps[j]? = some q → ∀ (i : Nat) (x : Value), (enL q.1 q.2.1 q.2.2)[i]? = some x → w.cell? ⟨b, off + j * 9 + i, none⟩ = some x
  | [], b, off, w, h => ⟨[], rfl, (fun q hq => by cases hq), fun j q hq => by simp at hq⟩
  | E :: l, b, off, w, h => by
    obtain ⟨vp, vm, hc, hp, hm⟩ := h 0 E rfl
    obtain ⟨ps, h1, h2, h3⟩ := ens_rows l b (off + 9) w (fun j F hF => by
      have := h (j + 1) F (by rw [List.getElem?_cons_succ]; exact hF)
      rwa [show off + (j + 1) * 9 = off + 9 + j * 9 by omega] at this)
    refine ⟨(E, vp, vm) :: ps, by rw [List.map_cons, h1], fun q hq => ?_, fun j q hq i x hx => ?_⟩
    · rcases List.mem_cons.1 hq with rfl | hq
      · exact ⟨hp, hm⟩
      · exact h2 q hq
    · cases j with
      | zero =>
        simp only [List.getElem?_cons_zero, Option.some.injEq] at hq
        subst hq
        exact hc i x hx
      | succ j =>
        rw [List.getElem?_cons_succ] at hq
        have := h3 j q hq i x hx
        rwa [show off + 9 + j * 9 + i = off + (j + 1) * 9 + i by omega] at this
theorem isEns.src {l : List En} {u : Value} {w : World} (h : isEns l u w) : ∃ ps : RowE, ps.map (·.1) = l ∧ RowsOk ps w ∧ SrcE u ps w := by
  rcases h with ⟨rfl, rfl⟩ | ⟨a, cap, rfl, rfl⟩ | ⟨b, off, cap, rfl, hlt, hc⟩
  · exact ⟨[], rfl, (fun q hq => by cases hq), .inl ⟨rfl, rfl⟩⟩
  · exact ⟨[], rfl, (fun q hq => by cases hq), .inr ⟨a, cap, rfl, fun j x hx => by simp [flatE] at hx⟩⟩
  · obtain ⟨ps, h1, h2, h3⟩ := ens_rows l b off w hc
    refine ⟨ps, h1, h2, .inr ⟨⟨b, off, none⟩, cap, by rw [← h1, List.length_map], fun j x hx => ?_⟩⟩
    obtain ⟨q, hq, hx⟩ := flatE_at hx
    have := h3 _ q hq _ x hx
    rw [add_at]
    rwa [show off + j / 9 * 9 + j % 9 = off + j by omega] at this
theorem own_src {N : Nat} {v : Value} {ps : RowE} {w : World} (h : w.ownsRow N 30 9 v ps.length (flatE ps)) : SrcE v ps w := by
  obtain ⟨hl, ⟨rfl, h0⟩ | ⟨g, cap, cur, rfl, hB, hg, hn, hc, hcs, ht⟩⟩ := h
  · exact .inl ⟨rfl, List.eq_nil_of_length_eq_zero h0⟩
  · refine .inr ⟨⟨g, 0, none⟩, cap, rfl, fun j x hx => ?_⟩
    rw [add_at, Nat.zero_add]
    rw [← ht, List.getElem?_take] at hx
    split at hx
    · simpa [World.cell?, hg] using hx
    · cases hx
/-- Rows of entries stand elsewhere. -/
theorem off_old {w0 : World} {ps : RowE} (h : RowsOk ps w0) {b : Nat} (hb : w0.heap.size ≤ b) : ∀ q ∈ ps, OffQ b q := fun q hq =>
  ⟨(cells_lt (h q hq).1).imp id (fun h3 e => by have := h3 b e; omega), (cells_lt (h q hq).2).imp id (fun h3 e => by have := h3 b e; omega)⟩
theorem off_new {N : Nat} {ps : RowE} (h : ∀ q ∈ ps, NewB N q.2.1 ∧ NewB N q.2.2) {b : Nat} (hb : b < N) : ∀ q ∈ ps, OffQ b q := fun q hq =>
  ⟨.inr (fun e => by have := (h q hq).1 b e; omega), .inr (fun e => by have := (h q hq).2 b e; omega)⟩
theorem ones_flat {ps : RowE} {w : World} (h : RowsOk ps w) : ∀ u ∈ flatE ps, u.oneCell' = true := by
  intro u hu
  unfold flatE at hu
  obtain ⟨q, hq, hu⟩ := List.mem_flatMap.1 hu
  exact ones_en (h q hq).1.one (h q hq).2.one u hu
theorem run_append_ens {N : Nat} {v : Value} {ps : RowE} {w : World} (h : OutV N v ps w) {u : Value} {ps2 : RowE} (hu : SrcE u ps2 w) (hr2 : RowsOk ps2 w) (hoff : ∀ q ∈ ps2, ∀ b, v.ownBlock = some b → OffQ b q) (hn : ps.length + ps2.length ≤ 1000) (hN : N ≤ w.heap.size) (ty : TypeId) :
    ∃ v' w', (Builtin.append_ #[22, 22] ty #[v, u]).run Try.prog w = .ok v' w' ∧ OutV N v' (ps ++ ps2) w' ∧ w.grownBy w' v.ownBlock := by
  obtain ⟨ie, hie, hz, hsz⟩ : ∃ ie, Try.prog.info? 30 = some ie ∧ ie.zero = some (.agg #[.string ⟨#[]⟩, .int .i64 0, .int .i64 0, .int .i64 0, .bool false, .string ⟨#[]⟩, .slice none 0 0, .slice none 0 0, .int .u64 0]) ∧ ie.size = 9 := by
    have := Try.infoEn
    obtain ⟨ie, h1, h2⟩ := Option.map_eq_some_iff.1 this
    simp only [Prod.mk.injEq] at h2
    exact ⟨ie, h1, h2.1, h2.2⟩
  have hbytes : ie.bytes ≤ 100000 := by
    have : (Try.prog.info? 30).all (fun i => decide (i.bytes ≤ 100000)) = true := by kernel_rfl
    rw [hie] at this
    simpa using this
  rcases hu with ⟨rfl, rfl⟩ | ⟨a, c, rfl, hcell⟩
  · refine ⟨v, w, run_append_owned_none (P := Try.prog) (w := w) N _ ty 30 ie 9 Try.underlying22 hie v _ _ h.own, ?_, ⟨rfl, rfl, rfl, Nat.le_refl _, fun _ _ _ => rfl⟩⟩
    rw [List.append_nil]; exact h
  · obtain ⟨v', w', hrun, how, hgr, _, hob⟩ := run_append_own_at (P := Try.prog) (w := w) N 22 ty 30 ie (.agg #[.string ⟨#[]⟩, .int .i64 0, .int .i64 0, .int .i64 0, .bool false, .string ⟨#[]⟩, .slice none 0 0, .slice none 0 0, .int .u64 0]) 9 ie.bytes Try.underlying22 hie hz hsz rfl rfl (by decide) v ps.length (flatE ps) h.own a ps2.length c (flatE ps2) (flatE_length _) hcell (ones_flat hr2) (by unfold maxLen; omega) (by have : (ps.length + ps2.length) * ie.bytes ≤ 1000 * 100000 := Nat.mul_le_mul hn hbytes; omega) hN
    refine ⟨v', w', hrun, ⟨?_, fun q hq => ?_, fun q hq b hb => ?_⟩, hgr⟩
    · rw [List.length_append]
      have e : flatE (ps ++ ps2) = flatE ps ++ flatE ps2 := by unfold flatE; simp
      rw [e]; exact how
    · have key : ∀ q, isCells (q.1.val.plus.map intC) q.2.1 w ∧ isCells (q.1.val.minus.map intC) q.2.2 w → (∀ b, v.ownBlock = some b → OffQ b q) → isCells (q.1.val.plus.map intC) q.2.1 w' ∧ isCells (q.1.val.minus.map intC) q.2.2 w' := by
        intro q hc ho
        refine ⟨hgr.cells hc.1 ?_, hgr.cells hc.2 ?_⟩
        · by_cases e : q.1.val.plus.map intC = []
          · exact .inl e
          · exact .inr (fun s hs => ((ho s hs).1.resolve_left e))
        · by_cases e : q.1.val.minus.map intC = []
          · exact .inl e
          · exact .inr (fun s hs => ((ho s hs).2.resolve_left e))
      rcases List.mem_append.1 hq with hq | hq
      · exact key q (h.rows q hq) (h.off q hq)
      · exact key q (hr2 q hq) (hoff q hq)
    · rcases hob with e | e
      · rw [e] at hb
        exact (List.mem_append.1 hq).elim (fun hq => h.off q hq b hb) (fun hq => hoff q hq b hb)
      · rw [e] at hb
        injection hb with hb
        subst hb
        exact (List.mem_append.1 hq).elim (fun hq => off_old h.rows (Nat.le_refl _) q hq) (fun hq => off_old hr2 (Nat.le_refl _) q hq)
theorem wpList_append_ens {ops : Array Oper} {rest : List Oper} {o : Oper} {a : Act} {w : World} {Q : Exit → Act → World → Prop} (hgd : o.guard = none) (s x : Operand) (ho : o.op = .call { callee := .builtin .append, args := #[s, x], argTypes := #[22, 22] })
    (N : Nat) (v : Value) (ps : RowE) (hs : a.eval s = v) (h : OutV N v ps w) (u : Value) (ps2 : RowE) (hx : a.eval x = u) (hu : SrcE u ps2 w) (hr2 : RowsOk ps2 w) (hoff : ∀ q ∈ ps2, ∀ b, v.ownBlock = some b → OffQ b q) (hn : ps.length + ps2.length ≤ 1000) (hN : N ≤ w.heap.size)
    (hr : ∀ v' w', OutV N v' (ps ++ ps2) w' → w.grownBy w' v.ownBlock → wpList Try.prog ops Q rest (a.put o.dst v') w') : wpList Try.prog ops Q (o :: rest) a w := by
  refine wpList_plain hgd fun K hK => ?_
  obtain ⟨v', w', hrun, h1, h2⟩ := run_append_ens h hu hr2 hoff hn hN o.type
  unfold Oper.wp execOp
  rw [ho]
  simp only [resolve, Sem.run_bind, Sem.run_pure, Result.andThen_ok, invoke, builtin, List.map_toArray, List.map_cons, List.map_nil, hs, hx, hrun, Oper.upon]
  exact hK _ _ (hr v' w' h1 h2)
/-- A row of entries that is new, with new rows. -/
def isEnsN (N : Nat) (l : List En) : VP := fun v w => ∃ ps : RowE, ps.map (·.1) = l ∧ OutV N v ps w ∧ ∀ q ∈ ps, NewB N q.2.1 ∧ NewB N q.2.2
theorem ensN_nil (N : Nat) (w : World) : isEnsN N [] (.slice none 0 0) w := ⟨[], rfl, outV_nil _ _, fun q hq => by cases hq⟩
theorem OutS.ensN {N N0 b1 : Nat} {v : Value} {ps : RowE} {W : World} (h : OutS N0 b1 v ps W) (hN : N ≤ N0) : isEnsN N (ps.map (·.1)) v W :=
  ⟨ps, rfl, ⟨own_low h.own hN, h.rows, h.off⟩, fun q hq => ⟨(h.nw q hq).1.low hN, (h.nw q hq).2.low hN⟩⟩
theorem isEnsN.ens {N : Nat} {l : List En} {v : Value} {w : World} (h : isEnsN N l v w) : isEns l v w := by
  obtain ⟨ps, rfl, h1, _⟩ := h
  exact h1.ens
/-- What is older than the row stays. -/
theorem grown_below {w0 w w' : World} {N : Nat} {v : Value} {ps : RowE} (h : OutV N v ps w) (hg : w.grownBy w' v.ownBlock) (hb : Below w0.heap.size w0 w) (hN : w0.heap.size ≤ N) : Below w0.heap.size w0 w' := by
  refine ⟨hg.os.trans hb.os, hg.tape.trans hb.tape, hg.output.trans hb.output, Nat.le_trans hb.size hg.size, fun b hlt => (hg.block b (Nat.lt_of_lt_of_le hlt hb.size) (fun e => ?_)).trans (hb.block b hlt)⟩
  have := (h.own.lt b e.symm).1
  omega
end Go.Proofs.Ytmbnhlhanckkiaa
end
section
namespace Go.Proofs.Ytmbnhlhanckkiaa
open Go.RowKit
set_option linter.unusedVariables false
set_option linter.unusedSimpArgs false
attribute [local irreducible] setN

theorem fs_en_0 (g o : Nat) (w : World) : (Instr.fieldAt 30 (.pointer (some ⟨g, o, none⟩)) 0).run Try.prog w = .ok (.pointer (some ⟨g, o, none⟩)) w := by simp [Instr.fieldAt, run_underlying Try.underlying30, Instr.sureAddr, fieldPlace, Addr.add]
theorem fs_en_1 (g o : Nat) (w : World) : (Instr.fieldAt 30 (.pointer (some ⟨g, o, none⟩)) 1).run Try.prog w = .ok (.pointer (some ⟨g, o + 1, none⟩)) w := by simp [Instr.fieldAt, run_underlying Try.underlying30, Instr.sureAddr, fieldPlace, Addr.add]
theorem fs_va_0 (g o : Nat) (w : World) : (Instr.fieldAt 28 (.pointer (some ⟨g, o, none⟩)) 0).run Try.prog w = .ok (.pointer (some ⟨g, o, none⟩)) w := by simp [Instr.fieldAt, run_underlying Try.underlying28, Instr.sureAddr, fieldPlace, Addr.add]
noncomputable def asl1Ops : Array Oper := regionOf Try.f5 13
set_option maxRecDepth 100000 in
set_option maxHeartbeats 2000000 in
theorem asl1_region (Q : Exit → Act → World → Prop) (a0 : Act) (w0 : World) (hsz : a0.tmps.size = 155) (k g h bs os cs n bt ot ct m : Nat) (K : List UInt8) (q : Int) (e12 : a0.tmps.getD 12 undef = .int .i64 (k : Int)) (e3 : a0.tmps.getD 3 undef = .pointer (some ⟨g, 0, none⟩)) (e9 : a0.tmps.getD 9 undef = .pointer (some ⟨h, 0, none⟩)) (hg : w0.cell? ⟨g, 1, none⟩ = some (.slice (some ⟨bs, os, none⟩) n cs)) (hgl : g < w0.heap.size) (hh : w0.cell? ⟨h, 1, none⟩ = some (.slice (some ⟨bt, ot, none⟩) m ct)) (hhl : h < w0.heap.size) (hbs : bs < w0.heap.size) (hbt : bt < w0.heap.size) (hn : k < n) (hm : k < m) (h0 : w0.cell? ⟨bs, os + k * 9, none⟩ = some (.string ⟨K.toArray⟩)) (h1 : w0.cell? ⟨bs, os + k * 9 + 1, none⟩ = some (.int .i64 q)) (k0 : w0.cell? ⟨bt, ot + k * 9, none⟩ = some (.string ⟨K.toArray⟩)) (k1 : w0.cell? ⟨bt, ot + k * 9 + 1, none⟩ = some (.int .i64 q))
    (hQ : ∀ (g : Nat → Value) (w : World), g 101 = .bool false → Below w0.heap.size w0 w → Q .normal { tmps := [72, 73, 74, 75, 76, 77, 78, 79, 80, 81, 82, 83, 84, 85, 86, 87, 88, 89, 90, 91, 92, 93, 94, 95, 96, 97, 98, 99, 100, 101].foldl (fun t s => t.setIfInBounds s (g s)) a0.tmps, defers := a0.defers } w) :
    (Code.region 13 asl1Ops true).wp Try.prog Q a0 w0 := by
  refine wp_region_flow mixed (by rw [hsz]; kernel_rfl) ?_
  rw [show asl1Ops.size = 30 by kernel_rfl]
  refine ⟨isVal (.pointer (some ⟨g, 1, none⟩)), step_field 25 (.tmp 3) 1 ⟨g, 0, none⟩ ⟨g, 1, none⟩ (by kernel_rfl) (wanted_none (by kernel_rfl)) (knows_old 3 (.pointer (some ⟨g, 0, none⟩)) (by kernel_rfl) e3) (f_ar_0_1 (g)), ?_⟩
  refine ⟨isVal (.slice (some ⟨bs, os, none⟩) n cs), step_read 22 (.tmp 72) ⟨g, 1, none⟩ (.slice (some ⟨bs, os, none⟩) n cs) (by kernel_rfl) (wanted_none (by kernel_rfl)) (knows_new (V := isVal (.pointer (some ⟨g, 1, none⟩))) 72 0 (by kernel_rfl) (by kernel_rfl) (by kernel_rfl)) (hg) (hgl) (agg_noS), ?_⟩
  refine ⟨isVal (.int .i64 (k : Int)), step_move (.tmp 12) (by kernel_rfl) (wanted_none (by kernel_rfl)) (stable_val _) (knows_old 12 (.int .i64 (k : Int)) (by kernel_rfl) e12), ?_⟩
  refine ⟨isVal (.pointer (some ⟨bs, os + k * 9, none⟩)), step_placeE 22 30 (.tmp 73) (.tmp 74) bs (os) (n) (cs) (k) (os + k * 9) (by kernel_rfl) (wanted_none (by kernel_rfl)) (knows_new (V := isVal (.slice (some ⟨bs, os, none⟩) n cs)) 73 1 (by kernel_rfl) (by kernel_rfl) (by kernel_rfl)) (knows_new (V := isVal (.int .i64 (k : Int))) 74 2 (by kernel_rfl) (by kernel_rfl) (by kernel_rfl)) Try.underlying22 (by kernel_rfl) (⟨hn, rfl⟩), ?_⟩
  refine ⟨isVal (.pointer (some ⟨bs, os + k * 9, none⟩)), step_field 30 (.tmp 75) 0 ⟨bs, os + k * 9, none⟩ ⟨bs, os + k * 9, none⟩ (by kernel_rfl) (wanted_none (by kernel_rfl)) (knows_new (V := isVal (.pointer (some ⟨bs, os + k * 9, none⟩))) 75 3 (by kernel_rfl) (by kernel_rfl) (by kernel_rfl)) (fs_en_0 (bs) (os + k * 9)), ?_⟩
  refine ⟨isVal (.string ⟨K.toArray⟩), step_read 9 (.tmp 76) ⟨bs, os + k * 9, none⟩ (.string ⟨K.toArray⟩) (by kernel_rfl) (wanted_none (by kernel_rfl)) (knows_new (V := isVal (.pointer (some ⟨bs, os + k * 9, none⟩))) 76 4 (by kernel_rfl) (by kernel_rfl) (by kernel_rfl)) (h0) (hbs) (agg_noT), ?_⟩
  refine ⟨isVal (.pointer (some ⟨h, 1, none⟩)), step_field 25 (.tmp 9) 1 ⟨h, 0, none⟩ ⟨h, 1, none⟩ (by kernel_rfl) (wanted_none (by kernel_rfl)) (knows_old 9 (.pointer (some ⟨h, 0, none⟩)) (by kernel_rfl) e9) (f_ar_0_1 (h)), ?_⟩
  refine ⟨isVal (.slice (some ⟨bt, ot, none⟩) m ct), step_read 22 (.tmp 78) ⟨h, 1, none⟩ (.slice (some ⟨bt, ot, none⟩) m ct) (by kernel_rfl) (wanted_none (by kernel_rfl)) (knows_new (V := isVal (.pointer (some ⟨h, 1, none⟩))) 78 6 (by kernel_rfl) (by kernel_rfl) (by kernel_rfl)) (hh) (hhl) (agg_noS), ?_⟩
  refine ⟨isVal (.int .i64 (k : Int)), step_move (.tmp 12) (by kernel_rfl) (wanted_none (by kernel_rfl)) (stable_val _) (knows_old 12 (.int .i64 (k : Int)) (by kernel_rfl) e12), ?_⟩
  refine ⟨isVal (.pointer (some ⟨bt, ot + k * 9, none⟩)), step_placeE 22 30 (.tmp 79) (.tmp 80) bt (ot) (m) (ct) (k) (ot + k * 9) (by kernel_rfl) (wanted_none (by kernel_rfl)) (knows_new (V := isVal (.slice (some ⟨bt, ot, none⟩) m ct)) 79 7 (by kernel_rfl) (by kernel_rfl) (by kernel_rfl)) (knows_new (V := isVal (.int .i64 (k : Int))) 80 8 (by kernel_rfl) (by kernel_rfl) (by kernel_rfl)) Try.underlying22 (by kernel_rfl) (⟨hm, rfl⟩), ?_⟩
  refine ⟨isVal (.pointer (some ⟨bt, ot + k * 9, none⟩)), step_field 30 (.tmp 81) 0 ⟨bt, ot + k * 9, none⟩ ⟨bt, ot + k * 9, none⟩ (by kernel_rfl) (wanted_none (by kernel_rfl)) (knows_new (V := isVal (.pointer (some ⟨bt, ot + k * 9, none⟩))) 81 9 (by kernel_rfl) (by kernel_rfl) (by kernel_rfl)) (fs_en_0 (bt) (ot + k * 9)), ?_⟩
  refine ⟨isVal (.string ⟨K.toArray⟩), step_read 9 (.tmp 82) ⟨bt, ot + k * 9, none⟩ (.string ⟨K.toArray⟩) (by kernel_rfl) (wanted_none (by kernel_rfl)) (knows_new (V := isVal (.pointer (some ⟨bt, ot + k * 9, none⟩))) 82 10 (by kernel_rfl) (by kernel_rfl) (by kernel_rfl)) (k0) (hbt) (agg_noT), ?_⟩
  refine ⟨isVal (.bool false), step_bin .neq 9 9 (.tmp 77) (.tmp 83) (.string ⟨K.toArray⟩) (.string ⟨K.toArray⟩) (.bool false) (by kernel_rfl) (wanted_none (by kernel_rfl)) (knows_new (V := isVal (.string ⟨K.toArray⟩)) 77 5 (by kernel_rfl) (by kernel_rfl) (by kernel_rfl)) (knows_new (V := isVal (.string ⟨K.toArray⟩)) 83 11 (by kernel_rfl) (by kernel_rfl) (by kernel_rfl)) (fun _ => rfl) (neq_str _ K K false (by simp)), ?_⟩
  refine ⟨isVal (.bool false), step_move (.tmp 84) (by kernel_rfl) (wanted_none (by kernel_rfl)) (stable_val _) (knows_new (V := isVal (.bool false)) 84 12 (by kernel_rfl) (by kernel_rfl) (by kernel_rfl)), ?_⟩
  refine ⟨isVal (.pointer (some ⟨g, 1, none⟩)), step_field 25 (.tmp 3) 1 ⟨g, 0, none⟩ ⟨g, 1, none⟩ (by kernel_rfl) (wanted_some 13 85 false (by kernel_rfl) (by kernel_rfl) (by kernel_rfl) (by kernel_rfl)) (knows_old 3 (.pointer (some ⟨g, 0, none⟩)) (by kernel_rfl) e3) (f_ar_0_1 (g)), ?_⟩
  refine ⟨isVal (.slice (some ⟨bs, os, none⟩) n cs), step_read 22 (.tmp 86) ⟨g, 1, none⟩ (.slice (some ⟨bs, os, none⟩) n cs) (by kernel_rfl) (wanted_some 13 85 false (by kernel_rfl) (by kernel_rfl) (by kernel_rfl) (by kernel_rfl)) (knows_new (V := isVal (.pointer (some ⟨g, 1, none⟩))) 86 14 (by kernel_rfl) (by kernel_rfl) (by kernel_rfl)) (hg) (hgl) (agg_noS), ?_⟩
  refine ⟨isVal (.int .i64 (k : Int)), step_move (.tmp 12) (by kernel_rfl) (wanted_some 13 85 false (by kernel_rfl) (by kernel_rfl) (by kernel_rfl) (by kernel_rfl)) (stable_val _) (knows_old 12 (.int .i64 (k : Int)) (by kernel_rfl) e12), ?_⟩
  refine ⟨isVal (.pointer (some ⟨bs, os + k * 9, none⟩)), step_placeE 22 30 (.tmp 87) (.tmp 88) bs (os) (n) (cs) (k) (os + k * 9) (by kernel_rfl) (wanted_some 13 85 false (by kernel_rfl) (by kernel_rfl) (by kernel_rfl) (by kernel_rfl)) (knows_new (V := isVal (.slice (some ⟨bs, os, none⟩) n cs)) 87 15 (by kernel_rfl) (by kernel_rfl) (by kernel_rfl)) (knows_new (V := isVal (.int .i64 (k : Int))) 88 16 (by kernel_rfl) (by kernel_rfl) (by kernel_rfl)) Try.underlying22 (by kernel_rfl) (⟨hn, rfl⟩), ?_⟩
  refine ⟨isVal (.pointer (some ⟨bs, os + k * 9 + 1, none⟩)), step_field 30 (.tmp 89) 1 ⟨bs, os + k * 9, none⟩ ⟨bs, os + k * 9 + 1, none⟩ (by kernel_rfl) (wanted_some 13 85 false (by kernel_rfl) (by kernel_rfl) (by kernel_rfl) (by kernel_rfl)) (knows_new (V := isVal (.pointer (some ⟨bs, os + k * 9, none⟩))) 89 17 (by kernel_rfl) (by kernel_rfl) (by kernel_rfl)) (fs_en_1 (bs) (os + k * 9)), ?_⟩
  refine ⟨isVal (.pointer (some ⟨bs, os + k * 9 + 1, none⟩)), step_field 28 (.tmp 90) 0 ⟨bs, os + k * 9 + 1, none⟩ ⟨bs, os + k * 9 + 1, none⟩ (by kernel_rfl) (wanted_some 13 85 false (by kernel_rfl) (by kernel_rfl) (by kernel_rfl) (by kernel_rfl)) (knows_new (V := isVal (.pointer (some ⟨bs, os + k * 9 + 1, none⟩))) 90 18 (by kernel_rfl) (by kernel_rfl) (by kernel_rfl)) (fs_va_0 (bs) (os + k * 9 + 1)), ?_⟩
  refine ⟨isVal (.int .i64 q), step_read 3 (.tmp 91) ⟨bs, os + k * 9 + 1, none⟩ (.int .i64 q) (by kernel_rfl) (wanted_some 13 85 false (by kernel_rfl) (by kernel_rfl) (by kernel_rfl) (by kernel_rfl)) (knows_new (V := isVal (.pointer (some ⟨bs, os + k * 9 + 1, none⟩))) 91 19 (by kernel_rfl) (by kernel_rfl) (by kernel_rfl)) (h1) (hbs) (agg_noZ), ?_⟩
  refine ⟨isVal (.pointer (some ⟨h, 1, none⟩)), step_field 25 (.tmp 9) 1 ⟨h, 0, none⟩ ⟨h, 1, none⟩ (by kernel_rfl) (wanted_some 13 85 false (by kernel_rfl) (by kernel_rfl) (by kernel_rfl) (by kernel_rfl)) (knows_old 9 (.pointer (some ⟨h, 0, none⟩)) (by kernel_rfl) e9) (f_ar_0_1 (h)), ?_⟩
  refine ⟨isVal (.slice (some ⟨bt, ot, none⟩) m ct), step_read 22 (.tmp 93) ⟨h, 1, none⟩ (.slice (some ⟨bt, ot, none⟩) m ct) (by kernel_rfl) (wanted_some 13 85 false (by kernel_rfl) (by kernel_rfl) (by kernel_rfl) (by kernel_rfl)) (knows_new (V := isVal (.pointer (some ⟨h, 1, none⟩))) 93 21 (by kernel_rfl) (by kernel_rfl) (by kernel_rfl)) (hh) (hhl) (agg_noS), ?_⟩
  refine ⟨isVal (.int .i64 (k : Int)), step_move (.tmp 12) (by kernel_rfl) (wanted_some 13 85 false (by kernel_rfl) (by kernel_rfl) (by kernel_rfl) (by kernel_rfl)) (stable_val _) (knows_old 12 (.int .i64 (k : Int)) (by kernel_rfl) e12), ?_⟩
  refine ⟨isVal (.pointer (some ⟨bt, ot + k * 9, none⟩)), step_placeE 22 30 (.tmp 94) (.tmp 95) bt (ot) (m) (ct) (k) (ot + k * 9) (by kernel_rfl) (wanted_some 13 85 false (by kernel_rfl) (by kernel_rfl) (by kernel_rfl) (by kernel_rfl)) (knows_new (V := isVal (.slice (some ⟨bt, ot, none⟩) m ct)) 94 22 (by kernel_rfl) (by kernel_rfl) (by kernel_rfl)) (knows_new (V := isVal (.int .i64 (k : Int))) 95 23 (by kernel_rfl) (by kernel_rfl) (by kernel_rfl)) Try.underlying22 (by kernel_rfl) (⟨hm, rfl⟩), ?_⟩
  refine ⟨isVal (.pointer (some ⟨bt, ot + k * 9 + 1, none⟩)), step_field 30 (.tmp 96) 1 ⟨bt, ot + k * 9, none⟩ ⟨bt, ot + k * 9 + 1, none⟩ (by kernel_rfl) (wanted_some 13 85 false (by kernel_rfl) (by kernel_rfl) (by kernel_rfl) (by kernel_rfl)) (knows_new (V := isVal (.pointer (some ⟨bt, ot + k * 9, none⟩))) 96 24 (by kernel_rfl) (by kernel_rfl) (by kernel_rfl)) (fs_en_1 (bt) (ot + k * 9)), ?_⟩
  refine ⟨isVal (.pointer (some ⟨bt, ot + k * 9 + 1, none⟩)), step_field 28 (.tmp 97) 0 ⟨bt, ot + k * 9 + 1, none⟩ ⟨bt, ot + k * 9 + 1, none⟩ (by kernel_rfl) (wanted_some 13 85 false (by kernel_rfl) (by kernel_rfl) (by kernel_rfl) (by kernel_rfl)) (knows_new (V := isVal (.pointer (some ⟨bt, ot + k * 9 + 1, none⟩))) 97 25 (by kernel_rfl) (by kernel_rfl) (by kernel_rfl)) (fs_va_0 (bt) (ot + k * 9 + 1)), ?_⟩
  refine ⟨isVal (.int .i64 q), step_read 3 (.tmp 98) ⟨bt, ot + k * 9 + 1, none⟩ (.int .i64 q) (by kernel_rfl) (wanted_some 13 85 false (by kernel_rfl) (by kernel_rfl) (by kernel_rfl) (by kernel_rfl)) (knows_new (V := isVal (.pointer (some ⟨bt, ot + k * 9 + 1, none⟩))) 98 26 (by kernel_rfl) (by kernel_rfl) (by kernel_rfl)) (k1) (hbt) (agg_noZ), ?_⟩
  refine ⟨isVal (.bool false), step_bin .neq 3 3 (.tmp 92) (.tmp 99) (.int .i64 q) (.int .i64 q) (.bool false) (by kernel_rfl) (wanted_some 13 85 false (by kernel_rfl) (by kernel_rfl) (by kernel_rfl) (by kernel_rfl)) (knows_new (V := isVal (.int .i64 q)) 92 20 (by kernel_rfl) (by kernel_rfl) (by kernel_rfl)) (knows_new (V := isVal (.int .i64 q)) 99 27 (by kernel_rfl) (by kernel_rfl) (by kernel_rfl)) (fun _ => rfl) (neq_int _ _ _ _ _ (by simp)), ?_⟩
  refine ⟨isVal (.bool false), step_pick (.tmp 85) (.const (.bool true)) (.tmp 100) false (by kernel_rfl) (wanted_none (by kernel_rfl)) (stable_val _) (knows_new (V := isVal (.bool false)) 85 13 (by kernel_rfl) (by kernel_rfl) (by kernel_rfl)) (knows_new (V := isVal (.bool false)) 100 28 (by kernel_rfl) (by kernel_rfl) (by kernel_rfl)), ?_⟩
  intro a w hkp hb hd
  rw [kept_of hkp [some 72, some 73, some 74, some 75, some 76, some 77, some 78, some 79, some 80, some 81, some 82, some 83, some 84, some 85, some 86, some 87, some 88, some 89, some 90, some 91, some 92, some 93, some 94, some 95, some 96, some 97, some 98, some 99, some 100, some 101] [72, 73, 74, 75, 76, 77, 78, 79, 80, 81, 82, 83, 84, 85, 86, 87, 88, 89, 90, 91, 92, 93, 94, 95, 96, 97, 98, 99, 100, 101] (by kernel_rfl) (by decide)]
  have d101 := fdone_of (hd 29 (by rw [show asl1Ops.size = 30 by kernel_rfl]; decide)) (t := 101) (V := isVal (.bool false)) (by kernel_rfl) (by kernel_rfl)
  exact hQ (fun s => a.tmps.getD s undef) w d101 hb
noncomputable def asl2Ops : Array Oper := regionOf Try.f5 19
set_option maxRecDepth 100000 in
set_option maxHeartbeats 2000000 in
theorem asl2_region (Q : Exit → Act → World → Prop) (a0 : Act) (w0 : World) (hsz : a0.tmps.size = 155) (k j bs os cs n : Nat) (X Y : En) (xp xm yp ym : Value) (e14 : a0.tmps.getD 14 undef = .int .i64 (k : Int)) (e13 : a0.tmps.getD 13 undef = .slice (some ⟨bs, os, none⟩) n cs) (hbs : bs < w0.heap.size) (hk : k < n) (hj : j < n) (hkj : k = j + 1) (hk9 : k ≤ 1000) (hxc : ∀ (i : Nat) (x : Value), [.string ⟨X.key.toArray⟩, .int .i64 X.val.kind, .int .i64 X.val.time, .int .i64 X.val.node, .bool X.val.dead, .string ⟨X.val.text.toArray⟩, xp, xm, .int .u64 (X.val.flags.toNat : Int)][i]? = some x → w0.cell? ⟨bs, os + j * 9 + i, none⟩ = some x) (hyc : ∀ (i : Nat) (x : Value), [.string ⟨Y.key.toArray⟩, .int .i64 Y.val.kind, .int .i64 Y.val.time, .int .i64 Y.val.node, .bool Y.val.dead, .string ⟨Y.val.text.toArray⟩, yp, ym, .int .u64 (Y.val.flags.toNat : Int)][i]? = some x → w0.cell? ⟨bs, os + k * 9 + i, none⟩ = some x) (hxp : isCells (X.val.plus.map intC) xp w0) (hxm : isCells (X.val.minus.map intC) xm w0) (hyp : isCells (Y.val.plus.map intC) yp w0) (hym : isCells (Y.val.minus.map intC) ym w0) (hz : lessE X Y = true)
    (hQ : ∀ (g : Nat → Value) (w : World), g 120 = .bool false → Below w0.heap.size w0 w → Q .normal { tmps := [110, 111, 112, 113, 114, 115, 116, 117, 118, 119, 120].foldl (fun t s => t.setIfInBounds s (g s)) a0.tmps, defers := a0.defers } w) :
    (Code.region 19 asl2Ops true).wp Try.prog Q a0 w0 := by
  refine wp_region_flow mixed (by rw [hsz]; kernel_rfl) ?_
  rw [show asl2Ops.size = 11 by kernel_rfl]
  refine ⟨isVal (.slice (some ⟨bs, os, none⟩) n cs), step_move (.tmp 13) (by kernel_rfl) (wanted_none (by kernel_rfl)) (stable_val _) (knows_old 13 (.slice (some ⟨bs, os, none⟩) n cs) (by kernel_rfl) e13), ?_⟩
  refine ⟨isVal (.int .i64 (k : Int)), step_move (.tmp 14) (by kernel_rfl) (wanted_none (by kernel_rfl)) (stable_val _) (knows_old 14 (.int .i64 (k : Int)) (by kernel_rfl) e14), ?_⟩
  refine ⟨isVal (.int .i64 (j : Int)), step_bin .sub 3 3 (.tmp 111) (.const (.int .i64 1)) (.int .i64 (k : Int)) (.int .i64 1) (.int .i64 (j : Int)) (by kernel_rfl) (wanted_none (by kernel_rfl)) (knows_new (V := isVal (.int .i64 (k : Int))) 111 1 (by kernel_rfl) (by kernel_rfl) (by kernel_rfl)) (knows_const _) (fun _ => rfl) (sub_one k j hkj (by omega)), ?_⟩
  refine ⟨isVal (.pointer (some ⟨bs, os + j * 9, none⟩)), step_placeE 22 30 (.tmp 110) (.tmp 112) bs (os) (n) (cs) (j) (os + j * 9) (by kernel_rfl) (wanted_none (by kernel_rfl)) (knows_new (V := isVal (.slice (some ⟨bs, os, none⟩) n cs)) 110 0 (by kernel_rfl) (by kernel_rfl) (by kernel_rfl)) (knows_new (V := isVal (.int .i64 (j : Int))) 112 2 (by kernel_rfl) (by kernel_rfl) (by kernel_rfl)) Try.underlying22 (by kernel_rfl) (⟨hj, rfl⟩), ?_⟩
  refine ⟨isVal (.agg #[.string ⟨X.key.toArray⟩, .int .i64 X.val.kind, .int .i64 X.val.time, .int .i64 X.val.node, .bool X.val.dead, .string ⟨X.val.text.toArray⟩, xp, xm, .int .u64 (X.val.flags.toNat : Int)]), step_loadA 30 (.tmp 113) (bs) (os + j * 9) [.string ⟨X.key.toArray⟩, .int .i64 X.val.kind, .int .i64 X.val.time, .int .i64 X.val.node, .bool X.val.dead, .string ⟨X.val.text.toArray⟩, xp, xm, .int .u64 (X.val.flags.toNat : Int)] (by kernel_rfl) (wanted_none (by kernel_rfl)) (knows_new (V := isVal (.pointer (some ⟨bs, os + j * 9, none⟩))) 113 3 (by kernel_rfl) (by kernel_rfl) (by kernel_rfl)) size_en agg_en (⟨hbs, hxc⟩), ?_⟩
  refine ⟨isVal (.slice (some ⟨bs, os, none⟩) n cs), step_move (.tmp 13) (by kernel_rfl) (wanted_none (by kernel_rfl)) (stable_val _) (knows_old 13 (.slice (some ⟨bs, os, none⟩) n cs) (by kernel_rfl) e13), ?_⟩
  refine ⟨isVal (.int .i64 (k : Int)), step_move (.tmp 14) (by kernel_rfl) (wanted_none (by kernel_rfl)) (stable_val _) (knows_old 14 (.int .i64 (k : Int)) (by kernel_rfl) e14), ?_⟩
  refine ⟨isVal (.pointer (some ⟨bs, os + k * 9, none⟩)), step_placeE 22 30 (.tmp 115) (.tmp 116) bs (os) (n) (cs) (k) (os + k * 9) (by kernel_rfl) (wanted_none (by kernel_rfl)) (knows_new (V := isVal (.slice (some ⟨bs, os, none⟩) n cs)) 115 5 (by kernel_rfl) (by kernel_rfl) (by kernel_rfl)) (knows_new (V := isVal (.int .i64 (k : Int))) 116 6 (by kernel_rfl) (by kernel_rfl) (by kernel_rfl)) Try.underlying22 (by kernel_rfl) (⟨hk, rfl⟩), ?_⟩
  refine ⟨isVal (.agg #[.string ⟨Y.key.toArray⟩, .int .i64 Y.val.kind, .int .i64 Y.val.time, .int .i64 Y.val.node, .bool Y.val.dead, .string ⟨Y.val.text.toArray⟩, yp, ym, .int .u64 (Y.val.flags.toNat : Int)]), step_loadA 30 (.tmp 117) (bs) (os + k * 9) [.string ⟨Y.key.toArray⟩, .int .i64 Y.val.kind, .int .i64 Y.val.time, .int .i64 Y.val.node, .bool Y.val.dead, .string ⟨Y.val.text.toArray⟩, yp, ym, .int .u64 (Y.val.flags.toNat : Int)] (by kernel_rfl) (wanted_none (by kernel_rfl)) (knows_new (V := isVal (.pointer (some ⟨bs, os + k * 9, none⟩))) 117 7 (by kernel_rfl) (by kernel_rfl) (by kernel_rfl)) size_en agg_en (⟨hbs, hyc⟩), ?_⟩
  refine ⟨isVal (.bool true), step_call 23 #[.tmp 114, .tmp 118] #[30, 30] #[.agg #[.string ⟨X.key.toArray⟩, .int .i64 X.val.kind, .int .i64 X.val.time, .int .i64 X.val.node, .bool X.val.dead, .string ⟨X.val.text.toArray⟩, xp, xm, .int .u64 (X.val.flags.toNat : Int)], .agg #[.string ⟨Y.key.toArray⟩, .int .i64 Y.val.kind, .int .i64 Y.val.time, .int .i64 Y.val.node, .bool Y.val.dead, .string ⟨Y.val.text.toArray⟩, yp, ym, .int .u64 (Y.val.flags.toNat : Int)]] (by kernel_rfl) (wanted_none (by kernel_rfl)) (stable_val _) (args2 (.tmp 114) (.tmp 118) (.agg #[.string ⟨X.key.toArray⟩, .int .i64 X.val.kind, .int .i64 X.val.time, .int .i64 X.val.node, .bool X.val.dead, .string ⟨X.val.text.toArray⟩, xp, xm, .int .u64 (X.val.flags.toNat : Int)]) (.agg #[.string ⟨Y.key.toArray⟩, .int .i64 Y.val.kind, .int .i64 Y.val.time, .int .i64 Y.val.node, .bool Y.val.dead, .string ⟨Y.val.text.toArray⟩, yp, ym, .int .u64 (Y.val.flags.toNat : Int)]) (knows_new (V := isVal (.agg #[.string ⟨X.key.toArray⟩, .int .i64 X.val.kind, .int .i64 X.val.time, .int .i64 X.val.node, .bool X.val.dead, .string ⟨X.val.text.toArray⟩, xp, xm, .int .u64 (X.val.flags.toNat : Int)])) 114 4 (by kernel_rfl) (by kernel_rfl) (by kernel_rfl)) (knows_new (V := isVal (.agg #[.string ⟨Y.key.toArray⟩, .int .i64 Y.val.kind, .int .i64 Y.val.time, .int .i64 Y.val.node, .bool Y.val.dead, .string ⟨Y.val.text.toArray⟩, yp, ym, .int .u64 (Y.val.flags.toNat : Int)])) 118 8 (by kernel_rfl) (by kernel_rfl) (by kernel_rfl))) (enters_of Try.func23 (by kernel_rfl) rfl) (by intro w' hb; exact less_val X Y true _ _ w' (en_mk hxp hxm hb) (en_mk hyp hym hb) hz), ?_⟩
  refine ⟨isVal (.bool false), step_un .not 4 (.tmp 119) (.bool true) (.bool false) (by kernel_rfl) (wanted_none (by kernel_rfl)) (knows_new (V := isVal (.bool true)) 119 9 (by kernel_rfl) (by kernel_rfl) (by kernel_rfl)) (fun _ => rfl), ?_⟩
  intro a w hkp hb hd
  rw [kept_of hkp [some 110, some 111, some 112, some 113, some 114, some 115, some 116, some 117, some 118, some 119, some 120] [110, 111, 112, 113, 114, 115, 116, 117, 118, 119, 120] (by kernel_rfl) (by decide)]
  have d120 := fdone_of (hd 10 (by rw [show asl2Ops.size = 11 by kernel_rfl]; decide)) (t := 120) (V := isVal (.bool false)) (by kernel_rfl) (by kernel_rfl)
  exact hQ (fun s => a.tmps.getD s undef) w d120 hb
end Go.Proofs.Ytmbnhlhanckkiaa
end
section
namespace Go.Proofs.Ytmbnhlhanckkiaa
open Go.RowKit
set_option linter.unusedVariables false
set_option linter.unusedSimpArgs false

section
variable {P : Program} {ops : Array Oper} {base : World} {a0 : Act} {Q : Exit → Act → World → Prop} {s0 : Nat} {ups : List Nat} {kn0 kn1 : Nat → VP}

/-- What is known where: ahead of operation s0, and behind it. -/
def PhaseInv (ops : Array Oper) (base : World) (s0 : Nat) (kn0 kn1 : Nat → VP) (listed : Array Bool) (a : Act) (w : World) : Prop :=
  (listed.getD s0 false = false ∧ Below base.heap.size base w ∧ ∀ j, listed.getD j false = true → FDone ops kn0 a w j) ∨
  (listed.getD s0 false = true ∧ ∃ w1, Below base.heap.size base w1 ∧ Below w1.heap.size w1 w ∧ ∀ j, listed.getD j false = true → FDone ops kn1 a w j)

theorem fdone_put {kn : Nat → VP} (hok : flowOk ops a0.tmps.size = true) {i : Nat} {o : Oper} {a : Act} {w w' : World} {v : Value} (ho : ops[i]? = some o) (hk : FKept ops a0 a) (hV : kn i v w') (hb : Below w.heap.size w w') {j : Nat} (hst : j ≠ i → Stable (kn j)) (hd : j ≠ i → FDone ops kn a w j) : FDone ops kn (a.put o.dst v) w' j := by
  obtain ⟨ok1, ok2, ok3⟩ := flowOk_spec hok
  intro o' ho' t ht
  by_cases e : j = i
  · subst e
    rw [ho] at ho'
    cases ho'
    rw [ht, getD_put_self (by rw [hk.2.1]; exact ok3 j o t ho ht)]
    exact hV
  · have hne : o.dst ≠ some t := fun hh => e (ok2 j i o' o t ho' ho ht hh)
    have hold := hd e o' ho' t ht
    have hslot : (a.put o.dst v).tmps.getD t undef = a.tmps.getD t undef := by
      cases hdst : o.dst with
      | none => rfl
      | some s => exact getD_put (fun h => hne (by rw [hdst, h]))
    rw [hslot]
    exact hst e _ _ _ hold hb
theorem kept_put {i : Nat} {o : Oper} {a : Act} {v : Value} (ho : ops[i]? = some o) (hk : FKept ops a0 a) : FKept ops a0 (a.put o.dst v) := by
  refine ⟨by rw [defers_put]; exact hk.1, by rw [size_put]; exact hk.2.1, fun t ht => ?_⟩
  cases hdst : o.dst with
  | none => simp only [Act.put]; exact hk.2.2 t ht
  | some s =>
    have : s ≠ t := by
      rintro rfl
      have := List.all_eq_true.1 ht o (by rw [Array.mem_toList_iff]; exact Array.mem_of_getElem? ho)
      rw [hdst] at this
      simp at this
    rw [getD_put (fun h => this h.symm)]
    exact hk.2.2 t ht

theorem wpAny_phase (hA : ancOk ops s0 ups = true) (hok : flowOk ops a0.tmps.size = true) (hs0 : s0 < ops.size) (hdn : (ops[s0]?).bind (·.dst) = none)
    (h0 : ∀ m, m < ops.size → m ≠ s0 → FStep P ops base a0 Q kn0 m (kn0 m)) (hst : ∀ m, Stable (kn1 m))
    (hs : ∀ o, ops[s0]? = some o → ∀ a w, FKept ops a0 a → Below base.heap.size base w → FDeps ops kn0 s0 a w → wpOp P ops Q s0 (fun a' w' => ∃ v, a' = a.put o.dst v ∧ Below base.heap.size base w' ∧
      ∀ (j : Nat) (oj : Oper) (t : Tmp), j ≠ s0 → ops[j]? = some oj → oj.dst = some t → kn0 j (a.tmps.getD t undef) w → kn1 j (a.tmps.getD t undef) w') a w)
    (h1 : ∀ w1, Below base.heap.size base w1 → ∀ m, m < ops.size → m ≠ s0 → m ∉ ups → FStep P ops w1 a0 Q kn1 m (kn1 m))
    (he : ∀ a w, FKept ops a0 a → Below base.heap.size base w → (∀ j, j < ops.size → FDone ops kn1 a w j) → Q .normal a w) :
    ∀ (fuel : Nat) (listed : Array Bool) (a : Act) (w : World), listed.size = ops.size → ((List.range ops.size).filter fun i => !listed.getD i false).length ≤ fuel → FKept ops a0 a →
      (∀ j, listed.getD j false = true → ∀ m, waits ops j m = true → listed.getD m false = true) → PhaseInv ops base s0 kn0 kn1 listed a w → wpAny P .any ops Q fuel listed a w := by
  obtain ⟨ok1, ok2, ok3⟩ := flowOk_spec hok
  have allDone : ∀ (listed : Array Bool), listed.size = ops.size → Region.ready .any ops listed = [] → ∀ j, j < ops.size → listed.getD j false = true := by
    intro listed hl hr
    have key : ∀ m, ∀ j, j ≤ m → j < ops.size → listed.getD j false = true := by
      intro m
      induction m with
      | zero =>
        intro j hj hjs
        obtain rfl : j = 0 := by omega
        cases hc : listed.getD 0 false with
        | true => rfl
        | false => have := ready_of hok hl hjs hc (fun j hj => absurd hj (by omega)); rw [hr] at this; cases this
      | succ m ih =>
        intro j hj hjs
        by_cases e : j ≤ m
        · exact ih j e hjs
        · obtain rfl : j = m + 1 := by omega
          cases hc : listed.getD (m + 1) false with
          | true => rfl
          | false => have := ready_of hok hl hjs hc (fun j hj => ih j (by omega) (by omega)); rw [hr] at this; cases this
    exact fun j hj => key j j (Nat.le_refl _) hj
  have fin : ∀ (listed : Array Bool) (a : Act) (w : World), listed.size = ops.size → FKept ops a0 a → PhaseInv ops base s0 kn0 kn1 listed a w → Region.ready .any ops listed = [] → Q .normal a w := by
    intro listed a w hl hk hi hr
    have hall := allDone listed hl hr
    rcases hi with ⟨h, _⟩ | ⟨_, w1, hb1, hb2, hd⟩
    · rw [hall s0 hs0] at h; cases h
    · exact he a w hk (hb1.trans (hb2.mono hb1.size)) (fun j hj => hd j (hall j hj))
  intro fuel
  induction fuel with
  | zero =>
    intro listed a w hl hf hk hcl hi
    have hr : Region.ready .any ops listed = [] := by
      cases hc : Region.ready .any ops listed with
      | nil => rfl
      | cons i r =>
        have hu := ready_un (i := i) hl (by rw [hc]; simp)
        have h0 : ((List.range ops.size).filter fun i => !listed.getD i false) = [] := List.eq_nil_of_length_eq_zero (by omega)
        rw [List.filter_eq_nil_iff] at h0
        have := h0 i (by simpa using hu.1)
        rw [hu.2] at this
        simp at this
    exact ⟨hr, fin listed a w hl hk hi hr⟩
  | succ fuel ih =>
    intro listed a w hl hf hk hcl hi
    refine ⟨fun hr => fin listed a w hl hk hi hr, fun i hir => ?_⟩
    have hiu := ready_un hl hir
    obtain ⟨o, ho⟩ : ∃ o, ops[i]? = some o := ⟨_, Array.getElem?_eq_getElem hiu.1⟩
    have hlt : i < listed.size := by omega
    have deps : ∀ (kn : Nat → VP), (∀ j, listed.getD j false = true → FDone ops kn a w j) → FDeps ops kn i a w := by
      intro kn hd o' ho' e he' hbd
      rw [ho] at ho'
      cases ho'
      refine hd e.on (waits_ready hir ?_)
      unfold waits
      rw [ho]
      simp only [Option.any_some, List.any_eq_true, Bool.and_eq_true, beq_iff_eq]
      exact ⟨e, he', rfl, hbd⟩
    have count : ((List.range ops.size).filter fun j => !(listed.setIfInBounds i true).getD j false).length ≤ fuel := by
      have hsub : ((List.range ops.size).filter fun j => !(listed.setIfInBounds i true).getD j false).length < ((List.range ops.size).filter fun j => !listed.getD j false).length := by
        have e1 : ((List.range ops.size).filter fun j => !(listed.setIfInBounds i true).getD j false) = ((List.range ops.size).filter fun j => !listed.getD j false).filter (fun j => j != i) := by
          rw [List.filter_filter]
          apply List.filter_congr
          intro j hj
          by_cases e : j = i
          · subst e; rw [getD_set_same (by omega)]; simp
          · rw [getD_set_ne e]; simp [e]
        rw [e1]
        refine List.length_filter_lt_length_iff_exists.2 ⟨i, ?_, by simp⟩
        simp only [List.mem_filter, List.mem_range]
        exact ⟨hiu.1, by rw [hiu.2]; rfl⟩
      omega
    have closed : ∀ j, (listed.setIfInBounds i true).getD j false = true → ∀ m, waits ops j m = true → (listed.setIfInBounds i true).getD m false = true := by
      intro j hj m' hm'
      by_cases e4 : m' = i
      · subst e4; exact getD_set_same (by omega)
      · rw [getD_set_ne e4]
        by_cases e5 : j = i
        · subst e5; exact waits_ready hir hm'
        · rw [getD_set_ne e5] at hj; exact hcl j hj m' hm'
    have next : ∀ a' w', FKept ops a0 a' → PhaseInv ops base s0 kn0 kn1 (listed.setIfInBounds i true) a' w' → wpAny P .any ops Q fuel (listed.setIfInBounds i true) a' w' := fun a' w' hk' hi' => ih _ a' w' (by simpa using hl) count hk' closed hi'
    by_cases e : i = s0
    · subst e
      rcases hi with ⟨hp, hb, hd⟩ | ⟨hp, _⟩
      · refine wpOp_mono ?_ (hs o ho a w hk hb (deps kn0 hd))
        rintro a' w' ⟨v, rfl, hbw, hj⟩
        refine next _ w' (kept_put ho hk) (.inr ⟨getD_set_same (by omega), w', hbw, Below.refl _ _, fun j hjl => ?_⟩)
        have hno : o.dst = none := by rw [ho] at hdn; simpa using hdn
        intro o' ho' t ht
        by_cases ej : j = i
        · subst ej; rw [ho] at ho'; cases ho'; rw [hno] at ht; cases ht
        · rw [getD_set_ne ej] at hjl
          have := hj j o' t ej ho' ht (hd j hjl o' ho' t ht)
          rw [hno]
          exact this
      · rw [hiu.2] at hp; cases hp
    · have es : (listed.setIfInBounds i true).getD s0 false = listed.getD s0 false := getD_set_ne (fun h => e h.symm)
      rcases hi with ⟨hp, hb, hd⟩ | ⟨hp, w1, hb1, hb2, hd⟩
      · refine wpOp_mono ?_ ((h0 i hiu.1 e).2 o ho a w hk hb (deps kn0 hd))
        rintro a' w' ⟨v, rfl, hV, hbw⟩
        refine next _ w' (kept_put ho hk) (.inl ⟨by rw [es]; exact hp, hb.trans (hbw.mono hb.size), fun j hj => ?_⟩)
        refine fdone_put hok ho hk hV hbw (fun ej => ?_) (fun ej => ?_)
        · have hj' : listed.getD j false = true := by rwa [getD_set_ne ej] at hj
          have hne : j ≠ s0 := by rintro rfl; rw [hp] at hj'; cases hj'
          have hjs : j < ops.size := by
            by_cases h : j < ops.size
            · exact h
            · rw [Array.getD_eq_getD_getElem?, Array.getElem?_eq_none (by omega)] at hj'; cases hj'
          exact (h0 j hjs hne).1
        · exact hd j (by rwa [getD_set_ne ej] at hj)
      · have hnu : i ∉ ups := fun hu => by rw [unlisted hA hcl hiu.2 (.inr hu)] at hp; cases hp
        refine wpOp_mono ?_ ((h1 w1 hb1 i hiu.1 e hnu).2 o ho a w hk hb2 (deps kn1 hd))
        rintro a' w' ⟨v, rfl, hV, hbw⟩
        exact next _ w' (kept_put ho hk) (.inr ⟨by rw [es]; exact hp, w1, hb1, hb2.trans (hbw.mono hb2.size), fun j hj => fdone_put hok ho hk hV hbw (fun _ => hst j) (fun ej => hd j (by rwa [getD_set_ne ej] at hj))⟩)

/-- THE LAW. -/
theorem wp_region_phase {id : Nat} {a : Act} {w : World} (s0 : Nat) (ups : List Nat) (kn0 kn1 : Nat → VP) (hm : P.follows .mixedOrders = true) (hA : ancOk ops s0 ups = true) (hok : flowOk ops a.tmps.size = true) (hs0 : s0 < ops.size) (hdn : (ops[s0]?).bind (·.dst) = none)
    (h0 : ∀ m, m < ops.size → m ≠ s0 → FStep P ops w a Q kn0 m (kn0 m)) (hst : ∀ m, Stable (kn1 m))
    (hs : ∀ o, ops[s0]? = some o → ∀ a' w', FKept ops a a' → Below w.heap.size w w' → FDeps ops kn0 s0 a' w' → wpOp P ops Q s0 (fun a2 w2 => ∃ v, a2 = a'.put o.dst v ∧ Below w.heap.size w w2 ∧
      ∀ (j : Nat) (oj : Oper) (t : Tmp), j ≠ s0 → ops[j]? = some oj → oj.dst = some t → kn0 j (a'.tmps.getD t undef) w' → kn1 j (a'.tmps.getD t undef) w2) a' w')
    (h1 : ∀ w1, Below w.heap.size w w1 → ∀ m, m < ops.size → m ≠ s0 → m ∉ ups → FStep P ops w1 a Q kn1 m (kn1 m))
    (he : ∀ a' w', FKept ops a a' → Below w.heap.size w w' → (∀ j, j < ops.size → FDone ops kn1 a' w' j) → Q .normal a' w') : (Code.region id ops true).wp P Q a w := by
  refine wp_region_any hm ?_
  refine wpAny_phase hA hok hs0 hdn h0 hst hs h1 he ops.size _ a _ (by simp) ?_ ⟨rfl, rfl, fun _ _ => rfl⟩ ?_ (.inl ⟨?_, (Below.refl _ w).drew, ?_⟩)
  · exact Nat.le_trans (List.length_filter_le _ _) (by simp)
  · intro j hj
    simp [Array.getD_eq_getD_getElem?, Array.getElem?_replicate] at hj
    split at hj <;> simp at hj
  · simp [Array.getD_eq_getD_getElem?, Array.getElem?_replicate]
    split <;> simp
  · intro j hj
    simp [Array.getD_eq_getD_getElem?, Array.getElem?_replicate] at hj
    split at hj <;> simp at hj
end
end Go.Proofs.Ytmbnhlhanckkiaa
end
section
namespace Go.Proofs.Ytmbnhlhanckkiaa
open Go.RowKit
set_option linter.unusedVariables false
set_option linter.unusedSimpArgs false

def anyV : VP := fun _ _ => True
theorem stable_any : Stable anyV := fun _ _ _ _ _ => trivial
/-- A new variable of type T, as it was laid down. -/
def isNewS (T : TypeId) (z : List Value) (B : Nat) : VP := fun v w => ∃ g, v = .pointer (some ⟨g, 0, none⟩) ∧ B ≤ g ∧ w.heap[g]? = some (.cells z.toArray T (0, 0))
theorem stable_newS (T : TypeId) (z : List Value) (B : Nat) : Stable (isNewS T z B) := fun v w w' ⟨g, e, hg, hc⟩ hb => ⟨g, e, hg, (hb.block g (Array.getElem?_eq_some_iff.1 hc).1).trans hc⟩
theorem cellsN_of {w : World} {g : Nat} {z : List Value} {T : TypeId} (h : w.heap[g]? = some (.cells z.toArray T (0, 0))) : CellsN w g z ∧ Free5 w g := by
  refine ⟨⟨(Array.getElem?_eq_some_iff.1 h).1, fun j x hx => ?_⟩, fun j => ?_⟩
  · simp [World.cell?, h, hx]
  · simp [World.frozen?, h]
def isTup2 (K : VP) (e : Value) : VP := fun v w => ∃ x, v = .tuple #[x, e] ∧ K x w
def isTup3 (K : VP) (e f : Value) : VP := fun v w => ∃ x, v = .tuple #[x, e, f] ∧ K x w
theorem stable_tup2 {K : VP} (h : Stable K) (e : Value) : Stable (isTup2 K e) := fun v w w' ⟨x, e1, hx⟩ hb => ⟨x, e1, h _ _ _ hx hb⟩
theorem stable_tup3 {K : VP} (h : Stable K) (e f : Value) : Stable (isTup3 K e f) := fun v w w' ⟨x, e1, hx⟩ hb => ⟨x, e1, h _ _ _ hx hb⟩
section
variable {P : Program} {ops : Array Oper} {base : World} {a0 : Act} {Q : Exit → Act → World → Prop} {kn : Nat → VP} {i : Nat} {K : VP}
theorem step_ext20 (e : Value) (x : Operand) (hst : Stable K) (hop : (ops[i]?).map (·.op) = some (.extract x 0)) (hw : Wanted ops a0 kn i) (hx : Knows ops a0 kn i x (isTup2 K e)) : FStep P ops base a0 Q kn i K :=
  step_mk hst hw fun o ho a w hk hb hd => by
    obtain ⟨v, e1, hv⟩ := hx a w hk hd
    unfold Oper.wp execOp
    rw [op_of hop ho]
    simp only [e1]
    exact ⟨v, rfl, hv, Below.refl _ _⟩
theorem step_ext21 (e : Value) (x : Operand) (hop : (ops[i]?).map (·.op) = some (.extract x 1)) (hw : Wanted ops a0 kn i) (hx : Knows ops a0 kn i x (isTup2 K e)) : FStep P ops base a0 Q kn i (isVal e) :=
  step_mk (stable_val _) hw fun o ho a w hk hb hd => by
    obtain ⟨v, e1, hv⟩ := hx a w hk hd
    unfold Oper.wp execOp
    rw [op_of hop ho]
    simp only [e1]
    exact ⟨_, rfl, rfl, Below.refl _ _⟩
theorem step_ext30 (e f : Value) (x : Operand) (hst : Stable K) (hop : (ops[i]?).map (·.op) = some (.extract x 0)) (hw : Wanted ops a0 kn i) (hx : Knows ops a0 kn i x (isTup3 K e f)) : FStep P ops base a0 Q kn i K :=
  step_mk hst hw fun o ho a w hk hb hd => by
    obtain ⟨v, e1, hv⟩ := hx a w hk hd
    unfold Oper.wp execOp
    rw [op_of hop ho]
    simp only [e1]
    exact ⟨v, rfl, hv, Below.refl _ _⟩
theorem step_ext31 (e f : Value) (x : Operand) (hop : (ops[i]?).map (·.op) = some (.extract x 1)) (hw : Wanted ops a0 kn i) (hx : Knows ops a0 kn i x (isTup3 K e f)) : FStep P ops base a0 Q kn i (isVal e) :=
  step_mk (stable_val _) hw fun o ho a w hk hb hd => by
    obtain ⟨v, e1, hv⟩ := hx a w hk hd
    unfold Oper.wp execOp
    rw [op_of hop ho]
    simp only [e1]
    exact ⟨_, rfl, rfl, Below.refl _ _⟩
theorem step_ext32 (e f : Value) (x : Operand) (hop : (ops[i]?).map (·.op) = some (.extract x 2)) (hw : Wanted ops a0 kn i) (hx : Knows ops a0 kn i x (isTup3 K e f)) : FStep P ops base a0 Q kn i (isVal f) :=
  step_mk (stable_val _) hw fun o ho a w hk hb hd => by
    obtain ⟨v, e1, hv⟩ := hx a w hk hd
    unfold Oper.wp execOp
    rw [op_of hop ho]
    simp only [e1]
    exact ⟨_, rfl, rfl, Below.refl _ _⟩
theorem step_movP (x : Operand) (hst : Stable K) (hop : (ops[i]?).map (·.op) = some (.move x)) (hw : Wanted ops a0 kn i) (hx : Knows ops a0 kn i x K) : FStep P ops base a0 Q kn i K := step_move x hop hw hst hx
theorem step_asgP (x : Operand) (hst : Stable K) (hop : (ops[i]?).map (·.op) = some (.assign x)) (hw : Wanted ops a0 kn i) (hx : Knows ops a0 kn i x K) : FStep P ops base a0 Q kn i K := step_assign x hop hw hst hx
theorem step_newS (T : TypeId) (z : List Value) (B : Nat) (hB : B ≤ base.heap.size) (hop : (ops[i]?).map (·.op) = some (.alloc T)) (hw : Wanted ops a0 kn i)
    (hz : ∀ w, (Instr.alloc T true (.tuple #[])).run P w = .ok (.pointer (some ⟨w.heap.size, 0, none⟩)) (w.alloc (.cells z.toArray T))) : FStep P ops base a0 Q kn i (isNewS T z B) :=
  step_mk (stable_newS T z B) hw fun o ho a w hk hb hd => by
    unfold Oper.wp execOp
    rw [op_of hop ho]
    simp only [Sem.run_bind, hz, Result.andThen_ok, Sem.run_pure, Oper.upon]
    refine ⟨_, rfl, ⟨w.heap.size, rfl, Nat.le_trans hB hb.size, ?_⟩, (Below.refl _ _).alloc (Nat.le_refl _) _⟩
    exact heap_alloc_new w _
end
section
variable {P : Program} {ops : Array Oper} {base : World} {a0 : Act} {Q : Exit → Act → World → Prop} {s0 : Nat} {kn0 kn1 : Nat → VP}
/-- The store into it. -/
theorem phase_store (T : TypeId) (p y : Tmp) (z : List Value) (K : VP) (pj : Nat) (hop : (ops[s0]?).map (fun o => (o.op, o.guard, o.dst)) = some (.store T (.tmp p) (.tmp y), none, none))
    (hx : Knows ops a0 kn0 s0 (.tmp p) (isNewS T z base.heap.size)) (hy : Knows ops a0 kn0 s0 (.tmp y) K) (hK : ∀ v w, K v w → ∃ l : List Value, v = .agg l.toArray ∧ l.length = z.length ∧ Ones l) (hs : (P.info? T).map (·.size) = some z.length)
    (hpj : (ops[pj]?).bind (·.dst) = some p) (htr : ∀ j, j ≠ s0 → j ≠ pj → ∀ v w w', kn0 j v w → kn1 j v w')
    (hnew : ∀ g (l : List Value) w, base.heap.size ≤ g → w.heap[g]? = some (.cells z.toArray T (0, 0)) → K (.agg l.toArray) w → l.length = z.length → kn1 pj (.pointer (some ⟨g, 0, none⟩)) (setN w g 0 l)) :
    ∀ o, ops[s0]? = some o → ∀ a w, FKept ops a0 a → Below base.heap.size base w → FDeps ops kn0 s0 a w → wpOp P ops Q s0 (fun a2 w2 => ∃ v, a2 = a.put o.dst v ∧ Below base.heap.size base w2 ∧
      ∀ (j : Nat) (oj : Oper) (t : Tmp), j ≠ s0 → ops[j]? = some oj → oj.dst = some t → kn0 j (a.tmps.getD t undef) w → kn1 j (a.tmps.getD t undef) w2) a w := by
  intro o ho a w hk hb hd
  rw [ho] at hop
  simp only [Option.map_some, Option.some.injEq, Prod.mk.injEq] at hop
  obtain ⟨hop, hgd, hdst⟩ := hop
  obtain ⟨g, e1, hg, hc⟩ := hx a w hk hd
  have hy' := hy a w hk hd
  obtain ⟨l, e2, hl, h1⟩ := hK _ _ hy'
  obtain ⟨k1, k2⟩ := cellsN_of hc
  unfold wpOp
  simp only [ho]
  rw [show Region.wanted o (yielded ops a.tmps) = true by simp [Region.wanted, hgd]]
  refine .inl ?_
  unfold Oper.wp execOp
  rw [hop]
  simp only [e1, e2, Sem.run_bind, storeN T g w z l (by rw [hs, hl]) k1 hl.symm k2 h1, Result.andThen_ok, Sem.run_pure, Oper.upon]
  refine ⟨undef, rfl, below_setN hg l 0 _ hb, fun j oj t hj hoj ht hkn => ?_⟩
  by_cases e : j = pj
  · subst e
    rw [hoj] at hpj
    simp only [Option.bind_some] at hpj
    rw [hpj] at ht
    injection ht with ht
    subst ht
    have e1' : a.tmps.getD p undef = .pointer (some ⟨g, 0, none⟩) := e1
    rw [e1']
    rw [e2] at hy'
    exact hnew g l w hg hc hy' hl
  · exact htr j hj e _ _ _ hkn
end
end Go.Proofs.Ytmbnhlhanckkiaa
end
section
namespace Go.Proofs.Ytmbnhlhanckkiaa
open Go.RowKit
set_option linter.unusedVariables false
set_option linter.unusedSimpArgs false

theorem ok_rows {v : Va} (h : okV v = true) : (v.plus = [] ∨ v.plus.length = 8) ∧ (v.minus = [] ∨ v.minus.length = 8) := by
  have hk : v.kind = 1 ∨ v.kind = 2 ∨ v.kind = 3 := ok_kind h
  rcases hk with hk | hk | hk
  · have e := (ok_reg h hk).2
    exact ⟨.inl (congrArg Va.plus e), .inl (congrArg Va.minus e)⟩
  · have e := (ok_count h hk).1
    unfold inCount okRow at e
    simp only [Bool.and_eq_true, decide_eq_true_eq, beq_iff_eq] at e
    exact ⟨.inr e.1.1, .inr e.2.1⟩
  · have e := ok_flags h hk
    exact ⟨.inl (congrArg Va.plus e), .inl (congrArg Va.minus e)⟩
theorem alloc_en (w : World) : (Instr.alloc 30 true (.tuple #[])).run Try.prog w = .ok (.pointer (some ⟨w.heap.size, 0, none⟩)) (w.alloc (.cells ([.string ⟨#[]⟩, .int .i64 0, .int .i64 0, .int .i64 0, .bool false, .string ⟨#[]⟩, .slice none 0 0, .slice none 0 0, .int .u64 0] : List Value).toArray 30)) := by
  have hz : (Try.prog.info? 30).map (·.zero) = some (some (.agg ([.string ⟨#[]⟩, .int .i64 0, .int .i64 0, .int .i64 0, .bool false, .string ⟨#[]⟩, .slice none 0 0, .slice none 0 0, .int .u64 0] : List Value).toArray)) := by kernel_rfl
  obtain ⟨ie, hie, hz⟩ := Option.map_eq_some_iff.1 hz
  simp [Instr.alloc, zeroValue, typeInfo, hie, hz, newVar, newRow, newObj, Value.cells]
  rfl
theorem alloc_ar (w : World) : (Instr.alloc 25 true (.tuple #[])).run Try.prog w = .ok (.pointer (some ⟨w.heap.size, 0, none⟩)) (w.alloc (.cells ([.int .i64 0, .slice none 0 0, .slice none 0 0] : List Value).toArray 25)) := by
  have hz : (Try.prog.info? 25).map (·.zero) = some (some (.agg ([.int .i64 0, .slice none 0 0, .slice none 0 0] : List Value).toArray)) := by kernel_rfl
  obtain ⟨ie, hie, hz⟩ := Option.map_eq_some_iff.1 hz
  simp [Instr.alloc, zeroValue, typeInfo, hie, hz, newVar, newRow, newObj, Value.cells]
  rfl
/-- A row of eight numbers stands in no new entry, and in no block of three cells. -/
theorem row_apart9 {l : List Int} {v : Value} {w : World} (h : isCells (l.map intC) v w) (hl : l = [] ∨ l.length = 8) {g : Nat} (hg : w.heap[g]? = some (.cells ([.string ⟨#[]⟩, .int .i64 0, .int .i64 0, .int .i64 0, .bool false, .string ⟨#[]⟩, .slice none 0 0, .slice none 0 0, .int .u64 0] : List Value).toArray 30 (0, 0))) : l.map intC = [] ∨ blk v ≠ some g := by
  rcases hl with rfl | hl
  · exact .inl rfl
  · refine .inr (fun e => ?_)
    rcases h with ⟨rfl, _⟩ | ⟨a, cap, rfl, h0⟩ | ⟨b, off, cap, rfl, hlt, hc⟩
    · cases e
    · have := congrArg List.length h0; rw [List.length_map, hl] at this; simp at this
    · have hbg : b = g := by injection e
      subst hbg
      have key : ∀ j, j < 8 → ∃ x : Int, w.cell? ⟨b, off + j, none⟩ = some (.int .i64 x) := by
        intro j hj
        refine ⟨l[j]'(by omega), hc j _ ?_⟩
        rw [List.getElem?_map, List.getElem?_eq_getElem (by omega)]; rfl
      have e7 := key 7 (by omega)
      have hoff : off ≤ 1 := by
        obtain ⟨x, hx⟩ := e7
        rw [World.cell?, hg] at hx
        by_cases h9 : off + 7 < 9
        · omega
        · simp [List.getElem?_eq_none (show ([.string ⟨#[]⟩, .int .i64 0, .int .i64 0, .int .i64 0, .bool false, .string ⟨#[]⟩, .slice none 0 0, .slice none 0 0, .int .u64 0] : List Value).length ≤ off + 7 by simp; omega)] at hx
      have h01 : off = 0 ∨ off = 1 := by omega
      rcases h01 with rfl | rfl
      · obtain ⟨x, hx⟩ := key 4 (by omega)
        simp [World.cell?, hg] at hx
      · obtain ⟨x, hx⟩ := key 3 (by omega)
        simp [World.cell?, hg] at hx
theorem row_apart3 {l : List Int} {v : Value} {w : World} (h : isCells (l.map intC) v w) (hl : l = [] ∨ l.length = 8) {g : Nat} {z : List Value} {T : TypeId} (hz : z.length = 3) (hg : w.heap[g]? = some (.cells z.toArray T (0, 0))) : l.map intC = [] ∨ blk v ≠ some g := by
  rcases hl with rfl | hl
  · exact .inl rfl
  · refine .inr (fun e => ?_)
    rcases h with ⟨rfl, _⟩ | ⟨a, cap, rfl, h0⟩ | ⟨b, off, cap, rfl, hlt, hc⟩
    · cases e
    · have := congrArg List.length h0; rw [List.length_map, hl] at this; simp at this
    · have hbg : b = g := by injection e
      subst hbg
      have hx := hc 7 (intC (l[7]'(by omega))) (by rw [List.getElem?_map, List.getElem?_eq_getElem (by omega)]; rfl)
      rw [World.cell?, hg] at hx
      simp [List.getElem?_eq_none (show z.length ≤ off + 7 by omega)] at hx
theorem setN_bt (b : Nat) : ∀ (l : List Value) (k : Nat) (w : World), Bt (fun x => x = b) w (setN w b k l) := by
  intro l
  induction l with
  | nil => intro k w; exact ⟨rfl, rfl, rfl, Nat.le_refl _, fun _ _ _ => rfl⟩
  | cons v r ih => intro k w; rw [setN]; exact (bt_set (S := fun x => x = b) b k v w rfl).trans (ih (k + 1) _)
theorem isEn_list {J : En} {v : Value} {w : World} (h : isEn J v w) : ∃ l : List Value, v = .agg l.toArray ∧ l.length = ([.string ⟨#[]⟩, .int .i64 0, .int .i64 0, .int .i64 0, .bool false, .string ⟨#[]⟩, .slice none 0 0, .slice none 0 0, .int .u64 0] : List Value).length ∧ Ones l := by
  obtain ⟨vp, vm, rfl, hp, hm⟩ := h
  exact ⟨[.string ⟨J.key.toArray⟩, .int .i64 J.val.kind, .int .i64 J.val.time, .int .i64 J.val.node, .bool J.val.dead, .string ⟨J.val.text.toArray⟩, vp, vm, .int .u64 (J.val.flags.toNat : Int)], rfl, rfl, rfl, rfl, rfl, rfl, rfl, rfl, hp.one, hm.one, rfl, trivial⟩
/-- The new variable holds it. -/
theorem en_laid {J : En} (hJ : okE J = true) {g : Nat} {l : List Value} {w : World} (hg : w.heap[g]? = some (.cells ([.string ⟨#[]⟩, .int .i64 0, .int .i64 0, .int .i64 0, .bool false, .string ⟨#[]⟩, .slice none 0 0, .slice none 0 0, .int .u64 0] : List Value).toArray 30 (0, 0))) (h : isEn J (.agg l.toArray) w) : VarN (setN w g 0 l) g J := by
  obtain ⟨vp, vm, e, hp, hm⟩ := h
  injection e with e
  injection e with e
  subst e
  obtain ⟨r1, r2⟩ := ok_rows (okE_val hJ)
  have bt := setN_bt g [.string ⟨J.key.toArray⟩, .int .i64 J.val.kind, .int .i64 J.val.time, .int .i64 J.val.node, .bool J.val.dead, .string ⟨J.val.text.toArray⟩, vp, vm, .int .u64 (J.val.flags.toNat : Int)] 0 w
  refine ⟨vp, vm, (cellsN_of hg).1.setN_ _ rfl, bt.cells hp ((row_apart9 hp r1 hg).imp id (fun h b hb e => h (by rw [hb, e]))), bt.cells hm ((row_apart9 hm r2 hg).imp id (fun h b hb e => h (by rw [hb, e])))⟩
/-- An arena whose rows are of their types. -/
def isArT (N : Nat) (A : Ar) : VP := fun v w => ∃ vs vi ps, v = .agg #[.int .i64 A.cap, vs, vi] ∧ w.ownsRow N 30 9 vs ps.length (flatE ps) ∧ ps.map (·.1) = A.slots ∧ w.ownsRow N 3 1 vi A.index.length (A.index.map intC) ∧ RowsOk ps w
theorem stable_arT (N : Nat) (A : Ar) : Stable (isArT N A) := fun v w w' ⟨vs, vi, ps, e, h1, h2, h3, h4⟩ hb => ⟨vs, vi, ps, e, own_grow h1 hb, h2, own_grow h3 hb, fun q hq => ⟨stable_cells _ _ _ _ (h4 q hq).1 hb, stable_cells _ _ _ _ (h4 q hq).2 hb⟩⟩
theorem isArT.ar {N : Nat} {A : Ar} {v : Value} {w : World} (h : isArT N A v w) : isAr A v w := by
  obtain ⟨vs, vi, ps, rfl, h1, h2, h3, h4⟩ := h
  refine ⟨vs, vi, rfl, by rw [← h2]; exact own_ens h1 h4, isOwn.cells (B := N) (e := 3) ?_⟩
  unfold isOwn
  rw [List.length_map]
  exact h3
theorem ChA.arT_set {B : Nat} {w : World} {g : Nat} {A : Ar} {vs vi : Value} {ps : List (En × Value × Value)} (h : ChA B w g A vs vi ps) {b N : Nat} (hb : b < B) (hN : N ≤ B) (k : Nat) (l : List Value) : isArT N A (.agg #[.int .i64 A.cap, vs, vi]) (setN w b k l) := by
  have bt := setN_bt b l k w
  have hw : ∀ x, B ≤ x → ¬ x = b := fun x hx e => by omega
  exact ⟨vs, vi, ps, rfl, own_low (bt.own h.own (fun x hx => hw x (h.own.lt x hx).1)) hN, h.sl, own_low (bt.own h.idx (fun x hx => hw x (h.idx.lt x hx).1)) hN, fun q hq => ⟨bt.cells (h.rows q hq).1 (.inr (fun x hx => hw x ((h.nw q hq).1 x hx))), bt.cells (h.rows q hq).2 (.inr (fun x hx => hw x ((h.nw q hq).2 x hx)))⟩⟩
theorem isArT_list {N : Nat} {A : Ar} {v : Value} {w : World} (h : isArT N A v w) : ∃ l : List Value, v = .agg l.toArray ∧ l.length = ([.int .i64 0, .slice none 0 0, .slice none 0 0] : List Value).length ∧ Ones l := by
  obtain ⟨vs, vi, ps, rfl, h1, h2, h3, h4⟩ := h
  exact ⟨_, rfl, rfl, rfl, (own_one h1).2, (own_one h3).2, trivial⟩
theorem own_type {B : Nat} {w : World} {e T : TypeId} {size : Nat} {v : Value} {n : Nat} {xs : List Value} (h : w.ownsRow B e size v n xs) {g : Nat} {z : Array Value} (hg : w.heap[g]? = some (.cells z T (0, 0))) (hne : e ≠ T) : ∀ b, v.ownBlock = some b → ¬ b = g := by
  rintro b hb rfl
  obtain ⟨_, ⟨rfl, _⟩ | ⟨g', cap, cur, rfl, _, hg', _⟩⟩ := h
  · cases hb
  · have : g' = b := by injection hb
    subst this
    rw [hg] at hg'
    injection hg' with hg'
    injection hg' with _ h2 _
    exact hne h2.symm
theorem ar_laid {N : Nat} {A : Ar} (hA : OkA A) {g : Nat} {l : List Value} {w : World} (hg : w.heap[g]? = some (.cells ([.int .i64 0, .slice none 0 0, .slice none 0 0] : List Value).toArray 25 (0, 0))) (h : isArT N A (.agg l.toArray) w) : VarA (setN w g 0 l) g A := by
  obtain ⟨vs, vi, ps, e, h1, h2, h3, h4⟩ := h
  injection e with e
  injection e with e
  subst e
  have bt := setN_bt g [.int .i64 A.cap, vs, vi] 0 w
  have key : isArT N A (.agg #[.int .i64 A.cap, vs, vi]) (setN w g 0 [.int .i64 A.cap, vs, vi]) := by
    refine ⟨vs, vi, ps, rfl, bt.own h1 (own_type h1 hg (by decide)), h2, bt.own h3 (own_type h3 hg (by decide)), fun q hq => ?_⟩
    have hq1 : okE q.1 = true := hA.ents _ (by rw [← h2]; exact List.mem_map.2 ⟨q, hq, rfl⟩)
    obtain ⟨r1, r2⟩ := ok_rows (okE_val hq1)
    exact ⟨bt.cells (h4 q hq).1 ((row_apart3 (h4 q hq).1 r1 rfl hg).imp id (fun h b hb e => h (by rw [hb, e]))), bt.cells (h4 q hq).2 ((row_apart3 (h4 q hq).2 r2 rfl hg).imp id (fun h b hb e => h (by rw [hb, e])))⟩
  obtain ⟨vs', vi', e', hs, hi⟩ := key.ar
  injection e' with e'
  simp only [Array.mk.injEq, List.cons.injEq, and_true, true_and] at e'
  obtain ⟨rfl, rfl⟩ := e'
  exact ⟨vs, vi, (cellsN_of hg).1.setN_ _ rfl, hs, hi⟩
end Go.Proofs.Ytmbnhlhanckkiaa
end
