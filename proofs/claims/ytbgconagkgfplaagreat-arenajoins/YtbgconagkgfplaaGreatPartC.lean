/- Joined texts: contracts of the program's functions, and the mathematics that they lean on. -/
import Derived.Test.YtbgconagkgfplaaGreatPartB
import Derived.Maps.AppendAt
section
namespace Go.Proofs.YtbgconagkgfplaaGreat
set_option linter.unusedVariables false
set_option linter.unusedSimpArgs false

structure Ar where
  cap : Int
  slots : List En
  index : List Int
  deriving DecidableEq

def zeroA : Ar := ⟨0, [], []⟩
def roomB (n : Int) : Bool := decide (1 ≤ n) && decide (n ≤ 8)
def slotAt (l : List En) (p : Int) : En := (l[p.toNat]?).getD zeroE
def ordA (A : Ar) : List En := A.index.map (slotAt A.slots)
def Asc (l : List En) : Prop := l.Pairwise (fun a b => lessE a b = true)
instance (l : List En) : Decidable (Asc l) := by unfold Asc; infer_instance
def idxB (l : List En) (idx : List Int) : Bool := decide (idx.length = l.length) && (idx.all (fun p => decide (0 ≤ p) && decide (p < l.length)) && decide (Asc (idx.map (slotAt l))))
def okA (A : Ar) : Bool := roomB A.cap && (decide ((A.slots.length : Int) ≤ A.cap) && (A.slots.all okE && idxB A.slots A.index))
def chkA (A : Ar) : Int := if okA A = true then 0 else 2
def posN (l : List En) (x : En) : Nat := l.countP (fun y => lessE y x)
def hitB (l : List En) (x : En) : Bool := match l[posN l x]? with | some y => nameB y x | none => false
def placeI (A : Ar) (x : En) : Int := (A.index[posN (ordA A) x]?).getD 0
def nameE (kind : Int) (key : List UInt8) : En := ⟨key, ⟨kind, 0, 0, false, [], [], [], 0⟩⟩
def findI (A : Ar) (x : En) : Int := if okA A = true then (if hitB (ordA A) x = true then placeI A x else -1) else -1
def meetL (A : Ar) (x : En) : List En := A.slots.set (placeI A x).toNat (joinEF (slotAt A.slots (placeI A x)) x)
def putIdx (A : Ar) (x : En) : List Int := A.index.take (posN (ordA A) x) ++ ((A.slots.length : Int) :: A.index.drop (posN (ordA A) x))
def joinAE (A : Ar) (x : En) : Int :=
  if (okA A && okE x) = true then (if hitB (ordA A) x = true then 0 else if (A.slots.length : Int) = A.cap then 4 else 0) else 2
def joinAB (A : Ar) (x : En) : Bool :=
  if (okA A && okE x) = true then (if hitB (ordA A) x = true then !decide (slotAt A.slots (placeI A x) = joinEF (slotAt A.slots (placeI A x)) x) else if (A.slots.length : Int) = A.cap then false else true) else false
def joinAF (A : Ar) (x : En) : Ar :=
  if (okA A && okE x) = true then (if hitB (ordA A) x = true then ⟨A.cap, meetL A x, A.index⟩ else if (A.slots.length : Int) = A.cap then A else ⟨A.cap, A.slots ++ [x], putIdx A x⟩) else A
def mergeF (A : Ar) : List En → Ar
  | [] => A
  | x :: r => mergeF (joinAF A x) r
def mergeN (A : Ar) : List En → Nat
  | [] => 0
  | x :: r => (if joinAB A x = true then 1 else 0) + mergeN (joinAF A x) r
def mergeO (A : Ar) : List En → Nat
  | [] => 0
  | x :: r => (if joinAE A x = 0 then 0 else 1) + mergeO (joinAF A x) r
def allA (A : Ar) : List En := if okA A = true then ordA A else []
def chunkA (A : Ar) (at_ n : Int) : List En := if at_ < 0 then [] else if okA A = true then (A.slots.drop at_.toNat).take n.toNat else []
def belowE (a b : En) : Bool := decide (joinEF a b = b)
def inB (B : Ar) (x : En) : Bool := if findI B x = -1 then false else belowE x (slotAt B.slots (findI B x))
def belowA (A B : Ar) : Bool := okA A && (okA B && A.slots.all (inB B))
def alikeA (A B : Ar) : Bool := belowA A B && belowA B A

theorem name_iff {A B : En} : nameB A B = true ↔ A.val.kind = B.val.kind ∧ A.key = B.key := by unfold nameB; simp
theorem name_self (A : En) : nameB A A = true := by rw [name_iff]; exact ⟨rfl, rfl⟩
theorem name_trans {A B C : En} (h1 : nameB A B = true) (h2 : nameB B C = true) : nameB A C = true := by
  rw [name_iff] at *; exact ⟨h1.1.trans h2.1, h1.2.trans h2.2⟩
theorem name_symm {A B : En} (h1 : nameB A B = true) : nameB B A = true := by rw [name_comm]; exact h1
theorem less_right {A B B' : En} (h : nameB B B' = true) : lessE A B = lessE A B' := by
  rw [name_iff] at h; unfold lessE; rw [h.1, h.2]
theorem lessE_irrefl (A : En) : lessE A A = false := less_name A A (name_self A)

/-- In a rising list: what is ahead of x stands ahead. -/
theorem pos_le (l : List En) (x : En) : posN l x ≤ l.length := List.countP_le_length
theorem pos_cons_yes {a x : En} {l : List En} (h : lessE a x = true) : posN (a :: l) x = posN l x + 1 := by
  unfold posN; exact List.countP_cons_of_pos (p := fun y => lessE y x) h
theorem pos_zero : ∀ {l : List En} {x : En}, (∀ y ∈ l, lessE y x = false) → posN l x = 0 := by
  intro l x h; unfold posN; rw [List.countP_eq_zero]; intro y hy; simp [h y hy]
theorem asc_none {a x : En} {l : List En} (h : Asc (a :: l)) (hn : lessE a x = false) : ∀ y ∈ l, lessE y x = false := by
  intro y hy
  have := List.rel_of_pairwise_cons h hy
  cases hl : lessE y x with
  | false => rfl
  | true => rw [lessE_trans _ _ _ this hl] at hn; cases hn
theorem pos_cons_no {a x : En} {l : List En} (h : Asc (a :: l)) (hn : lessE a x = false) : posN (a :: l) x = 0 :=
  pos_zero fun y hy => (List.mem_cons.1 hy).elim (fun e => by rw [e]; exact hn) (fun hy => asc_none h hn y hy)
theorem pos_before : ∀ {l : List En} {x : En}, Asc l → ∀ (j : Nat) (y : En), l[j]? = some y → (lessE y x = true ↔ j < posN l x)
  | [], x, _, j, y, h => by simp at h
  | a :: l, x, h, j, y, hy => by
    cases ha : lessE a x with
    | true =>
      rw [pos_cons_yes ha]
      cases j with
      | zero => simp only [List.getElem?_cons_zero, Option.some.injEq] at hy; subst hy; simp [ha]
      | succ j =>
        rw [List.getElem?_cons_succ] at hy
        rw [pos_before (List.Pairwise.of_cons h) j y hy]; omega
    | false =>
      rw [pos_cons_no h ha]
      have : lessE y x = false := by
        cases j with
        | zero => simp only [List.getElem?_cons_zero, Option.some.injEq] at hy; subst hy; exact ha
        | succ j => rw [List.getElem?_cons_succ] at hy; exact asc_none h ha y (List.mem_of_getElem? hy)
      simp [this]
theorem hit_pos {l : List En} {x : En} (h : hitB l x = true) : ∃ y, l[posN l x]? = some y ∧ nameB y x = true := by
  unfold hitB at h
  split at h
  · rename_i y hy; exact ⟨y, hy, h⟩
  · cases h
theorem pos_lt_of_hit {l : List En} {x : En} (h : hitB l x = true) : posN l x < l.length := by
  obtain ⟨y, hy, _⟩ := hit_pos h
  exact (List.getElem?_eq_some_iff.1 hy).1
theorem pos_of_name {l : List En} {x y : En} (hl : Asc l) {j : Nat} (hy : l[j]? = some y) (hn : nameB y x = true) : posN l x = j := by
  have h1 := (pos_before (x := x) hl j y hy)
  rw [less_name _ _ hn] at h1
  have h2 : ¬ j < posN l x := by intro h; exact absurd (h1.2 h) (by simp)
  by_cases h3 : posN l x < j
  · have hj := (List.getElem?_eq_some_iff.1 hy).1
    have h4 := (pos_before (x := x) hl (posN l x) (l[posN l x]'(by omega)) (List.getElem?_eq_getElem _))
    have h5 : lessE (l[posN l x]'(by omega)) y = true := by
      have := List.pairwise_iff_getElem.1 hl (posN l x) j (by omega) hj h3
      rw [(List.getElem?_eq_some_iff.1 hy).2] at this
      exact this
    rw [less_right hn] at h5
    have := h4.1 h5
    omega
  · omega
theorem hit_of_mem {l : List En} {x y : En} (hl : Asc l) (hy : y ∈ l) (hn : nameB y x = true) : hitB l x = true ∧ l[posN l x]? = some y := by
  obtain ⟨j, hj⟩ := List.getElem?_of_mem hy
  have := pos_of_name hl hj hn
  subst this
  refine ⟨?_, hj⟩
  unfold hitB; rw [hj]; exact hn
theorem behind_pos {l : List En} {x : En} (hl : Asc l) (hh : hitB l x = false) {j : Nat} {y : En} (hy : l[j]? = some y) (hj : posN l x ≤ j) : lessE x y = true := by
  have h1 := pos_before (x := x) hl j y hy
  have h2 : lessE y x = false := by
    cases h : lessE y x with
    | false => rfl
    | true => have := h1.1 h; omega
  cases h3 : lessE x y with
  | true => rfl
  | false =>
    have hn := less_none y x h2 h3
    rw [(hit_of_mem hl (List.mem_of_getElem? hy) hn).1] at hh
    cases hh
/-- The list with one more, where it belongs. -/
def insE (l : List En) (x : En) : List En := l.take (posN l x) ++ (x :: l.drop (posN l x))
theorem asc_ins {l : List En} {x : En} (hl : Asc l) (hh : hitB l x = false) : Asc (insE l x) := by
  have e := List.take_append_drop (posN l x) l
  have hp : Asc (l.take (posN l x) ++ l.drop (posN l x)) := by rw [e]; exact hl
  obtain ⟨p1, p2, p3⟩ := List.pairwise_append.1 hp
  have b1 : ∀ y ∈ l.take (posN l x), lessE y x = true := by
    intro y hy
    obtain ⟨j, hj⟩ := List.getElem?_of_mem hy
    have hlt := (List.getElem?_eq_some_iff.1 hj).1
    rw [List.length_take] at hlt
    rw [List.getElem?_take_of_lt (by omega)] at hj
    exact (pos_before hl j y hj).2 (by omega)
  have b2 : ∀ y ∈ l.drop (posN l x), lessE x y = true := by
    intro y hy
    obtain ⟨j, hj⟩ := List.getElem?_of_mem hy
    rw [List.getElem?_drop] at hj
    exact behind_pos hl hh hj (by omega)
  refine List.pairwise_append.2 ⟨p1, List.pairwise_cons.2 ⟨b2, p2⟩, ?_⟩
  intro a ha b hb
  rcases List.mem_cons.1 hb with rfl | hb
  · exact b1 a ha
  · exact p3 a ha b hb

/-- A list without twice the same, all of which another one has, is no longer. -/
theorem nodup_length {α : Type} [DecidableEq α] : ∀ (l m : List α), l.Nodup → (∀ x ∈ l, x ∈ m) → l.length ≤ m.length
  | [], m, _, _ => by simp
  | a :: l, m, h, hs => by
    obtain ⟨h1, h2⟩ := List.nodup_cons.1 h
    have ha := hs a (by simp)
    have := nodup_length l (m.erase a) h2 (fun x hx => by
      have hne : x ≠ a := by rintro rfl; exact h1 hx
      exact (List.mem_erase_of_ne hne).2 (hs x (by simp [hx])))
    rw [List.length_erase_of_mem ha] at this
    have : 0 < m.length := List.length_pos_of_mem ha
    simp only [List.length_cons]
    omega
theorem nodup_all {n : Nat} (l : List Nat) (h : l.Nodup) (hr : ∀ p ∈ l, p < n) (hl : l.length = n) (q : Nat) (hq : q < n) : q ∈ l := by
  by_cases hm : q ∈ l
  · exact hm
  · exfalso
    have h2 : (q :: l).Nodup := List.nodup_cons.2 ⟨hm, h⟩
    have := nodup_length (q :: l) (List.range n) h2 (fun x hx => by
      rcases List.mem_cons.1 hx with rfl | hx
      · exact List.mem_range.2 hq
      · exact List.mem_range.2 (hr x hx))
    simp at this
    omega

structure OkA (A : Ar) : Prop where
  room : 1 ≤ A.cap ∧ A.cap ≤ 8
  fits : (A.slots.length : Int) ≤ A.cap
  ents : ∀ e ∈ A.slots, okE e = true
  len : A.index.length = A.slots.length
  rng : ∀ p ∈ A.index, 0 ≤ p ∧ p < A.slots.length
  asc : Asc (ordA A)
theorem okA_iff {A : Ar} : okA A = true ↔ OkA A := by
  unfold okA roomB idxB
  simp only [Bool.and_eq_true, decide_eq_true_eq, List.all_eq_true]
  constructor
  · rintro ⟨h1, h2, h3, h4, h5, h6⟩; exact ⟨h1, h2, h3, h4, h5, h6⟩
  · rintro ⟨h1, h2, h3, h4, h5, h6⟩; exact ⟨h1, h2, h3, h4, h5, h6⟩
theorem slotAt_some {l : List En} {p : Nat} {e : En} (h : l[p]? = some e) : slotAt l (p : Int) = e := by unfold slotAt; simp [h]
theorem slotAt_mem {l : List En} {p : Int} (h : 0 ≤ p ∧ p < l.length) : slotAt l p ∈ l := by
  unfold slotAt
  rw [List.getElem?_eq_getElem (by omega)]
  exact List.getElem_mem _
theorem ord_length {A : Ar} (h : OkA A) : (ordA A).length = A.slots.length := by unfold ordA; rw [List.length_map, h.len]
theorem idx_nodup {A : Ar} (h : OkA A) : (A.index.map Int.toNat).Nodup := by
  have h1 := h.asc
  unfold Asc ordA at h1
  unfold List.Nodup
  rw [List.pairwise_map] at h1 ⊢
  refine h1.imp ?_
  intro a b hab e
  unfold slotAt at hab
  rw [e, lessE_irrefl] at hab
  cases hab
/-- Each slot stands in the order. -/
theorem mem_ord {A : Ar} (h : OkA A) (e : En) : e ∈ ordA A ↔ e ∈ A.slots := by
  unfold ordA
  rw [List.mem_map]
  constructor
  · rintro ⟨p, hp, rfl⟩; exact slotAt_mem (h.rng p hp)
  · intro he
    obtain ⟨q, hq⟩ := List.getElem?_of_mem he
    have hlt := (List.getElem?_eq_some_iff.1 hq).1
    have hm := nodup_all _ (idx_nodup h) (n := A.slots.length) (by
      intro p hp; obtain ⟨r, hr, rfl⟩ := List.mem_map.1 hp; have := h.rng r hr; omega) (by rw [List.length_map, h.len]) q hlt
    obtain ⟨r, hr, e2⟩ := List.mem_map.1 hm
    refine ⟨r, hr, ?_⟩
    unfold slotAt; rw [e2, hq]; rfl
theorem asc_name {l : List En} (h : Asc l) {a b : En} (ha : a ∈ l) (hb : b ∈ l) (hn : nameB a b = true) : a = b := by
  have h1 := (hit_of_mem h ha hn).2
  have h2 := (hit_of_mem h hb (name_self b)).2
  rw [h1] at h2
  injection h2
theorem one_name {A : Ar} (h : OkA A) {a b : En} (ha : a ∈ A.slots) (hb : b ∈ A.slots) (hn : nameB a b = true) : a = b :=
  asc_name h.asc ((mem_ord h a).2 ha) ((mem_ord h b).2 hb) hn
/-- The place of a name. -/
theorem place_spec {A : Ar} (h : OkA A) {x : En} (hh : hitB (ordA A) x = true) : (0 ≤ placeI A x ∧ placeI A x < A.slots.length) ∧ A.index[posN (ordA A) x]? = some (placeI A x) ∧ (ordA A)[posN (ordA A) x]? = some (slotAt A.slots (placeI A x)) ∧ nameB (slotAt A.slots (placeI A x)) x = true := by
  obtain ⟨y, hy, hn⟩ := hit_pos hh
  have hlt : posN (ordA A) x < A.index.length := by have := pos_lt_of_hit hh; rw [ord_length h] at this; rw [h.len]; exact this
  have e1 : A.index[posN (ordA A) x]? = some (placeI A x) := by unfold placeI; rw [List.getElem?_eq_getElem hlt]; rfl
  have e2 : (ordA A)[posN (ordA A) x]? = some (slotAt A.slots (placeI A x)) := by
    have : (ordA A)[posN (ordA A) x]? = (A.index[posN (ordA A) x]?).map (slotAt A.slots) := List.getElem?_map
    rw [this, e1]; rfl
  have e3 : y = slotAt A.slots (placeI A x) := by rw [hy] at e2; injection e2
  exact ⟨h.rng _ (List.mem_of_getElem? e1), e1, e2, e3 ▸ hn⟩
theorem hit_iff {A : Ar} (h : OkA A) {x : En} : hitB (ordA A) x = true ↔ ∃ e ∈ A.slots, nameB e x = true := by
  constructor
  · intro hh
    obtain ⟨h1, _, _, h4⟩ := place_spec h hh
    exact ⟨_, slotAt_mem h1, h4⟩
  · rintro ⟨e, he, hn⟩; exact (hit_of_mem h.asc ((mem_ord h e).2 he) hn).1
theorem find_ne {A : Ar} (h : OkA A) {x : En} : findI A x = -1 ↔ hitB (ordA A) x = false := by
  unfold findI
  rw [if_pos (okA_iff.2 h)]
  cases hh : hitB (ordA A) x with
  | true => have := (place_spec h hh).1; rw [if_pos rfl]; constructor
            · intro; omega
            · intro h; cases h
  | false => simp
end Go.Proofs.YtbgconagkgfplaaGreat
end
section
namespace Go.Proofs.YtbgconagkgfplaaGreat
open Go.RowKit
set_option linter.unusedVariables false
set_option linter.unusedSimpArgs false

/-- An entry's cells. -/
def enL (E : En) (vp vm : Value) : List Value := [.string ⟨E.key.toArray⟩, .int .i64 E.val.kind, .int .i64 E.val.time, .int .i64 E.val.node, .bool E.val.dead, .string ⟨E.val.text.toArray⟩, vp, vm, .int .u64 (E.val.flags.toNat : Int)]
/-- An entry stands in block b from place o on. -/
def EnAt (w : World) (b o : Nat) (E : En) : Prop := ∃ vp vm, (∀ (j : Nat) (x : Value), [.string ⟨E.key.toArray⟩, .int .i64 E.val.kind, .int .i64 E.val.time, .int .i64 E.val.node, .bool E.val.dead, .string ⟨E.val.text.toArray⟩, vp, vm, .int .u64 (E.val.flags.toNat : Int)][j]? = some x → w.cell? ⟨b, o + j, none⟩ = some x) ∧ isCells (E.val.plus.map intC) vp w ∧ isCells (E.val.minus.map intC) vm w
theorem EnAt.keep {w w' : World} {b o : Nat} {E : En} (h : EnAt w b o E) (hb : Below w.heap.size w w') (hlt : b < w.heap.size) : EnAt w' b o E := by
  obtain ⟨vp, vm, hc, hp, hm⟩ := h
  exact ⟨vp, vm, fun j x hx => (hb.cell (p := ⟨b, o + j, none⟩) hlt).trans (hc j x hx), stable_cells _ _ _ _ hp hb, stable_cells _ _ _ _ hm hb⟩
/-- A slice of just these entries. -/
def isEns (l : List En) : VP := fun v w => (v = .slice none 0 0 ∧ l = []) ∨ (∃ a cap, v = .slice (some a) 0 cap ∧ l = []) ∨
  ∃ b off cap, v = .slice (some ⟨b, off, none⟩) l.length cap ∧ b < w.heap.size ∧ ∀ (j : Nat) (E : En), l[j]? = some E → EnAt w b (off + j * 9) E
theorem stable_ens (l : List En) : Stable (isEns l) := by
  intro v w w' h hb
  rcases h with h | h | ⟨b, off, cap, e, hlt, hc⟩
  · exact .inl h
  · exact .inr (.inl h)
  · exact .inr (.inr ⟨b, off, cap, e, Nat.lt_of_lt_of_le hlt hb.size, fun j E hE => (hc j E hE).keep hb hlt⟩)
theorem isEns.len {l : List En} {v : Value} {w : World} (h : isEns l v w) : ∃ a cap, v = .slice a l.length cap := by
  rcases h with ⟨rfl, rfl⟩ | ⟨a, cap, rfl, rfl⟩ | ⟨b, off, cap, rfl, _⟩
  · exact ⟨_, _, rfl⟩
  · exact ⟨_, _, rfl⟩
  · exact ⟨_, _, rfl⟩
theorem isEns.one {l : List En} {v : Value} {w : World} (h : isEns l v w) : v.oneCell' = true := by
  obtain ⟨a, cap, rfl⟩ := h.len
  rfl
theorem isEns.get {l : List En} {v : Value} {w : World} (h : isEns l v w) {j : Nat} {E : En} (hj : l[j]? = some E) : ∃ b off cap, v = .slice (some ⟨b, off, none⟩) l.length cap ∧ b < w.heap.size ∧ EnAt w b (off + j * 9) E := by
  rcases h with ⟨_, rfl⟩ | ⟨a, cap, _, rfl⟩ | ⟨b, off, cap, e, hlt, hc⟩
  · simp at hj
  · simp at hj
  · exact ⟨b, off, cap, e, hlt, hc j E hj⟩
/-- A row in one piece: the way of the empty ones, and the other one. -/
theorem isEns.cases_ {l : List En} {v : Value} {w : World} (h : isEns l v w) : (∃ a cap, v = .slice a l.length cap ∧ l = []) ∨ ∃ b off cap, v = .slice (some ⟨b, off, none⟩) l.length cap ∧ b < w.heap.size ∧ ∀ (j : Nat) (E : En), l[j]? = some E → EnAt w b (off + j * 9) E := by
  rcases h with ⟨rfl, rfl⟩ | ⟨a, cap, rfl, rfl⟩ | h
  · exact .inl ⟨_, _, rfl, rfl⟩
  · exact .inl ⟨_, _, rfl, rfl⟩
  · exact .inr h
theorem loadCellsO {P : Program} (b o : Nat) (w : World) (l : List Value) (h : ∀ (j : Nat) (x : Value), l[j]? = some x → w.cell? ⟨b, o + j, none⟩ = some x) : ∀ (k : Nat) (m : List Value) (acc : Array Value), l.drop k = m → (loadCellsFrom ⟨b, o, none⟩ k m.length acc).run P w = .ok (acc ++ m.toArray) w
  | k, [], acc, _ => by simp [loadCellsFrom]
  | k, v :: r, acc, hd => by
    have hk : l[k]? = some v := by have := congrArg (·[0]?) hd; simpa using this
    have hr : l.drop (k + 1) = r := by rw [← List.drop_drop, hd]; rfl
    have ea : (⟨b, o, none⟩ : Addr).add k = ⟨b, o + k, none⟩ := by
      by_cases e : k = 0
      · subst e; simp [Addr.add]
      · simp [Addr.add, e]
    rw [List.length_cons]
    unfold loadCellsFrom
    rw [Sem.run_bind, ea]
    have hl : (load ⟨b, o + k, none⟩).run P w = .ok v w := by simp [h k v hk]
    rw [hl, Result.andThen_ok, loadCellsO b o w l h (k + 1) r (acc.push v) hr]
    simp
theorem EnAt.open_ {w : World} {b o : Nat} {E : En} (h : EnAt w b o E) : ∃ vp vm, isEn E (.agg #[.string ⟨E.key.toArray⟩, .int .i64 E.val.kind, .int .i64 E.val.time, .int .i64 E.val.node, .bool E.val.dead, .string ⟨E.val.text.toArray⟩, vp, vm, .int .u64 (E.val.flags.toNat : Int)]) w ∧ isVa E.val (.agg #[.int .i64 E.val.kind, .int .i64 E.val.time, .int .i64 E.val.node, .bool E.val.dead, .string ⟨E.val.text.toArray⟩, vp, vm, .int .u64 (E.val.flags.toNat : Int)]) w ∧ w.cell? ⟨b, o, none⟩ = some (.string ⟨E.key.toArray⟩) ∧ w.cell? ⟨b, o + 1, none⟩ = some (.int .i64 E.val.kind) ∧ w.cell? ⟨b, o + 2, none⟩ = some (.int .i64 E.val.time) ∧ w.cell? ⟨b, o + 3, none⟩ = some (.int .i64 E.val.node) ∧ w.cell? ⟨b, o + 4, none⟩ = some (.bool E.val.dead) ∧ w.cell? ⟨b, o + 5, none⟩ = some (.string ⟨E.val.text.toArray⟩) ∧ w.cell? ⟨b, o + 6, none⟩ = some (vp) ∧ w.cell? ⟨b, o + 7, none⟩ = some (vm) ∧ w.cell? ⟨b, o + 8, none⟩ = some (.int .u64 (E.val.flags.toNat : Int)) := by
  obtain ⟨vp, vm, hc, hp, hm⟩ := h
  exact ⟨vp, vm, ⟨vp, vm, rfl, hp, hm⟩, ⟨vp, vm, rfl, hp, hm⟩, hc 0 _ rfl, hc 1 _ rfl, hc 2 _ rfl, hc 3 _ rfl, hc 4 _ rfl, hc 5 _ rfl, hc 6 _ rfl, hc 7 _ rfl, hc 8 _ rfl⟩
def isAr (A : Ar) : VP := fun v w => ∃ vs vi, v = .agg #[.int .i64 A.cap, vs, vi] ∧ isEns A.slots vs w ∧ isCells (A.index.map intC) vi w
theorem stable_ar (A : Ar) : Stable (isAr A) := fun v w w' ⟨vs, vi, e, hs, hi⟩ hb => ⟨vs, vi, e, stable_ens _ _ _ _ hs hb, stable_cells _ _ _ _ hi hb⟩
/-- Block g holds the arena A. -/
def VarA (w : World) (g : Nat) (A : Ar) : Prop := ∃ vs vi, CellsN w g [.int .i64 A.cap, vs, vi] ∧ isEns A.slots vs w ∧ isCells (A.index.map intC) vi w
theorem VarA.keep {w w' : World} {g : Nat} {A : Ar} (h : VarA w g A) (hb : Below w.heap.size w w') : VarA w' g A := by
  obtain ⟨vs, vi, hc, hs, hi⟩ := h
  exact ⟨vs, vi, hc.keep hb hc.1, stable_ens _ _ _ _ hs hb, stable_cells _ _ _ _ hi hb⟩
theorem VarA.lt {w : World} {g : Nat} {A : Ar} (h : VarA w g A) : g < w.heap.size := by obtain ⟨_, _, hc, _⟩ := h; exact hc.1
theorem VarA.open_ {w : World} {g : Nat} {A : Ar} (h : VarA w g A) : ∃ vs vi, isAr A (.agg #[.int .i64 A.cap, vs, vi]) w ∧ isEns A.slots vs w ∧ isCells (A.index.map intC) vi w ∧ w.cell? ⟨g, 0, none⟩ = some (.int .i64 A.cap) ∧ w.cell? ⟨g, 1, none⟩ = some vs ∧ w.cell? ⟨g, 2, none⟩ = some vi := by
  obtain ⟨vs, vi, hc, hs, hi⟩ := h
  exact ⟨vs, vi, ⟨vs, vi, rfl, hs, hi⟩, hs, hi, hc.2 0 _ rfl, hc.2 1 _ rfl, hc.2 2 _ rfl⟩
theorem size_ar : (Tryz.prog.info? 25).map (·.size) = some 3 := by kernel_rfl
theorem agg_ar (w : World) : (isAgg 25).run Tryz.prog w = .ok true w := by simp [isAgg, run_underlying Tryz.underlying25]
theorem abox (w : World) (A : Ar) (vs vi : Value) (hs : isEns A.slots vs w) (hi : isCells (A.index.map intC) vi w) (n : Nat) (hn : n = w.heap.size) :
    Kept (Below w.heap.size w (w.alloc (.cells #[.int .i64 A.cap, vs, vi] 25))) ∧ Kept (VarA (w.alloc (.cells #[.int .i64 A.cap, vs, vi] 25)) n A) := by
  subst hn
  have hb : Below w.heap.size w (w.alloc (.cells #[.int .i64 A.cap, vs, vi] 25)) := (Below.refl _ _).alloc (Nat.le_refl _) _
  exact ⟨⟨hb⟩, ⟨⟨vs, vi, cellsN_new w 25 _, stable_ens _ _ _ _ hs hb, stable_cells _ _ _ _ hi hb⟩⟩⟩
theorem anew (w : World) (A : Ar) (vs vi : Value) (hs : isEns A.slots vs w) (hi : isCells (A.index.map intC) vi w) (n : Nat) (hn : n = w.heap.size) :
    Kept (CellsN (w.alloc (.cells #[.int .i64 0, .slice none 0 0, .slice none 0 0] 25)) n [.int .i64 0, .slice none 0 0, .slice none 0 0]) ∧ Kept (Free5 (w.alloc (.cells #[.int .i64 0, .slice none 0 0, .slice none 0 0] 25)) n) ∧
    Kept (Below w.heap.size w (setN (w.alloc (.cells #[.int .i64 0, .slice none 0 0, .slice none 0 0] 25)) n 0 [.int .i64 A.cap, vs, vi])) ∧
    Kept (VarA (setN (w.alloc (.cells #[.int .i64 0, .slice none 0 0, .slice none 0 0] 25)) n 0 [.int .i64 A.cap, vs, vi]) n A) ∧ Kept (Ones [.int .i64 A.cap, vs, vi]) := by
  subst hn
  have hb := lit_below w (.cells #[.int .i64 0, .slice none 0 0, .slice none 0 0] 25)
  have hc := cellsN_new w 25 [.int .i64 0, .slice none 0 0, .slice none 0 0]
  have hb5 := below_setN (Nat.le_refl _) [.int .i64 A.cap, vs, vi] 0 _ hb
  exact ⟨⟨hc⟩, ⟨free5_new w _ _⟩, ⟨hb5⟩, ⟨⟨vs, vi, hc.setN_ _ rfl, stable_ens _ _ _ _ hs hb5, stable_cells _ _ _ _ hi hb5⟩⟩, ⟨⟨rfl, hs.one, hi.one, trivial⟩⟩⟩
structure FitA (A : Ar) : Prop where
  slots : A.slots.length ≤ 1000
  index : A.index.length ≤ 1000
  ents : ∀ e ∈ A.slots, FitE e
end Go.Proofs.YtbgconagkgfplaaGreat
end
section
namespace Go.Proofs.YtbgconagkgfplaaGreat
open Go.RowKit
set_option linter.unusedVariables false
set_option linter.unusedSimpArgs false
/-- What s0 waits for, by way of others. -/
def ancOk (ops : Array Oper) (s0 : Nat) (ups : List Nat) : Bool := ups.all fun u => decide (u < s0) && (s0 :: ups).any fun v => decide (u < v) && waits ops v u
theorem unlisted {ops : Array Oper} {s0 : Nat} {ups : List Nat} (h : ancOk ops s0 ups = true) {listed : Array Bool} (hcl : ∀ j, listed.getD j false = true → ∀ m, waits ops j m = true → listed.getD m false = true) {i : Nat} (hi : listed.getD i false = false) (hu : i = s0 ∨ i ∈ ups) : listed.getD s0 false = false := by
  cases hl : listed.getD s0 false with
  | false => rfl
  | true =>
    exfalso
    have key : ∀ d u, u + d = s0 → u ∈ ups → listed.getD u false = true := by
      intro d
      induction d using Nat.strongRecOn with
      | _ d ih =>
        intro u hu' hm
        have h1 := List.all_eq_true.1 h u hm
        rw [Bool.and_eq_true, decide_eq_true_eq, List.any_eq_true] at h1
        obtain ⟨hlt, v, hv, hw⟩ := h1
        rw [Bool.and_eq_true, decide_eq_true_eq] at hw
        rcases List.mem_cons.1 hv with rfl | hv'
        · exact hcl _ hl _ hw.2
        · have h2 := List.all_eq_true.1 h v hv'
          rw [Bool.and_eq_true, decide_eq_true_eq] at h2
          exact hcl v (ih (s0 - v) (by omega) v (by omega) hv') _ hw.2
    rcases hu with rfl | hu
    · rw [hl] at hi; cases hi
    · have h1 := List.all_eq_true.1 h i hu
      rw [Bool.and_eq_true, decide_eq_true_eq] at h1
      rw [key (s0 - i) i (by omega) hu] at hi; cases hi
section
variable (R : World → World → Prop) (s0 : Nat) (ups : List Nat) (S0 : World → Prop) (P : Program) (ops : Array Oper) (base : World) (a0 : Act) (Q : Exit → Act → World → Prop)
/-- Operation s0 finds S0, which each other one leaves; what s0 yields stays true as memory grows, what the others yield also behind s0. -/
def OStep (k0 : Nat) (kn : Nat → VP) (i : Nat) (V : VP) : Prop := ((i = s0 → Stable V) ∧ (i ≠ s0 → StableR R V)) ∧ ∀ o, ops[i]? = some o → ∀ a w, FKeptN ops k0 a0 a → R base w → (i = s0 ∨ i ∈ ups → S0 w) → RDeps ops kn i a w →
  wpOp P ops Q i (fun a' w' => ∃ v, a' = a.put o.dst v ∧ (o.dst = none → v = undef) ∧ V v w' ∧ R w w' ∧ (i ≠ s0 → Below w.heap.size w w')) a w
def OneTail (k0 c : Nat) : Nat → Nat → (Nat → VP) → Prop
  | 0, _, kn => ∀ a w, FKeptN ops k0 a0 a → R base w → (∀ j, j < k0 → RDone ops kn a w j) → Tail P ops Q c k0 a w
  | k + 1, i, kn => ∃ V, OStep R s0 ups S0 P ops base a0 Q k0 kn i V ∧ OneTail k0 c k (i + 1) (upd kn i V)
end
section
variable {R : World → World → Prop} {s0 : Nat} {ups : List Nat} {S0 : World → Prop} {P : Program} {ops : Array Oper} {base : World} {a0 : Act} {Q : Exit → Act → World → Prop}
theorem ostable {k0 : Nat} {kn : Nat → VP} {j : Nat} {V : VP} (h : OStep R s0 ups S0 P ops base a0 Q k0 kn j V) {v : Value} {w w' : World} (hv : V v w) (hr : R w w') (hb : j = s0 → Below w.heap.size w w') : V v w' := by
  by_cases e : j = s0
  · exact h.1.1 e _ _ _ hv (hb e)
  · exact h.1.2 e _ _ _ hv hr
/-- An operation that only reads, or makes memory. -/
theorem OStep.of {k0 : Nat} {kn : Nat → VP} {i : Nat} {V : VP} (hR : Pre R) (hne : i ≠ s0) (hst : StableR R V) (hd : ((ops[i]?).bind (·.dst)).isSome = true) (h : ∀ w, R base w → FStep P ops w a0 Q kn i V) : OStep R s0 ups S0 P ops base a0 Q k0 kn i V := by
  refine ⟨⟨fun e => absurd e hne, fun _ => hst⟩, fun o ho a w hk hb _ hdp => ?_⟩
  refine wpOp_mono ?_ ((h w hb).2 o ho a w hk.f (Below.refl _ _) (fun o' ho' e he hbd => rdone_f (hdp o' ho' e he hbd)))
  rintro a' w' ⟨v, e, hV, hbw⟩
  refine ⟨v, e, fun hn => ?_, hV, hR.grow _ _ hbw, fun _ => hbw⟩
  rw [ho] at hd
  simp [hn] at hd
theorem OStep.ofS {k0 : Nat} {kn : Nat → VP} {i : Nat} {V : VP} (hR : Pre R) (hne : i ≠ s0) (hu : i ∈ ups) (hst : StableR R V) (hd : ((ops[i]?).bind (·.dst)).isSome = true) (h : ∀ w, R base w → S0 w → FStep P ops w a0 Q kn i V) : OStep R s0 ups S0 P ops base a0 Q k0 kn i V := by
  refine ⟨⟨fun e => absurd e hne, fun _ => hst⟩, fun o ho a w hk hb h0 hdp => ?_⟩
  refine wpOp_mono ?_ ((h w hb (h0 (.inr hu))).2 o ho a w hk.f (Below.refl _ _) (fun o' ho' e he hbd => rdone_f (hdp o' ho' e he hbd)))
  rintro a' w' ⟨v, e, hV, hbw⟩
  refine ⟨v, e, fun hn => ?_, hV, hR.grow _ _ hbw, fun _ => hbw⟩
  rw [ho] at hd
  simp [hn] at hd
theorem oneTail_family {n k0 c : Nat} (hok : flowOk ops n = true) : ∀ k i kn, i + k = k0 → (∀ m, m < i → OStep R s0 ups S0 P ops base a0 Q k0 kn m (kn m)) → OneTail R s0 ups S0 P ops base a0 Q k0 c k i kn →
    ∃ kn', (∀ m, m < k0 → OStep R s0 ups S0 P ops base a0 Q k0 kn' m (kn' m)) ∧ OneTail R s0 ups S0 P ops base a0 Q k0 c 0 k0 kn'
  | 0, i, kn, hi, hs, hf => ⟨kn, fun m hm => hs m (by omega), hf⟩
  | k + 1, i, kn, hi, hs, ⟨V, hV, hf⟩ => by
    have agree : ∀ m, m ≠ i → upd kn i V m = kn m := fun m hm => by simp [upd, hm]
    have self : upd kn i V i = V := by simp [upd]
    have shift : ∀ m W, m ≤ i → OStep R s0 ups S0 P ops base a0 Q k0 kn m W → OStep R s0 ups S0 P ops base a0 Q k0 (upd kn i V) m W := by
      intro m W hm h
      refine ⟨h.1, fun o ho a w hk hb h0 hd => h.2 o ho a w hk hb h0 ?_⟩
      intro o' ho' e he hbd
      have hlt := (flowOk_spec hok).1 m o' ho' e he hbd
      exact rdone_congr (agree e.on (by omega)) (hd o' ho' e he hbd)
    refine oneTail_family hok k (i + 1) (upd kn i V) (by omega) (fun m hm => ?_) hf
    by_cases hmi : m = i
    · subst hmi; rw [self]; exact shift m V (Nat.le_refl _) hV
    · rw [agree m hmi]; exact shift m _ (by omega) (hs m (by omega))
theorem wpAny_oneTail {k0 : Nat} (hR : Pre R) (hA : ancOk ops s0 ups = true) (hS : ∀ w w', S0 w → Below w.heap.size w w' → S0 w') (hok : flowOk ops a0.tmps.size = true) (ht : tailOkC ops k0 = true) {kn : Nat → VP} (hs : ∀ m, m < k0 → OStep R s0 ups S0 P ops base a0 Q k0 kn m (kn m))
    (he : OneTail R s0 ups S0 P ops base a0 Q k0 (ops.size - k0) 0 k0 kn) :
    ∀ (u fuel : Nat) (listed : Array Bool) (a : Act) (w : World), listed.size = ops.size → ((List.range k0).filter fun i => !listed.getD i false).length ≤ u → u + (ops.size - k0) ≤ fuel → (∀ j, k0 ≤ j → listed.getD j false = false) → (∀ j, listed.getD j false = true → ∀ m, waits ops j m = true → listed.getD m false = true) →
      FKeptN ops k0 a0 a → R base w → (listed.getD s0 false = false → S0 w) → (∀ j, listed.getD j false = true → RDone ops kn a w j) → wpAny P .any ops Q fuel listed a w := by
  obtain ⟨ok1, ok2, ok3⟩ := flowOk_spec hok
  have hk0 : k0 ≤ ops.size := by unfold tailOkC at ht; simp only [Bool.and_eq_true, decide_eq_true_eq] at ht; exact ht.1
  have tk : ∀ j, j < ops.size → k0 < j → waits ops j (j - 1) = true := by
    intro j hj hk
    unfold tailOkC at ht
    simp only [Bool.and_eq_true, List.all_eq_true, List.mem_range] at ht
    have := ht.2 j hj
    rwa [if_neg (by omega), if_neg (by omega)] at this
  have tk0 : ∀ m, m < k0 → ∃ j, m < j ∧ j ≤ k0 ∧ waits ops j m = true := by
    intro m hk
    unfold tailOkC at ht
    simp only [Bool.and_eq_true, List.all_eq_true, List.mem_range] at ht
    have := ht.2 m (by omega)
    rw [if_pos hk, List.any_eq_true] at this
    obtain ⟨j, hj, h⟩ := this
    rw [Bool.and_eq_true, decide_eq_true_eq] at h
    exact ⟨j, h.1, by simpa [Nat.lt_succ_iff] using hj, h.2⟩
  intro u
  induction u with
  | zero =>
    intro fuel listed a w hl hu hf htl hcl hk hb hs0 hd
    have hall : ∀ j, j < k0 → listed.getD j false = true := by
      intro j hj
      have h0 : ((List.range k0).filter fun i => !listed.getD i false) = [] := List.eq_nil_of_length_eq_zero (by omega)
      rw [List.filter_eq_nil_iff] at h0
      have := h0 j (by simpa using hj)
      simpa using this
    refine wpAny_tailC hok ht (ops.size - k0) k0 fuel listed a w (by omega) (Nat.le_refl _) (by omega) hl ?_ (he a w hk hb (fun j hj => hd j (hall j hj)))
    intro j hj
    by_cases e : j < k0
    · rw [hall j e]; simp [e]
    · rw [htl j (by omega)]; simp [e]
  | succ u ih =>
    intro fuel listed a w hl hu hf htl hcl hk hb hs0 hd
    by_cases hall : ∀ j, j < k0 → listed.getD j false = true
    · refine wpAny_tailC hok ht (ops.size - k0) k0 fuel listed a w (by omega) (Nat.le_refl _) (by omega) hl ?_ (he a w hk hb (fun j hj => hd j (hall j hj)))
      intro j hj
      by_cases e : j < k0
      · rw [hall j e]; simp [e]
      · rw [htl j (by omega)]; simp [e]
    · -- the least that is not yet done
      have hex : ∃ m, m < k0 ∧ listed.getD m false = false ∧ ∀ j, j < m → listed.getD j false = true := by
        have key : ∀ n, n ≤ k0 → (∀ j, j < n → listed.getD j false = true) ∨ ∃ m, m < n ∧ listed.getD m false = false ∧ ∀ j, j < m → listed.getD j false = true := by
          intro n
          induction n with
          | zero => intro _; exact .inl (fun j hj => absurd hj (by omega))
          | succ n ihn =>
            intro hn
            rcases ihn (by omega) with h | ⟨m, hm, h1, h2⟩
            · cases hc : listed.getD n false with
              | true => exact .inl (fun j hj => by by_cases e : j = n; exact e ▸ hc; exact h j (by omega))
              | false => exact .inr ⟨n, by omega, hc, h⟩
            · exact .inr ⟨m, by omega, h1, h2⟩
        rcases key k0 (Nat.le_refl _) with h | h
        · exact absurd h hall
        · exact h
      obtain ⟨m, hm, hmu, hmd⟩ := hex
      have hmem : m ∈ Region.ready .any ops listed := ready_of hok hl (by omega) hmu hmd
      cases fuel with
      | zero => omega
      | succ fuel =>
        refine ⟨fun hr => (by rw [hr] at hmem; cases hmem), fun i hi => ?_⟩
        have hiu := ready_un hl hi
        have hik : i < k0 := by
          by_cases e : i < k0
          · exact e
          · exfalso
            by_cases e2 : i = k0
            · subst e2
              have cov : ∀ d m, m + d = i → 0 < d → listed.getD m false = true := by
                intro d
                induction d using Nat.strongRecOn with
                | _ d ihd =>
                  intro m' hm' hd'
                  obtain ⟨j, h1, h2, h3⟩ := tk0 m' (by omega)
                  by_cases e3 : j = i
                  · rw [e3] at h3; exact waits_ready hi h3
                  · exact hcl j (ihd (i - j) (by omega) j (by omega) (by omega)) m' h3
              have := cov (i - m) m (by omega) (by omega)
              rw [hmu] at this
              cases this
            · have := waits_ready hi (tk i hiu.1 (by omega))
              rw [htl (i - 1) (by omega)] at this
              cases this
        obtain ⟨o, ho⟩ : ∃ o, ops[i]? = some o := ⟨_, Array.getElem?_eq_getElem hiu.1⟩
        have hstep := (hs i hik).2 o ho a w hk hb (fun e => hs0 (unlisted hA hcl hiu.2 e)) (by
          intro o' ho' e he' hbd
          rw [ho] at ho'
          cases ho'
          refine hd e.on (waits_ready hi ?_)
          unfold waits
          rw [ho]
          simp only [Option.any_some, List.any_eq_true, Bool.and_eq_true, beq_iff_eq]
          exact ⟨e, he', rfl, hbd⟩)
        refine wpOp_mono ?_ hstep
        rintro a' w' ⟨v, rfl, hvn, hV, hbw, hbl⟩
        refine ih fuel (listed.setIfInBounds i true) _ w' (by simpa using hl) ?_ (by omega) ?_ ?_ ?_ (hR.trans _ _ _ hb hbw) (fun hf' => hS _ _ (hs0 (by by_cases e : s0 = i; (· rw [e, getD_set_same (by omega)] at hf'; cases hf'); (· rwa [getD_set_ne e] at hf'))) (hbl (fun e => by rw [← e, getD_set_same (by omega)] at hf'; cases hf'))) ?_
        · have hsub : ((List.range k0).filter fun j => !(listed.setIfInBounds i true).getD j false).length < ((List.range k0).filter fun j => !listed.getD j false).length := by
            have e1 : ((List.range k0).filter fun j => !(listed.setIfInBounds i true).getD j false) = ((List.range k0).filter fun j => !listed.getD j false).filter (fun j => j != i) := by
              rw [List.filter_filter]
              apply List.filter_congr
              intro j hj
              by_cases e : j = i
              · subst e; rw [getD_set_same (by omega)]; simp
              · rw [getD_set_ne e]; simp [e]
            rw [e1]
            refine List.length_filter_lt_length_iff_exists.2 ⟨i, ?_, by simp⟩
            simp only [List.mem_filter, List.mem_range]
            exact ⟨hik, by rw [hiu.2]; rfl⟩
          omega
        · intro j hj
          rw [getD_set_ne (by omega)]
          exact htl j hj
        · intro j hj m' hm'
          by_cases e4 : m' = i
          · subst e4; exact getD_set_same (by omega)
          · rw [getD_set_ne e4]
            by_cases e5 : j = i
            · subst e5; exact waits_ready hi hm'
            · rw [getD_set_ne e5] at hj; exact hcl j hj m' hm'
        · refine ⟨by rw [defers_put]; exact hk.1, by rw [size_put]; exact hk.2.1, fun t ht' => ?_⟩
          cases hdst : o.dst with
          | none => simp only [Act.put]; exact hk.2.2 t ht'
          | some s =>
            have : s ≠ t := by
              rintro rfl
              have := List.all_eq_true.1 ht' i (by simpa using hik)
              rw [ho] at this
              simp [hdst] at this
            rw [getD_put (fun h => this h.symm)]
            exact hk.2.2 t ht'
        · intro j hj o' ho'
          by_cases e : j = i
          · subst e
            rw [ho] at ho'
            cases ho'
            cases hdst : o.dst with
            | none => rw [hvn hdst] at hV; exact hV
            | some t =>
              show kn j (_) w'
              simp only []
              rw [getD_put_self (by rw [hk.2.1]; exact ok3 j o t ho hdst)]
              exact hV
          · rw [getD_set_ne e] at hj
            have hold := hd j hj o' ho'
            have hjk : j < k0 := by
              by_cases e2 : j < k0
              · exact e2
              · rw [htl j (by omega)] at hj; cases hj
            refine ostable (hs j hjk) ?_ hbw (fun e' => hbl (fun h => e (e'.trans h.symm)))
            cases hdst' : o'.dst with
            | none => rw [hdst'] at hold; exact hold
            | some t =>
              rw [hdst'] at hold
              have hne : o.dst ≠ some t := fun hh => e (ok2 j i o' o t ho' ho hdst' hh)
              have hslot : (a.put o.dst v).tmps.getD t undef = a.tmps.getD t undef := by
                cases hdst : o.dst with
                | none => rfl
                | some s => exact getD_put (fun h => hne (by rw [hdst, h]))
              simp only [hslot]
              exact hold

theorem wp_region_one (hR : Pre R) (s0 : Nat) (ups : List Nat) (S0 : World → Prop) (hA : ancOk ops s0 ups = true) (hS : ∀ w w', S0 w → Below w.heap.size w w' → S0 w') (hSd : ∀ w, S0 w → S0 w.drew) (k0 : Nat) {id : Nat} {a : Act} {w : World} (hm : P.follows .mixedOrders = true) (hok : flowOk ops a.tmps.size = true) (ht : tailOkC ops k0 = true)
    (h0 : S0 w) (h : OneTail R s0 ups S0 P ops w a Q k0 (ops.size - k0) k0 0 (fun _ _ _ => False)) : (Code.region id ops true).wp P Q a w := by
  refine wp_region_any hm ?_
  obtain ⟨kn, hs, he⟩ := oneTail_family hok k0 0 _ (by omega) (fun m hm => absurd hm (by omega)) h
  have hk0 : k0 ≤ ops.size := by unfold tailOkC at ht; simp only [Bool.and_eq_true, decide_eq_true_eq] at ht; exact ht.1
  refine wpAny_oneTail hR hA hS hok ht hs he k0 ops.size _ a _ (by simp) ?_ (by omega) ?_ ?_ ⟨rfl, rfl, fun _ _ => rfl⟩ (hR.drew w) (fun _ => hSd _ h0) ?_
  · exact Nat.le_trans (List.length_filter_le _ _) (by simp)
  · intro j hj
    simp [Array.getD_eq_getD_getElem?, Array.getElem?_replicate]
    split <;> rfl
  · intro j hj
    simp [Array.getD_eq_getD_getElem?, Array.getElem?_replicate] at hj
    split at hj <;> simp at hj
  · intro j hj
    simp [Array.getD_eq_getD_getElem?, Array.getElem?_replicate] at hj
    split at hj <;> simp at hj
end
end Go.Proofs.YtbgconagkgfplaaGreat
end
section
namespace Go.Proofs.YtbgconagkgfplaaGreat
open Go.RowKit
set_option linter.unusedVariables false
set_option linter.unusedSimpArgs false

theorem f_ch_0_0 (g : Nat) (w : World) : (Instr.fieldAt 72 (.pointer (some ⟨g, 0, none⟩)) 0).run Tryz.prog w = .ok (.pointer (some ⟨g, 0, none⟩)) w := by simp [Instr.fieldAt, run_underlying Tryz.underlying72, Instr.sureAddr, fieldPlace, Addr.add]
theorem f_ar_0_0 (g : Nat) (w : World) : (Instr.fieldAt 25 (.pointer (some ⟨g, 0, none⟩)) 0).run Tryz.prog w = .ok (.pointer (some ⟨g, 0, none⟩)) w := by simp [Instr.fieldAt, run_underlying Tryz.underlying25, Instr.sureAddr, fieldPlace, Addr.add]
theorem f_ar_0_1 (g : Nat) (w : World) : (Instr.fieldAt 25 (.pointer (some ⟨g, 0, none⟩)) 1).run Tryz.prog w = .ok (.pointer (some ⟨g, 1, none⟩)) w := by simp [Instr.fieldAt, run_underlying Tryz.underlying25, Instr.sureAddr, fieldPlace, Addr.add]
theorem f_ar_0_2 (g : Nat) (w : World) : (Instr.fieldAt 25 (.pointer (some ⟨g, 0, none⟩)) 2).run Tryz.prog w = .ok (.pointer (some ⟨g, 2, none⟩)) w := by simp [Instr.fieldAt, run_underlying Tryz.underlying25, Instr.sureAddr, fieldPlace, Addr.add]
theorem f_en_0_1 (g : Nat) (w : World) : (Instr.fieldAt 30 (.pointer (some ⟨g, 0, none⟩)) 1).run Tryz.prog w = .ok (.pointer (some ⟨g, 1, none⟩)) w := by simp [Instr.fieldAt, run_underlying Tryz.underlying30, Instr.sureAddr, fieldPlace, Addr.add]
theorem f_va_1_5 (g : Nat) (w : World) : (Instr.fieldAt 28 (.pointer (some ⟨g, 1, none⟩)) 5).run Tryz.prog w = .ok (.pointer (some ⟨g, 6, none⟩)) w := by simp [Instr.fieldAt, run_underlying Tryz.underlying28, Instr.sureAddr, fieldPlace, Addr.add]
theorem f_va_1_6 (g : Nat) (w : World) : (Instr.fieldAt 28 (.pointer (some ⟨g, 1, none⟩)) 6).run Tryz.prog w = .ok (.pointer (some ⟨g, 7, none⟩)) w := by simp [Instr.fieldAt, run_underlying Tryz.underlying28, Instr.sureAddr, fieldPlace, Addr.add]
theorem agg_noS (w : World) : (isAgg 22).run Tryz.prog w = .ok false w := by simp [isAgg, run_underlying Tryz.underlying22]
theorem agg_noI (w : World) : (isAgg 23).run Tryz.prog w = .ok false w := by simp [isAgg, run_underlying Tryz.underlying23]
theorem agg_noZ (w : World) : (isAgg 3).run Tryz.prog w = .ok false w := by simp [isAgg, run_underlying Tryz.underlying3]
section
variable {P : Program} {ops : Array Oper} {base : World} {a0 : Act} {Q : Exit → Act → World → Prop} {kn : Nat → VP} {i : Nat} {V : VP}
theorem step_nilA (x : Operand) (p : Addr) (hop : (ops[i]?).map (·.op) = some (.nilCheck x)) (hw : Wanted ops a0 kn i) (hx : Knows ops a0 kn i x (isVal (.pointer (some p)))) : FStep P ops base a0 Q kn i (isVal (.pointer (some p))) :=
  step_pure _ hop hw fun o a w ho hk' hd => by
    have e1 : a.eval x = _ := hx a w hk' hd
    unfold execOp
    rw [ho]
    simp only [e1]
    simp
/-- A place in a row of entries. -/
theorem step_placeE (t e : TypeId) (x y : Operand) (b off n cap k at_ : Nat) (hop : (ops[i]?).map (·.op) = some (.indexAddr t x y)) (hw : Wanted ops a0 kn i) (hx : Knows ops a0 kn i x (isVal (.slice (some ⟨b, off, none⟩) n cap))) (hy : Knows ops a0 kn i y (isVal (.int .i64 (k : Int))))
    (ht : P.underlying t = some (.slice e)) (hi : (P.info? e).map (·.size) = some 9) (hk : k < n ∧ at_ = off + k * 9) : FStep P ops base a0 Q kn i (isVal (.pointer (some ⟨b, at_, none⟩))) :=
  step_pure _ hop hw fun o a w ho hk' hd => by
    have e1 : a.eval x = _ := hx a w hk' hd
    have e2 : a.eval y = _ := hy a w hk' hd
    obtain ⟨ie, hie, hz⟩ := Option.map_eq_some_iff.1 hi
    have hsz : (sizeOf e).run P w = .ok 9 w := by simp [sizeOf, typeInfo, hie, hz]
    unfold execOp
    rw [ho]
    simp only [e1, e2, Sem.run_bind]
    simp [Instr.indexAt, run_underlying ht, asIntOf, hsz, hk.1, Addr.add, hk.2]
    try (intro h0; subst h0; rfl)
/-- A struct out of the middle of a block. -/
theorem step_loadA (t : TypeId) (x : Operand) (g o : Nat) (l : List Value) (hop : (ops[i]?).map (·.op) = some (.load t x)) (hw : Wanted ops a0 kn i) (hx : Knows ops a0 kn i x (isVal (.pointer (some ⟨g, o, none⟩))))
    (hs : (P.info? t).map (·.size) = some l.length) (ha : ∀ w, (isAgg t).run P w = .ok true w) (hc : g < base.heap.size ∧ ∀ (j : Nat) (x : Value), l[j]? = some x → base.cell? ⟨g, o + j, none⟩ = some x) : FStep P ops base a0 Q kn i (isVal (.agg l.toArray)) :=
  step_mk (stable_val _) hw fun op ho a w hk hb hd => by
    have e1 : a.eval x = .pointer (some ⟨g, o, none⟩) := hx a w hk hd
    have hc' : ∀ (j : Nat) (x : Value), l[j]? = some x → w.cell? ⟨g, o + j, none⟩ = some x := fun j x hx => (hb.cell (p := ⟨g, o + j, none⟩) hc.1).trans (hc.2 j x hx)
    obtain ⟨ie, hie, hz⟩ := Option.map_eq_some_iff.1 hs
    have hsz : (sizeOf t).run P w = .ok l.length w := by simp [sizeOf, typeInfo, hie, hz]
    have hl := loadCellsO (P := P) g o w l hc' 0 l #[] rfl
    have e2 : (loadVar t ⟨g, o, none⟩).run P w = .ok (.agg l.toArray) w := by
      simp only [loadVar, Sem.run_bind, ha, Result.andThen_ok, if_true, hsz, loadCells, hl, Sem.run_pure]
      simp
    unfold Oper.wp execOp
    rw [op_of hop ho]
    simp only [e1, Instr.loadAt, Instr.sureAddr, Sem.run_bind, Sem.run_pure, Result.andThen_ok, e2, Oper.upon]
    exact ⟨_, rfl, rfl, Below.refl _ _⟩
end
/-- All is as it was, but for block s. -/
structure But (s : Nat) (w w' : World) : Prop where
  os : w'.os = w.os
  tape : w'.tape = w.tape
  output : w'.output = w.output
  size : w.heap.size ≤ w'.heap.size
  block : ∀ b, b < w.heap.size → b ≠ s → w'.heap[b]? = w.heap[b]?
theorem but_pre (s : Nat) : Pre (But s) where
  refl w := ⟨rfl, rfl, rfl, Nat.le_refl _, fun _ _ _ => rfl⟩
  trans a b c h1 h2 := ⟨h2.os.trans h1.os, h2.tape.trans h1.tape, h2.output.trans h1.output, Nat.le_trans h1.size h2.size, fun i hi hne => (h2.block i (Nat.lt_of_lt_of_le hi h1.size) hne).trans (h1.block i hi hne)⟩
  grow w w' h := ⟨h.os, h.tape, h.output, h.size, fun b hb _ => h.block b hb⟩
  drew w := ⟨rfl, rfl, rfl, Nat.le_refl _, fun _ _ _ => rfl⟩
theorem But.cell {s : Nat} {w w' : World} (h : But s w w') {p : Addr} (hlt : p.block < w.heap.size) (hne : p.block ≠ s) : w'.cell? p = w.cell? p := World.cell?_of_block (w := w) (h.block p.block hlt hne)
theorem But.frozen {s : Nat} {w w' : World} (h : But s w w') {p : Addr} (hlt : p.block < w.heap.size) (hne : p.block ≠ s) : w'.frozen? p = w.frozen? p := World.frozen?_of_block (w := w) (h.block p.block hlt hne)
theorem But.below {s B : Nat} {w w' : World} (h : But s w w') (hB : B ≤ s) (hs : B ≤ w.heap.size) : Below B w w' := ⟨h.os, h.tape, h.output, h.size, fun b hb => h.block b (by omega) (by omega)⟩
theorem But.own {s B : Nat} {w w' : World} {e : TypeId} {size : Nat} {v : Value} {n : Nat} {xs : List Value} (h : But s w w') (ho : w.ownsRow B e size v n xs) (hne : ∀ g, v.ownBlock = some g → g ≠ s) : w'.ownsRow B e size v n xs := by
  obtain ⟨hl, h1 | ⟨g, cap, cur, hv, hB, hg, rest⟩⟩ := ho
  · exact ⟨hl, .inl h1⟩
  · exact ⟨hl, .inr ⟨g, cap, cur, hv, hB, (h.block g (Array.getElem?_eq_some_iff.1 hg).1 (hne g (by rw [hv]; rfl))).trans hg, rest⟩⟩
theorem But.cells {s : Nat} {w w' : World} {cs : List Value} {v : Value} (h : But s w w') (hc : isCells cs v w) (hne : cs = [] ∨ blk v ≠ some s) : isCells cs v w' := by
  rcases hc with hc | hc | ⟨b, off, cap, e, hlt, hc⟩
  · exact .inl hc
  · exact .inr (.inl hc)
  rcases hne with rfl | hne
  · exact .inr (.inl ⟨_, _, e, rfl⟩)
  · exact .inr (.inr ⟨b, off, cap, e, Nat.lt_of_lt_of_le hlt h.size, fun j x hx => (h.cell (p := ⟨b, off + j, none⟩) hlt (by rintro rfl; apply hne; rw [e]; rfl)).trans (hc j x hx)⟩)
theorem off_size {cs : List Value} {v : Value} {w : World} (hc : isCells cs v w) {s : Nat} (hs : w.heap.size ≤ s) : cs = [] ∨ blk v ≠ some s := by
  rcases hc with hc | ⟨_, _, _, hc⟩ | ⟨b, off, cap, e, hlt, hc⟩
  · exact .inl hc.2
  · exact .inl hc
  · refine .inr ?_
    rw [e]; intro h; injection h with h; have : b = s := h; omega
theorem But.blk {s g : Nat} {w w' : World} {cs : List Value} (h : But s w w') (hb : Blk w g cs) (hne : g ≠ s) : Blk w' g cs :=
  ⟨⟨Nat.lt_of_lt_of_le hb.lt h.size, fun j x hx => (h.cell (p := ⟨g, j, none⟩) hb.lt hne).trans (hb.cells.2 j x hx)⟩, fun j => (h.frozen (p := ⟨g, j, none⟩) hb.lt hne).trans (hb.free j)⟩
theorem stabR_val' (R : World → World → Prop) (v : Value) : StableR R (isVal v) := fun _ _ _ h _ => h
end Go.Proofs.YtbgconagkgfplaaGreat
end
section
namespace Go.Proofs.YtbgconagkgfplaaGreat
open Go.RowKit
set_option linter.unusedVariables false
set_option linter.unusedSimpArgs false
attribute [local irreducible] setN

theorem ownR {s B : Nat} {e : TypeId} (h : s < B) (cs : List Value) : StableR (But s) (isOwn B e cs) := fun v w w' ho hb => hb.own ho (fun g hg => by
  obtain ⟨_, ⟨rfl, _⟩ | ⟨g', cap, cur, rfl, hB, _⟩⟩ := ho
  · simp [Value.ownBlock] at hg
  · simp [Value.ownBlock] at hg; omega)
theorem own_new {B : Nat} {e : TypeId} {cs : List Value} {v : Value} {w : World} (h : isOwn B e cs v w) : NewB B v := by
  obtain ⟨_, ⟨rfl, _⟩ | ⟨g', cap, cur, rfl, hB, _⟩⟩ := h
  · exact newB_nil _
  · exact newB_row hB _ _ _
section
variable {P : Program} {ops : Array Oper} {base : World} {a0 : Act} {Q : Exit → Act → World → Prop} {k0 : Nat} {kn : Nat → VP} {i : Nat} {ups : List Nat}
/-- A row of one's own laid into a struct's cell. -/
theorem ostep_row {t : TypeId} (e : TypeId) (g k B : Nat) (cs : List Value) (l : List Value) (x y : Operand) (hop : (ops[i]?).map (fun o => (o.op, o.guard, o.dst)) = some (.store t x y, none, none)) (hx : Knows ops a0 kn i x (isVal (.pointer (some ⟨g, k, none⟩)))) (hy : Knows ops a0 kn i y (isOwn B e cs))
    (hs : (P.info? t).map (·.size) = some 1) (hk : k < l.length) (hg : g < B) : OStep (But g) i ups (fun w => Blk w g l) P ops base a0 Q k0 kn i (fun _ w => ∃ v, isOwn B e cs v w ∧ Blk w g (l.set k v)) := by
  refine ⟨⟨fun _ => ?_, fun h => absurd rfl h⟩, fun o ho a w hk0 hb h0 hd => ?_⟩
  · rintro u w w' ⟨v, h1, h2⟩ hb
    exact ⟨v, stable_own _ _ _ _ _ _ h1 hb, h2.keep hb⟩
  · have hkf := hk0.f
    have HB := h0 (.inl rfl)
    rw [ho] at hop
    simp only [Option.map_some, Option.some.injEq, Prod.mk.injEq] at hop
    obtain ⟨ho1, ho2, ho3⟩ := hop
    have hd' : FDeps ops kn i a w := fun o' ho' e he hbd => rdone_f (hd o' ho' e he hbd)
    have e1 : a.eval x = _ := hx a w hkf hd'
    have e2 : isOwn B e cs (a.eval y) w := hy a w hkf hd'
    generalize hev : a.eval y = v at e2
    unfold wpOp
    simp only [ho]
    rw [show Region.wanted o (yielded ops a.tmps) = true by simp [Region.wanted, ho2]]
    refine .inl ?_
    have hone := e2.one
    obtain ⟨old, hc⟩ : ∃ old, w.cell? ⟨g, k, none⟩ = some old := ⟨_, HB.cells.2 k _ (List.getElem?_eq_getElem hk)⟩
    obtain ⟨ie, hie, hz⟩ := Option.map_eq_some_iff.1 hs
    have hsz : (sizeOf t).run P w = .ok 1 w := by simp [sizeOf, typeInfo, hie, hz]
    have hf := HB.free k
    have hst : (storeCells ⟨g, k, none⟩ [v]).run P w = .ok () (w.setCell ⟨g, k, none⟩ v) := by
      unfold storeCells
      rw [Sem.run_bind, show (⟨g, k, none⟩ : Addr).add 0 = ⟨g, k, none⟩ by simp [Addr.add], run_store P w _ v _ hone.2, hc]
      simp [hf, storeCells]
    unfold Oper.wp execOp
    rw [ho1]
    simp only [e1, hev, Instr.storeAt, Instr.sureAddr, Sem.run_bind, Sem.run_pure, Result.andThen_ok, storeVar, hsz, hone.1]
    rw [if_neg (by simp), hst]
    simp only [Result.andThen_ok, Oper.upon]
    exact ⟨undef, rfl, fun _ => rfl, ⟨v, e2.set (p := ⟨g, k, none⟩) hg v, HB.set k v hk⟩, ⟨rfl, rfl, rfl, by simp, fun b _ hne => Below.heap_setCell w ⟨g, k, none⟩ v b hne⟩, fun h => absurd rfl h⟩
end
noncomputable def twinOps : Array Oper := regionOf Tryz.f90 1
set_option maxRecDepth 100000 in
set_option maxHeartbeats 2000000 in
theorem twin_region (Q : Exit → Act → World → Prop) (a0 : Act) (w0 : World) (hsz : a0.tmps.size = 16) (g B : Nat) (E : En) (vp vm : Value) (h1 : a0.tmps.getD 1 undef = .pointer (some ⟨g, 0, none⟩)) (HB : Blk w0 g [.string ⟨E.key.toArray⟩, .int .i64 E.val.kind, .int .i64 E.val.time, .int .i64 E.val.node, .bool E.val.dead, .string ⟨E.val.text.toArray⟩, vp, vm, .int .u64 (E.val.flags.toNat : Int)]) (hp : isCells (E.val.plus.map intC) vp w0) (hm : isCells (E.val.minus.map intC) vm w0)
    (op : E.val.plus.map intC = [] ∨ blk vp ≠ some g) (om : E.val.minus.map intC = [] ∨ blk vm ≠ some g) (lp : E.val.plus.length * 8 ≤ 140737488355328) (lm : E.val.minus.length * 8 ≤ 140737488355328) (hB : B ≤ w0.heap.size) (hg : g < B)
    (hQ : ∀ (y : Nat → Value) (vp' vm' : Value) (w : World), isOwn B 3 (E.val.plus.map intC) vp' w → isOwn B 3 (E.val.minus.map intC) vm' w → Blk w g [.string ⟨E.key.toArray⟩, .int .i64 E.val.kind, .int .i64 E.val.time, .int .i64 E.val.node, .bool E.val.dead, .string ⟨E.val.text.toArray⟩, vp', vm', .int .u64 (E.val.flags.toNat : Int)] → But g w0 w → Q .normal { tmps := [3, 4, 5, 6, 7, 8, 9, 10, 11, 12, 13, 14].foldl (fun t s => t.setIfInBounds s (y s)) a0.tmps, defers := a0.defers } w) :
    (Code.region 1 twinOps true).wp Tryz.prog Q a0 w0 := by
  have hR := but_pre g
  refine wp_region_one hR 10 [0, 1, 2, 3, 4, 5, 6, 7, 8, 9] (fun w => Blk w g [.string ⟨E.key.toArray⟩, .int .i64 E.val.kind, .int .i64 E.val.time, .int .i64 E.val.node, .bool E.val.dead, .string ⟨E.val.text.toArray⟩, vp, vm, .int .u64 (E.val.flags.toNat : Int)]) (by kernel_rfl) (fun _ _ h hb => h.keep hb) (fun _ h => h.keep ((Below.refl _ _).drew)) 13 mixed (by rw [hsz]; kernel_rfl) (by kernel_rfl) HB ?_
  rw [show twinOps.size - 13 = 1 by kernel_rfl]
  refine ⟨isVal (.pointer (some ⟨g, 1, none⟩)), OStep.ofS hR (by decide) (by decide) (stabR_val' _ _) (by kernel_rfl) (by intro w hr hS; exact step_field 30 (.tmp 1) 1 ⟨g, 0, none⟩ ⟨g, 1, none⟩ (by kernel_rfl) (wanted_none (by kernel_rfl)) (knows_old 1 (.pointer (some ⟨g, 0, none⟩)) (by kernel_rfl) h1) (f_en_0_1 (g))), ?_⟩
  refine ⟨isVal (.pointer (some ⟨g, 6, none⟩)), OStep.ofS hR (by decide) (by decide) (stabR_val' _ _) (by kernel_rfl) (by intro w hr hS; exact step_field 28 (.tmp 3) 5 ⟨g, 1, none⟩ ⟨g, 6, none⟩ (by kernel_rfl) (wanted_none (by kernel_rfl)) (knows_new (V := isVal (.pointer (some ⟨g, 1, none⟩))) 3 0 (by kernel_rfl) (by kernel_rfl) (by kernel_rfl)) (f_va_1_5 (g))), ?_⟩
  refine ⟨isVal vp, OStep.ofS hR (by decide) (by decide) (stabR_val' _ _) (by kernel_rfl) (by intro w hr hS; exact step_read 23 (.tmp 4) ⟨g, 6, none⟩ vp (by kernel_rfl) (wanted_none (by kernel_rfl)) (knows_new (V := isVal (.pointer (some ⟨g, 6, none⟩))) 4 1 (by kernel_rfl) (by kernel_rfl) (by kernel_rfl)) (hS.cells.2 6 _ rfl) (hS.lt) (agg_noI)), ?_⟩
  refine ⟨(isOwn B 3 (E.val.plus.map intC)), OStep.ofS hR (by decide) (by decide) (ownR (by omega) _) (by kernel_rfl) (by intro w hr hS; exact step_call 96 #[.tmp 5] #[23] #[vp] (by kernel_rfl) (wanted_none (by kernel_rfl)) (stable_own _ _ _) (args1 (.tmp 5) vp (knows_new (V := isVal vp) 5 2 (by kernel_rfl) (by kernel_rfl) (by kernel_rfl))) (enters_of Tryz.func96 (by kernel_rfl) rfl) (by intro w' hb; exact clone_i' B E.val.plus vp w' (stable_cells _ _ _ _ (hr.cells hp op) hb) lp (Nat.le_trans hB (Nat.le_trans hr.size hb.size)))), ?_⟩
  refine ⟨isVal (.pointer (some ⟨g, 1, none⟩)), OStep.ofS hR (by decide) (by decide) (stabR_val' _ _) (by kernel_rfl) (by intro w hr hS; exact step_field 30 (.tmp 1) 1 ⟨g, 0, none⟩ ⟨g, 1, none⟩ (by kernel_rfl) (wanted_none (by kernel_rfl)) (knows_old 1 (.pointer (some ⟨g, 0, none⟩)) (by kernel_rfl) h1) (f_en_0_1 (g))), ?_⟩
  refine ⟨isVal (.pointer (some ⟨g, 7, none⟩)), OStep.ofS hR (by decide) (by decide) (stabR_val' _ _) (by kernel_rfl) (by intro w hr hS; exact step_field 28 (.tmp 7) 6 ⟨g, 1, none⟩ ⟨g, 7, none⟩ (by kernel_rfl) (wanted_none (by kernel_rfl)) (knows_new (V := isVal (.pointer (some ⟨g, 1, none⟩))) 7 4 (by kernel_rfl) (by kernel_rfl) (by kernel_rfl)) (f_va_1_6 (g))), ?_⟩
  refine ⟨isVal vm, OStep.ofS hR (by decide) (by decide) (stabR_val' _ _) (by kernel_rfl) (by intro w hr hS; exact step_read 23 (.tmp 8) ⟨g, 7, none⟩ vm (by kernel_rfl) (wanted_none (by kernel_rfl)) (knows_new (V := isVal (.pointer (some ⟨g, 7, none⟩))) 8 5 (by kernel_rfl) (by kernel_rfl) (by kernel_rfl)) (hS.cells.2 7 _ rfl) (hS.lt) (agg_noI)), ?_⟩
  refine ⟨(isOwn B 3 (E.val.minus.map intC)), OStep.ofS hR (by decide) (by decide) (ownR (by omega) _) (by kernel_rfl) (by intro w hr hS; exact step_call 96 #[.tmp 9] #[23] #[vm] (by kernel_rfl) (wanted_none (by kernel_rfl)) (stable_own _ _ _) (args1 (.tmp 9) vm (knows_new (V := isVal vm) 9 6 (by kernel_rfl) (by kernel_rfl) (by kernel_rfl))) (enters_of Tryz.func96 (by kernel_rfl) rfl) (by intro w' hb; exact clone_i' B E.val.minus vm w' (stable_cells _ _ _ _ (hr.cells hm om) hb) lm (Nat.le_trans hB (Nat.le_trans hr.size hb.size)))), ?_⟩
  refine ⟨isVal (.pointer (some ⟨g, 1, none⟩)), OStep.ofS hR (by decide) (by decide) (stabR_val' _ _) (by kernel_rfl) (by intro w hr hS; exact step_field 30 (.tmp 1) 1 ⟨g, 0, none⟩ ⟨g, 1, none⟩ (by kernel_rfl) (wanted_none (by kernel_rfl)) (knows_old 1 (.pointer (some ⟨g, 0, none⟩)) (by kernel_rfl) h1) (f_en_0_1 (g))), ?_⟩
  refine ⟨isVal (.pointer (some ⟨g, 6, none⟩)), OStep.ofS hR (by decide) (by decide) (stabR_val' _ _) (by kernel_rfl) (by intro w hr hS; exact step_field 28 (.tmp 11) 5 ⟨g, 1, none⟩ ⟨g, 6, none⟩ (by kernel_rfl) (wanted_none (by kernel_rfl)) (knows_new (V := isVal (.pointer (some ⟨g, 1, none⟩))) 11 8 (by kernel_rfl) (by kernel_rfl) (by kernel_rfl)) (f_va_1_5 (g))), ?_⟩
  refine ⟨(fun _ w => ∃ vp', isOwn B 3 (E.val.plus.map intC) vp' w ∧ Blk w g [.string ⟨E.key.toArray⟩, .int .i64 E.val.kind, .int .i64 E.val.time, .int .i64 E.val.node, .bool E.val.dead, .string ⟨E.val.text.toArray⟩, vp', vm, .int .u64 (E.val.flags.toNat : Int)]), ostep_row (t := 23) 3 g 6 B (E.val.plus.map intC) [.string ⟨E.key.toArray⟩, .int .i64 E.val.kind, .int .i64 E.val.time, .int .i64 E.val.node, .bool E.val.dead, .string ⟨E.val.text.toArray⟩, vp, vm, .int .u64 (E.val.flags.toNat : Int)] (.tmp 12) (.tmp 6) (by kernel_rfl) (knows_new (V := isVal (.pointer (some ⟨g, 6, none⟩))) 12 9 (by kernel_rfl) (by kernel_rfl) (by kernel_rfl)) (knows_new (V := (isOwn B 3 (E.val.plus.map intC))) 6 3 (by kernel_rfl) (by kernel_rfl) (by kernel_rfl)) (by kernel_rfl) (by simp) (by omega), ?_⟩
  refine ⟨isVal (.pointer (some ⟨g, 1, none⟩)), OStep.of hR (by decide) (stabR_val' _ _) (by kernel_rfl) (by intro w hr; exact step_field 30 (.tmp 1) 1 ⟨g, 0, none⟩ ⟨g, 1, none⟩ (by kernel_rfl) (wanted_none (by kernel_rfl)) (knows_old 1 (.pointer (some ⟨g, 0, none⟩)) (by kernel_rfl) h1) (f_en_0_1 (g))), ?_⟩
  refine ⟨isVal (.pointer (some ⟨g, 7, none⟩)), OStep.of hR (by decide) (stabR_val' _ _) (by kernel_rfl) (by intro w hr; exact step_field 28 (.tmp 13) 6 ⟨g, 1, none⟩ ⟨g, 7, none⟩ (by kernel_rfl) (wanted_none (by kernel_rfl)) (knows_new (V := isVal (.pointer (some ⟨g, 1, none⟩))) 13 11 (by kernel_rfl) (by kernel_rfl) (by kernel_rfl)) (f_va_1_6 (g))), ?_⟩
  intro a w hk0 hb hd
  have d10 : ∃ vp', isOwn B 3 (E.val.plus.map intC) vp' w ∧ Blk w g ([.string ⟨E.key.toArray⟩, .int .i64 E.val.kind, .int .i64 E.val.time, .int .i64 E.val.node, .bool E.val.dead, .string ⟨E.val.text.toArray⟩, vp, vm, .int .u64 (E.val.flags.toNat : Int)].set 6 vp') := by
    have := hd 10 (by decide)
    obtain ⟨o, ho⟩ : ∃ o, twinOps[10]? = some o := ⟨_, rfl⟩
    exact this o ho
  obtain ⟨vp', hop', HB'⟩ := d10
  have d10' := fdone_of (rdone_f (hd 7 (by decide))) (t := 10) (V := isOwn B 3 (E.val.minus.map intC)) (by kernel_rfl) (by kernel_rfl)
  have d14 := fdone_of (rdone_f (hd 12 (by decide))) (t := 14) (V := isVal (.pointer (some ⟨g, 7, none⟩))) (by kernel_rfl) (by kernel_rfl)
  generalize hv : a.tmps.getD 10 undef = vm' at d10'
  refine tail_store 23 (.tmp 14) (.tmp 10) ⟨g, 7, none⟩ vm' vm (by kernel_rfl) (by kernel_rfl) d14 hv (by kernel_rfl) d10'.one.1 d10'.one.2 (HB'.cells.2 7 _ rfl) (HB'.free 7) ?_
  obtain ⟨y, ey⟩ := kept_ex hk0.f [some 3, some 4, some 5, some 6, some 7, some 8, some 9, some 10, some 11, some 12, none, some 13, some 14, none] [3, 4, 5, 6, 7, 8, 9, 10, 11, 12, 13, 14] (by kernel_rfl) (by decide)
  rw [ey]
  exact hQ y vp' vm' _ (hop'.set (p := ⟨g, 7, none⟩) hg vm') (d10'.set (p := ⟨g, 7, none⟩) hg vm') (HB'.set 7 vm' (by simp)) (hR.trans _ _ _ hb ⟨rfl, rfl, rfl, by simp, fun b _ hne => Below.heap_setCell w ⟨g, 7, none⟩ vm' b hne⟩)
set_option maxRecDepth 100000 in
set_option maxHeartbeats 2000000 in
theorem twin_any (E : En) (v : Value) (w : World) (hv : isEn E v w) (hF : FitE E) : Calls Tryz.prog 90 #[v] w fun e w' => ∃ v', e = .returned v' ∧ isEnN w.heap.size E v' w' ∧ Below w.heap.size w w' := by
  obtain ⟨vp, vm, rfl, hp, hm⟩ := hv
  have op := off_size hp (Nat.le_refl _)
  have om := off_size hm (Nat.le_refl _)
  have hb1 : Below w.heap.size w ((w.alloc (.cells #[.string ⟨E.key.toArray⟩, .int .i64 E.val.kind, .int .i64 E.val.time, .int .i64 E.val.node, .bool E.val.dead, .string ⟨E.val.text.toArray⟩, vp, vm, .int .u64 (E.val.flags.toNat : Int)] 30)).alloc (.cells #[.string ⟨#[]⟩, .int .i64 0, .int .i64 0, .int .i64 0, .bool false, .string ⟨#[]⟩, .slice none 0 0, .slice none 0 0, .int .u64 0] 30)) := ((Below.refl _ w).alloc (Nat.le_refl _) _).alloc (by simp) _
  have HB : Blk ((w.alloc (.cells #[.string ⟨E.key.toArray⟩, .int .i64 E.val.kind, .int .i64 E.val.time, .int .i64 E.val.node, .bool E.val.dead, .string ⟨E.val.text.toArray⟩, vp, vm, .int .u64 (E.val.flags.toNat : Int)] 30)).alloc (.cells #[.string ⟨#[]⟩, .int .i64 0, .int .i64 0, .int .i64 0, .bool false, .string ⟨#[]⟩, .slice none 0 0, .slice none 0 0, .int .u64 0] 30)) w.heap.size [.string ⟨E.key.toArray⟩, .int .i64 E.val.kind, .int .i64 E.val.time, .int .i64 E.val.node, .bool E.val.dead, .string ⟨E.val.text.toArray⟩, vp, vm, .int .u64 (E.val.flags.toNat : Int)] := (Blk.new w 30 _ _ rfl).alloc _
  have HR : Blk ((w.alloc (.cells #[.string ⟨E.key.toArray⟩, .int .i64 E.val.kind, .int .i64 E.val.time, .int .i64 E.val.node, .bool E.val.dead, .string ⟨E.val.text.toArray⟩, vp, vm, .int .u64 (E.val.flags.toNat : Int)] 30)).alloc (.cells #[.string ⟨#[]⟩, .int .i64 0, .int .i64 0, .int .i64 0, .bool false, .string ⟨#[]⟩, .slice none 0 0, .slice none 0 0, .int .u64 0] 30)) (w.heap.size + 1) [.string ⟨#[]⟩, .int .i64 0, .int .i64 0, .int .i64 0, .bool false, .string ⟨#[]⟩, .slice none 0 0, .slice none 0 0, .int .u64 0] := Blk.new (w.alloc (.cells #[.string ⟨E.key.toArray⟩, .int .i64 E.val.kind, .int .i64 E.val.time, .int .i64 E.val.node, .bool E.val.dead, .string ⟨E.val.text.toArray⟩, vp, vm, .int .u64 (E.val.flags.toNat : Int)] 30)) 30 _ _ (by simp)
  have hs : ((w.alloc (.cells #[.string ⟨E.key.toArray⟩, .int .i64 E.val.kind, .int .i64 E.val.time, .int .i64 E.val.node, .bool E.val.dead, .string ⟨E.val.text.toArray⟩, vp, vm, .int .u64 (E.val.flags.toNat : Int)] 30)).alloc (.cells #[.string ⟨#[]⟩, .int .i64 0, .int .i64 0, .int .i64 0, .bool false, .string ⟨#[]⟩, .slice none 0 0, .slice none 0 0, .int .u64 0] 30)).heap.size = w.heap.size + 2 := by simp
  have hp1 := stable_cells _ _ _ _ hp hb1
  have hm1 := stable_cells _ _ _ _ hm hb1
  have lp := hF.val.plus
  have lm := hF.val.minus
  go_enter Tryz.func90, Tryz.ntmps90
  go_wp2_with fail
  generalize ((w.alloc (.cells #[.string ⟨E.key.toArray⟩, .int .i64 E.val.kind, .int .i64 E.val.time, .int .i64 E.val.node, .bool E.val.dead, .string ⟨E.val.text.toArray⟩, vp, vm, .int .u64 (E.val.flags.toNat : Int)] 30)).alloc (.cells #[.string ⟨#[]⟩, .int .i64 0, .int .i64 0, .int .i64 0, .bool false, .string ⟨#[]⟩, .slice none 0 0, .slice none 0 0, .int .u64 0] 30)) = W0 at *
  refine twin_region _ _ _ rfl w.heap.size (w.heap.size + 2) E vp vm rfl HB hp1 hm1 op om (by omega) (by omega) (by omega) (by omega) ?_
  intro y vp' vm' W hop hom HB' hbut
  simp only [List.foldl_cons, List.foldl_nil]
  generalize y 3 = z3
  generalize y 4 = z4
  generalize y 5 = z5
  generalize y 6 = z6
  generalize y 7 = z7
  generalize y 8 = z8
  generalize y 9 = z9
  generalize y 10 = z10
  generalize y 11 = z11
  generalize y 12 = z12
  generalize y 13 = z13
  generalize y 14 = z14
  simp only [List.setIfInBounds_toArray, List.set_cons_succ, List.set_cons_zero]
  have HR' := hbut.blk HR (by omega)
  have HO : Kept (Ones [.string ⟨E.key.toArray⟩, .int .i64 E.val.kind, .int .i64 E.val.time, .int .i64 E.val.node, .bool E.val.dead, .string ⟨E.val.text.toArray⟩, vp', vm', .int .u64 (E.val.flags.toNat : Int)]) := ⟨⟨rfl, rfl, rfl, rfl, rfl, rfl, hop.one.2, hom.one.2, rfl, trivial⟩⟩
  have KB : Kept (Below w.heap.size w W) := ⟨hb1.trans (hbut.below (Nat.le_refl _) (by omega))⟩
  have KR := Kept.mk HR'
  have KP := Kept.mk hop
  have KM := Kept.mk hom
  have kx0 := HB'.cells.2 0 _ rfl
  have kx1 := HB'.cells.2 1 _ rfl
  have kx2 := HB'.cells.2 2 _ rfl
  have kx3 := HB'.cells.2 3 _ rfl
  have kx4 := HB'.cells.2 4 _ rfl
  have kx5 := HB'.cells.2 5 _ rfl
  have kx6 := HB'.cells.2 6 _ rfl
  have kx7 := HB'.cells.2 7 _ rfl
  have kx8 := HB'.cells.2 8 _ rfl
  clear HB HR hb1 hp hm hp1 hm1 op om hop hom HB' hbut HR'
  go_wp2_with (have hz0 := HO; refine wpList_storeN 30 rfl (.tmp 2) (.tmp 15) rfl (w.heap.size + 1) [.string ⟨E.key.toArray⟩, .int .i64 E.val.kind, .int .i64 E.val.time, .int .i64 E.val.node, .bool E.val.dead, .string ⟨E.val.text.toArray⟩, vp', vm', .int .u64 (E.val.flags.toNat : Int)] size_en rfl rfl KR.out.cells rfl KR.out.free HO.out ?_; clear hz0 HO)
  have hR2 := (KR.out.all_ (l := [.string ⟨E.key.toArray⟩, .int .i64 E.val.kind, .int .i64 E.val.time, .int .i64 E.val.node, .bool E.val.dead, .string ⟨E.val.text.toArray⟩, vp', vm', .int .u64 (E.val.flags.toNat : Int)]) rfl).cells
  exact bodyPost_ret (resultsN1 rfl _ _ (w.heap.size + 1) _ size_en agg_en rfl hR2) rfl ⟨_, rfl, ⟨vp', vm', rfl, (KP.out.setN_ (by omega) _ 0 _).cells, (KM.out.setN_ (by omega) _ 0 _).cells, (own_new KP.out).low (by omega), (own_new KM.out).low (by omega)⟩, below_setN (by omega) _ 0 _ KB.out⟩
end Go.Proofs.YtbgconagkgfplaaGreat
end
section
namespace Go.Proofs.YtbgconagkgfplaaGreat
open Go.RowKit
set_option linter.unusedVariables false
set_option linter.unusedSimpArgs false

set_option maxRecDepth 100000 in
set_option maxHeartbeats 2000000 in
theorem room_any (n : Int) (w : World) : Calls Tryz.prog 84 #[.int .i64 n] w fun e w' => e = .returned (.bool (roomB n)) ∧ Below w.heap.size w w' := by
  have HR := Kept.mk (show roomB n = (decide (1 ≤ n) && decide (n ≤ 8)) from rfl)
  go_enter Tryz.func84, Tryz.ntmps84
  by_cases h1 : 1 ≤ n
  · rw [decide_eq_true h1, Bool.true_and] at HR
    by_cases h8 : n ≤ 8
    · rw [decide_eq_true h8] at HR
      go_wp2
      go_ret
      exact ⟨by rw [HR.out]; rfl, Below.refl _ _⟩
    · rw [decide_eq_false h8] at HR
      go_wp2
      go_ret
      exact ⟨by rw [HR.out]; rfl, Below.refl _ _⟩
  · rw [decide_eq_false h1, Bool.false_and] at HR
    go_wp2
    go_ret
    exact ⟨by rw [HR.out]; rfl, Below.refl _ _⟩
set_option maxRecDepth 100000 in
set_option maxHeartbeats 2000000 in
theorem ents1_any (E : En) (v : Value) (w : World) (hv : isEn E v w) (hF : FitE E) : Calls Tryz.prog 116 #[v] w fun e w' => e = .returned (.bool (!okE E)) ∧ Below w.heap.size w w' := by
  obtain ⟨p, m, rfl, hp, hm⟩ := hv
  obtain ⟨hB, Ve⟩ := ebox w E p m hp hm w.heap.size rfl
  clear hp hm
  obtain ⟨qe, re, xe, ye, ke0, ke1, ke2, ke3, ke4, ke5, ke6, ke7, ke8⟩ := Ve.out.open_
  have X := Kept.mk xe
  clear xe ye
  go_enter Tryz.func116, Tryz.ntmps116
  go_wp2_with fail
  refine (echeck_any E _ _ X.out hF).mono ?_
  rintro e W1 ⟨rfl, hb⟩
  replace hB := Kept.mk (hB.out.trans (hb.mono hB.out.size))
  clear hb X Ve ke0 ke1 ke2 ke3 ke4 ke5 ke6 ke7 ke8
  cases hok : okE E with
  | true =>
    rw [chk_ok hok]
    go_wp2
    go_ret
    exact ⟨by rw [hok]; rfl, hB.out⟩
  | false =>
    rw [chk_no hok]
    go_wp2
    go_ret
    exact ⟨by rw [hok]; rfl, hB.out⟩
set_option maxRecDepth 100000 in
set_option maxHeartbeats 2000000 in
theorem index_ents (l : List En) (v : Value) (w : World) (hv : isEns l v w) (hF : ∀ e ∈ l, FitE e) (hl : l.length ≤ 1000) : Calls Tryz.prog 114 #[v, .func (.func 116) #[] #[]] w fun e w' => ∃ r : Int, e = .returned (.int .i64 r) ∧ decide (0 ≤ r) = !l.all okE ∧ Below w.heap.size w w' := by
  have eg : ∀ args w, (callFunc 116 args).run Tryz.prog w = .ok (.enter 116 args) w := enters_of Tryz.func116 (by kernel_rfl) rfl
  rcases hv.cases_ with ⟨a, cap, rfl, rfl⟩ | ⟨b, off, cap, rfl, hb0, hc⟩
  · go_enter Tryz.func114, Tryz.ntmps114
    go_wp2
    go_loopw [5, 8] (fun _ i wr => i = .int .i64 0 ∧ Kept (Below w.heap.size w wr)) (fun _ i _ => 0)
    case atStart => exact ⟨rfl, ⟨Below.refl _ _⟩⟩
    case round =>
      obtain ⟨rfl, B⟩ := hrel
      go_wp2
      go_ret
      exact ⟨-1, rfl, rfl, B.out⟩
  · have HC := Kept.mk hc
    have HF := Kept.mk hF
    clear hc hv hF
    generalize hn : l.length = n at hl
    go_enter Tryz.func114, Tryz.ntmps114
    go_wp2
    go_loopw [5, 8] (fun _ i wr => ∃ k : Nat, k ≤ n ∧ i = .int .i64 (k : Int) ∧ Kept (Below w.heap.size w wr) ∧ Kept (∀ j E, j < k → l[j]? = some E → okE E = true)) (fun _ i _ => n - (intOf i).toNat)
    case atStart => exact ⟨0, Nat.zero_le _, rfl, ⟨Below.refl _ _⟩, ⟨fun j E h => absurd h (Nat.not_lt_zero _)⟩⟩
    case round =>
      obtain ⟨k, hk, rfl, B, A⟩ := hrel
      by_cases hlt : k < n
      · have hlt' : (k : Int) < (n : Int) := by omega
        obtain ⟨E, hE⟩ : ∃ E, l[k]? = some E := ⟨_, List.getElem?_eq_getElem (by omega)⟩
        obtain ⟨vp, vm, x0, y0, kc0, kc1, kc2, kc3, kc4, kc5, kc6, kc7, kc8⟩ := (HC.out k E hE).keep B.out hb0 |>.open_
        have X := Kept.mk x0
        have FE := Kept.mk (HF.out E (List.mem_of_getElem? hE))
        have HE := Kept.mk hE
        clear x0 y0 hE
        go_wp2_with fail
        refine (ents1_any E _ _ X.out FE.out).mono ?_
        rintro e W1 ⟨rfl, hb⟩
        replace B := Kept.mk (B.out.trans (hb.mono B.out.size))
        clear hb X kc0 kc1 kc2 kc3 kc4 kc5 kc6 kc7 kc8
        cases hok : okE E with
        | true =>
          have HO := Kept.mk hok
          clear hok
          go_wp2
          go_roundw
          case rel =>
            refine ⟨k + 1, by omega, by go_num, B, ⟨fun j E' hj h => ?_⟩⟩
            by_cases e : j = k
            · subst e; rw [HE.out] at h; injection h with h; rw [← h]; exact HO.out
            · exact A.out j E' (by omega) h
          case measure => simp [intOf]; omega
        | false =>
          go_wp2
          go_ret
          refine ⟨k, rfl, ?_, B.out⟩
          rw [show l.all okE = false by rw [List.all_eq_false]; exact ⟨E, List.mem_of_getElem? HE.out, by simp [hok]⟩]
          simp
      · have hlt' : ¬ (k : Int) < (n : Int) := by omega
        go_wp2
        go_ret
        refine ⟨-1, rfl, ?_, B.out⟩
        rw [show l.all okE = true by
          rw [List.all_eq_true]; intro x hx
          obtain ⟨j, hj⟩ := List.getElem?_of_mem hx
          have := (List.getElem?_eq_some_iff.1 hj).1
          exact A.out j x (by omega) hj]
        rfl
set_option maxRecDepth 100000 in
set_option maxHeartbeats 2000000 in
theorem ents_any (l : List En) (v : Value) (w : World) (hv : isEns l v w) (hF : ∀ e ∈ l, FitE e) (hl : l.length ≤ 1000) : Calls Tryz.prog 85 #[v] w fun e w' => e = .returned (.bool (l.all okE)) ∧ Below w.heap.size w w' := by
  have h2 : Calls Tryz.prog 115 #[v, .func (.func 116) #[] #[]] w fun e w' => e = .returned (.bool (!l.all okE)) ∧ Below w.heap.size w w' := by
    go_enter Tryz.func115, Tryz.ntmps115
    go_wp2_with fail
    refine (index_ents l v w hv hF hl).mono ?_
    rintro e W1 ⟨r, rfl, hr, hb⟩
    have HR := Kept.mk hr
    clear hr
    by_cases h0 : 0 ≤ r
    · go_wp2
      go_ret
      exact ⟨by rw [← HR.out, decide_eq_true h0]; rfl, hb⟩
    · go_wp2
      go_ret
      exact ⟨by rw [← HR.out, decide_eq_false (by omega)]; rfl, hb⟩
  go_enter Tryz.func85, Tryz.ntmps85
  generalize l.all okE = z at *
  go_wp2_with fail
  refine h2.mono ?_
  rintro e W1 ⟨rfl, hb⟩
  cases z <;>
  · go_wp2
    go_ret
    exact ⟨rfl, hb⟩
end Go.Proofs.YtbgconagkgfplaaGreat
end
section
namespace Go.Proofs.YtbgconagkgfplaaGreat
open Go.RowKit
set_option linter.unusedVariables false
set_option linter.unusedSimpArgs false
attribute [local irreducible] setN

theorem gtr_int {P : Program} (t : TypeId) (k : IntKind) (x y : Int) (b : Bool) (h : decide (y < x) = b) (w : World) : (binOp .gtr t (.int k x) (.int k y)).run P w = .ok (.bool b) w := by subst h; simp [go_sem]
theorem sub_one (k m : Nat) (h : k = m + 1) (h9 : k ≤ 1000) (w : World) : (binOp .sub 3 (.int .i64 (k : Int)) (.int .i64 1)).run Tryz.prog w = .ok (.int .i64 (m : Int)) w := by
  have e : (k : Int) - 1 = (m : Int) := by omega
  have : (IntKind.i64).wrap ((k : Int) - 1) = (m : Int) := by rw [e]; unfold IntKind.wrap; simp [IntKind.bits, IntKind.signed]; omega
  show Result.ok (Value.int .i64 ((IntKind.i64).wrap ((k : Int) - 1))) w = _
  rw [this]
theorem en_mk {E : En} {vp vm : Value} {w w' : World} (hp : isCells (E.val.plus.map intC) vp w) (hm : isCells (E.val.minus.map intC) vm w) (hb : Below w.heap.size w w') : isEn E (.agg #[.string ⟨E.key.toArray⟩, .int .i64 E.val.kind, .int .i64 E.val.time, .int .i64 E.val.node, .bool E.val.dead, .string ⟨E.val.text.toArray⟩, vp, vm, .int .u64 (E.val.flags.toNat : Int)]) w' := ⟨vp, vm, rfl, stable_cells _ _ _ _ hp hb, stable_cells _ _ _ _ hm hb⟩
theorem less_val (A B : En) (z : Bool) (v u : Value) (w : World) (hv : isEn A v w) (hu : isEn B u w) (hz : lessE A B = z) : Calls Tryz.prog 117 #[v, u] w fun e w' => ∃ x, e = .returned x ∧ isVal (.bool z) x w' ∧ Below w.heap.size w w' :=
  (eless_any A B v u w hv hu).mono (by rintro e w' ⟨rfl, h⟩; exact ⟨_, rfl, by rw [hz]; rfl, h⟩)
noncomputable def isidxOps : Array Oper := regionOf Tryz.f86 8
set_option maxRecDepth 100000 in
set_option maxHeartbeats 2000000 in
theorem isidx_region (Q : Exit → Act → World → Prop) (a0 : Act) (w0 : World) (hsz : a0.tmps.size = 51) (g bs os cs bi oi ci n k m p q : Nat) (cap : Int) (z : Bool) (X Y : En) (xp xm yp ym : Value) (e1 : a0.tmps.getD 1 undef = .pointer (some ⟨g, 0, none⟩)) (e3 : a0.tmps.getD 3 undef = .int .i64 (k : Int)) (e4 : a0.tmps.getD 4 undef = .int .i64 (q : Int)) (HV : Blk w0 g [.int .i64 cap, .slice (some ⟨bs, os, none⟩) n cs, .slice (some ⟨bi, oi, none⟩) n ci]) (hkm : k = m + 1) (hk9 : k ≤ 1000) (hmn : m < n) (hpn : p < n) (hqn : q < n) (hpi : w0.cell? ⟨bi, oi + m, none⟩ = some (.int .i64 (p : Int))) (hbi : bi < w0.heap.size) (hbs : bs < w0.heap.size) (hxc : ∀ (j : Nat) (x : Value), [.string ⟨X.key.toArray⟩, .int .i64 X.val.kind, .int .i64 X.val.time, .int .i64 X.val.node, .bool X.val.dead, .string ⟨X.val.text.toArray⟩, xp, xm, .int .u64 (X.val.flags.toNat : Int)][j]? = some x → w0.cell? ⟨bs, os + p * 9 + j, none⟩ = some x) (hyc : ∀ (j : Nat) (x : Value), [.string ⟨Y.key.toArray⟩, .int .i64 Y.val.kind, .int .i64 Y.val.time, .int .i64 Y.val.node, .bool Y.val.dead, .string ⟨Y.val.text.toArray⟩, yp, ym, .int .u64 (Y.val.flags.toNat : Int)][j]? = some x → w0.cell? ⟨bs, os + q * 9 + j, none⟩ = some x) (hxp : isCells (X.val.plus.map intC) xp w0) (hxm : isCells (X.val.minus.map intC) xm w0) (hyp : isCells (Y.val.plus.map intC) yp w0) (hym : isCells (Y.val.minus.map intC) ym w0) (hz : lessE X Y = z)
    (hQ : ∀ (g : Nat → Value) (w : World), g 49 = .bool !z → Below w0.heap.size w0 w → Q .normal { tmps := [29, 30, 31, 32, 33, 34, 35, 36, 37, 38, 39, 40, 41, 42, 43, 44, 45, 46, 47, 48, 49].foldl (fun t s => t.setIfInBounds s (g s)) a0.tmps, defers := a0.defers } w) :
    (Code.region 8 isidxOps true).wp Tryz.prog Q a0 w0 := by
  refine wp_region_flow mixed (by rw [hsz]; kernel_rfl) ?_
  rw [show isidxOps.size = 21 by kernel_rfl]
  refine ⟨isVal (.int .i64 (k : Int)), step_move (.tmp 3) (by kernel_rfl) (wanted_none (by kernel_rfl)) (stable_val _) (knows_old 3 (.int .i64 (k : Int)) (by kernel_rfl) e3), ?_⟩
  refine ⟨isVal (.bool true), step_bin .gtr 3 3 (.tmp 29) (.const (.int .i64 0)) (.int .i64 (k : Int)) (.int .i64 0) (.bool true) (by kernel_rfl) (wanted_none (by kernel_rfl)) (knows_new (V := isVal (.int .i64 (k : Int))) 29 0 (by kernel_rfl) (by kernel_rfl) (by kernel_rfl)) (knows_const _) (fun _ => rfl) (gtr_int _ _ _ _ _ (by simp; omega)), ?_⟩
  refine ⟨isVal (.bool true), step_move (.tmp 30) (by kernel_rfl) (wanted_none (by kernel_rfl)) (stable_val _) (knows_new (V := isVal (.bool true)) 30 1 (by kernel_rfl) (by kernel_rfl) (by kernel_rfl)), ?_⟩
  refine ⟨isVal (.pointer (some ⟨g, 1, none⟩)), step_field 25 (.tmp 1) 1 ⟨g, 0, none⟩ ⟨g, 1, none⟩ (by kernel_rfl) (wanted_some 2 31 true (by kernel_rfl) (by kernel_rfl) (by kernel_rfl) (by kernel_rfl)) (knows_old 1 (.pointer (some ⟨g, 0, none⟩)) (by kernel_rfl) e1) (f_ar_0_1 (g)), ?_⟩
  refine ⟨isVal (.slice (some ⟨bs, os, none⟩) n cs), step_read 22 (.tmp 32) ⟨g, 1, none⟩ (.slice (some ⟨bs, os, none⟩) n cs) (by kernel_rfl) (wanted_some 2 31 true (by kernel_rfl) (by kernel_rfl) (by kernel_rfl) (by kernel_rfl)) (knows_new (V := isVal (.pointer (some ⟨g, 1, none⟩))) 32 3 (by kernel_rfl) (by kernel_rfl) (by kernel_rfl)) (HV.cells.2 1 _ rfl) (HV.lt) (agg_noS), ?_⟩
  refine ⟨isVal (.pointer (some ⟨g, 2, none⟩)), step_field 25 (.tmp 1) 2 ⟨g, 0, none⟩ ⟨g, 2, none⟩ (by kernel_rfl) (wanted_some 2 31 true (by kernel_rfl) (by kernel_rfl) (by kernel_rfl) (by kernel_rfl)) (knows_old 1 (.pointer (some ⟨g, 0, none⟩)) (by kernel_rfl) e1) (f_ar_0_2 (g)), ?_⟩
  refine ⟨isVal (.slice (some ⟨bi, oi, none⟩) n ci), step_read 23 (.tmp 34) ⟨g, 2, none⟩ (.slice (some ⟨bi, oi, none⟩) n ci) (by kernel_rfl) (wanted_some 2 31 true (by kernel_rfl) (by kernel_rfl) (by kernel_rfl) (by kernel_rfl)) (knows_new (V := isVal (.pointer (some ⟨g, 2, none⟩))) 34 5 (by kernel_rfl) (by kernel_rfl) (by kernel_rfl)) (HV.cells.2 2 _ rfl) (HV.lt) (agg_noI), ?_⟩
  refine ⟨isVal (.int .i64 (k : Int)), step_move (.tmp 3) (by kernel_rfl) (wanted_some 2 31 true (by kernel_rfl) (by kernel_rfl) (by kernel_rfl) (by kernel_rfl)) (stable_val _) (knows_old 3 (.int .i64 (k : Int)) (by kernel_rfl) e3), ?_⟩
  refine ⟨isVal (.int .i64 (m : Int)), step_bin .sub 3 3 (.tmp 36) (.const (.int .i64 1)) (.int .i64 (k : Int)) (.int .i64 1) (.int .i64 (m : Int)) (by kernel_rfl) (wanted_some 2 31 true (by kernel_rfl) (by kernel_rfl) (by kernel_rfl) (by kernel_rfl)) (knows_new (V := isVal (.int .i64 (k : Int))) 36 7 (by kernel_rfl) (by kernel_rfl) (by kernel_rfl)) (knows_const _) (fun _ => rfl) (sub_one k m hkm hk9), ?_⟩
  refine ⟨isVal (.pointer (some ⟨bi, oi + m, none⟩)), step_place 23 3 (.tmp 35) (.tmp 37) bi (oi) (n) (ci) (m) (by kernel_rfl) (wanted_some 2 31 true (by kernel_rfl) (by kernel_rfl) (by kernel_rfl) (by kernel_rfl)) (knows_new (V := isVal (.slice (some ⟨bi, oi, none⟩) n ci)) 35 6 (by kernel_rfl) (by kernel_rfl) (by kernel_rfl)) (knows_new (V := isVal (.int .i64 (m : Int))) 37 8 (by kernel_rfl) (by kernel_rfl) (by kernel_rfl)) Tryz.underlying23 (by kernel_rfl) (hmn), ?_⟩
  refine ⟨isVal (.int .i64 (p : Int)), step_read 3 (.tmp 38) ⟨bi, oi + m, none⟩ (.int .i64 (p : Int)) (by kernel_rfl) (wanted_some 2 31 true (by kernel_rfl) (by kernel_rfl) (by kernel_rfl) (by kernel_rfl)) (knows_new (V := isVal (.pointer (some ⟨bi, oi + m, none⟩))) 38 9 (by kernel_rfl) (by kernel_rfl) (by kernel_rfl)) (hpi) (hbi) (agg_noZ), ?_⟩
  refine ⟨isVal (.pointer (some ⟨bs, os + p * 9, none⟩)), step_placeE 22 30 (.tmp 33) (.tmp 39) bs (os) (n) (cs) (p) (os + p * 9) (by kernel_rfl) (wanted_some 2 31 true (by kernel_rfl) (by kernel_rfl) (by kernel_rfl) (by kernel_rfl)) (knows_new (V := isVal (.slice (some ⟨bs, os, none⟩) n cs)) 33 4 (by kernel_rfl) (by kernel_rfl) (by kernel_rfl)) (knows_new (V := isVal (.int .i64 (p : Int))) 39 10 (by kernel_rfl) (by kernel_rfl) (by kernel_rfl)) Tryz.underlying22 (by kernel_rfl) (⟨hpn, rfl⟩), ?_⟩
  refine ⟨isVal (.agg #[.string ⟨X.key.toArray⟩, .int .i64 X.val.kind, .int .i64 X.val.time, .int .i64 X.val.node, .bool X.val.dead, .string ⟨X.val.text.toArray⟩, xp, xm, .int .u64 (X.val.flags.toNat : Int)]), step_loadA 30 (.tmp 40) (bs) (os + p * 9) [.string ⟨X.key.toArray⟩, .int .i64 X.val.kind, .int .i64 X.val.time, .int .i64 X.val.node, .bool X.val.dead, .string ⟨X.val.text.toArray⟩, xp, xm, .int .u64 (X.val.flags.toNat : Int)] (by kernel_rfl) (wanted_some 2 31 true (by kernel_rfl) (by kernel_rfl) (by kernel_rfl) (by kernel_rfl)) (knows_new (V := isVal (.pointer (some ⟨bs, os + p * 9, none⟩))) 40 11 (by kernel_rfl) (by kernel_rfl) (by kernel_rfl)) size_en agg_en (⟨hbs, hxc⟩), ?_⟩
  refine ⟨isVal (.pointer (some ⟨g, 1, none⟩)), step_field 25 (.tmp 1) 1 ⟨g, 0, none⟩ ⟨g, 1, none⟩ (by kernel_rfl) (wanted_some 2 31 true (by kernel_rfl) (by kernel_rfl) (by kernel_rfl) (by kernel_rfl)) (knows_old 1 (.pointer (some ⟨g, 0, none⟩)) (by kernel_rfl) e1) (f_ar_0_1 (g)), ?_⟩
  refine ⟨isVal (.slice (some ⟨bs, os, none⟩) n cs), step_read 22 (.tmp 42) ⟨g, 1, none⟩ (.slice (some ⟨bs, os, none⟩) n cs) (by kernel_rfl) (wanted_some 2 31 true (by kernel_rfl) (by kernel_rfl) (by kernel_rfl) (by kernel_rfl)) (knows_new (V := isVal (.pointer (some ⟨g, 1, none⟩))) 42 13 (by kernel_rfl) (by kernel_rfl) (by kernel_rfl)) (HV.cells.2 1 _ rfl) (HV.lt) (agg_noS), ?_⟩
  refine ⟨isVal (.int .i64 (q : Int)), step_move (.tmp 4) (by kernel_rfl) (wanted_some 2 31 true (by kernel_rfl) (by kernel_rfl) (by kernel_rfl) (by kernel_rfl)) (stable_val _) (knows_old 4 (.int .i64 (q : Int)) (by kernel_rfl) e4), ?_⟩
  refine ⟨isVal (.pointer (some ⟨bs, os + q * 9, none⟩)), step_placeE 22 30 (.tmp 43) (.tmp 44) bs (os) (n) (cs) (q) (os + q * 9) (by kernel_rfl) (wanted_some 2 31 true (by kernel_rfl) (by kernel_rfl) (by kernel_rfl) (by kernel_rfl)) (knows_new (V := isVal (.slice (some ⟨bs, os, none⟩) n cs)) 43 14 (by kernel_rfl) (by kernel_rfl) (by kernel_rfl)) (knows_new (V := isVal (.int .i64 (q : Int))) 44 15 (by kernel_rfl) (by kernel_rfl) (by kernel_rfl)) Tryz.underlying22 (by kernel_rfl) (⟨hqn, rfl⟩), ?_⟩
  refine ⟨isVal (.agg #[.string ⟨Y.key.toArray⟩, .int .i64 Y.val.kind, .int .i64 Y.val.time, .int .i64 Y.val.node, .bool Y.val.dead, .string ⟨Y.val.text.toArray⟩, yp, ym, .int .u64 (Y.val.flags.toNat : Int)]), step_loadA 30 (.tmp 45) (bs) (os + q * 9) [.string ⟨Y.key.toArray⟩, .int .i64 Y.val.kind, .int .i64 Y.val.time, .int .i64 Y.val.node, .bool Y.val.dead, .string ⟨Y.val.text.toArray⟩, yp, ym, .int .u64 (Y.val.flags.toNat : Int)] (by kernel_rfl) (wanted_some 2 31 true (by kernel_rfl) (by kernel_rfl) (by kernel_rfl) (by kernel_rfl)) (knows_new (V := isVal (.pointer (some ⟨bs, os + q * 9, none⟩))) 45 16 (by kernel_rfl) (by kernel_rfl) (by kernel_rfl)) size_en agg_en (⟨hbs, hyc⟩), ?_⟩
  refine ⟨isVal (.bool z), step_call 117 #[.tmp 41, .tmp 46] #[30, 30] #[.agg #[.string ⟨X.key.toArray⟩, .int .i64 X.val.kind, .int .i64 X.val.time, .int .i64 X.val.node, .bool X.val.dead, .string ⟨X.val.text.toArray⟩, xp, xm, .int .u64 (X.val.flags.toNat : Int)], .agg #[.string ⟨Y.key.toArray⟩, .int .i64 Y.val.kind, .int .i64 Y.val.time, .int .i64 Y.val.node, .bool Y.val.dead, .string ⟨Y.val.text.toArray⟩, yp, ym, .int .u64 (Y.val.flags.toNat : Int)]] (by kernel_rfl) (wanted_some 2 31 true (by kernel_rfl) (by kernel_rfl) (by kernel_rfl) (by kernel_rfl)) (stable_val _) (args2 (.tmp 41) (.tmp 46) (.agg #[.string ⟨X.key.toArray⟩, .int .i64 X.val.kind, .int .i64 X.val.time, .int .i64 X.val.node, .bool X.val.dead, .string ⟨X.val.text.toArray⟩, xp, xm, .int .u64 (X.val.flags.toNat : Int)]) (.agg #[.string ⟨Y.key.toArray⟩, .int .i64 Y.val.kind, .int .i64 Y.val.time, .int .i64 Y.val.node, .bool Y.val.dead, .string ⟨Y.val.text.toArray⟩, yp, ym, .int .u64 (Y.val.flags.toNat : Int)]) (knows_new (V := isVal (.agg #[.string ⟨X.key.toArray⟩, .int .i64 X.val.kind, .int .i64 X.val.time, .int .i64 X.val.node, .bool X.val.dead, .string ⟨X.val.text.toArray⟩, xp, xm, .int .u64 (X.val.flags.toNat : Int)])) 41 12 (by kernel_rfl) (by kernel_rfl) (by kernel_rfl)) (knows_new (V := isVal (.agg #[.string ⟨Y.key.toArray⟩, .int .i64 Y.val.kind, .int .i64 Y.val.time, .int .i64 Y.val.node, .bool Y.val.dead, .string ⟨Y.val.text.toArray⟩, yp, ym, .int .u64 (Y.val.flags.toNat : Int)])) 46 17 (by kernel_rfl) (by kernel_rfl) (by kernel_rfl))) (enters_of Tryz.func117 (by kernel_rfl) rfl) (by intro w' hb; exact less_val X Y z _ _ w' (en_mk hxp hxm hb) (en_mk hyp hym hb) hz), ?_⟩
  refine ⟨isVal (.bool !z), step_un .not 4 (.tmp 47) (.bool z) (.bool !z) (by kernel_rfl) (wanted_some 2 31 true (by kernel_rfl) (by kernel_rfl) (by kernel_rfl) (by kernel_rfl)) (knows_new (V := isVal (.bool z)) 47 18 (by kernel_rfl) (by kernel_rfl) (by kernel_rfl)) (fun _ => rfl), ?_⟩
  refine ⟨isVal (.bool !z), step_pick (.tmp 31) (.tmp 48) (.const (.bool false)) true (by kernel_rfl) (wanted_none (by kernel_rfl)) (stable_val _) (knows_new (V := isVal (.bool true)) 31 2 (by kernel_rfl) (by kernel_rfl) (by kernel_rfl)) (knows_new (V := isVal (.bool !z)) 48 19 (by kernel_rfl) (by kernel_rfl) (by kernel_rfl)), ?_⟩
  intro a w hkp hb hd
  rw [kept_of hkp [some 29, some 30, some 31, some 32, some 33, some 34, some 35, some 36, some 37, some 38, some 39, some 40, some 41, some 42, some 43, some 44, some 45, some 46, some 47, some 48, some 49] [29, 30, 31, 32, 33, 34, 35, 36, 37, 38, 39, 40, 41, 42, 43, 44, 45, 46, 47, 48, 49] (by kernel_rfl) (by decide)]
  have d49 := fdone_of (hd 20 (by rw [show isidxOps.size = 21 by kernel_rfl]; decide)) (t := 49) (V := isVal (.bool !z)) (by kernel_rfl) (by kernel_rfl)
  exact hQ (fun s => a.tmps.getD s undef) w d49 hb
end Go.Proofs.YtbgconagkgfplaaGreat
end
section
namespace Go.Proofs.YtbgconagkgfplaaGreat
open Go.RowKit
set_option linter.unusedVariables false
set_option linter.unusedSimpArgs false
attribute [local irreducible] setN

/-- The operations of a region, also of one inside a range over a function. -/
def opsOfR (n : Nat) : Code → Option (Array Oper)
  | .region k ops _ => if k = n then some ops else none
  | .seq a b => match opsOfR n a with
    | some x => some x
    | none => opsOfR n b
  | .cond _ a b => match opsOfR n a with
    | some x => some x
    | none => opsOfR n b
  | .block _ c => opsOfR n c
  | .loop c => opsOfR n c
  | .scope c => opsOfR n c
  | .rangeFunc _ _ a b => match opsOfR n a with
    | some x => some x
    | none => opsOfR n b
  | _ => none
def regionOfR (f : Func) (n : Nat) : Array Oper := (f.body.bind (opsOfR n)).getD #[]
theorem Tryz.infoEn : (Tryz.prog.info? 30).map (fun i => (i.zero, i.size)) = some (some (.agg #[.string ⟨#[]⟩, .int .i64 0, .int .i64 0, .int .i64 0, .bool false, .string ⟨#[]⟩, .slice none 0 0, .slice none 0 0, .int .u64 0]), 9) := by kernel_rfl
/-- All is as it was, but for some blocks. -/
structure Bt (S : Nat → Prop) (w w' : World) : Prop where
  os : w'.os = w.os
  tape : w'.tape = w.tape
  output : w'.output = w.output
  size : w.heap.size ≤ w'.heap.size
  block : ∀ b, b < w.heap.size → ¬ S b → w'.heap[b]? = w.heap[b]?
theorem Bt.trans {S : Nat → Prop} {a b c : World} (h1 : Bt S a b) (h2 : Bt S b c) : Bt S a c := ⟨h2.os.trans h1.os, h2.tape.trans h1.tape, h2.output.trans h1.output, Nat.le_trans h1.size h2.size, fun i hi hne => (h2.block i (Nat.lt_of_lt_of_le hi h1.size) hne).trans (h1.block i hi hne)⟩
theorem Bt.grow {S : Nat → Prop} {a b : World} (h : Below a.heap.size a b) : Bt S a b := ⟨h.os, h.tape, h.output, h.size, fun i hi _ => h.block i hi⟩
theorem Bt.below {S : Nat → Prop} {B : Nat} {w w' : World} (h : Bt S w w') (hS : ∀ b, S b → B ≤ b) (hs : B ≤ w.heap.size) : Below B w w' := ⟨h.os, h.tape, h.output, h.size, fun b hb => h.block b (by omega) (fun e => by have := hS b e; omega)⟩
theorem Bt.cell {S : Nat → Prop} {w w' : World} (h : Bt S w w') {p : Addr} (hlt : p.block < w.heap.size) (hne : ¬ S p.block) : w'.cell? p = w.cell? p := World.cell?_of_block (w := w) (h.block p.block hlt hne)
theorem Bt.frozen {S : Nat → Prop} {w w' : World} (h : Bt S w w') {p : Addr} (hlt : p.block < w.heap.size) (hne : ¬ S p.block) : w'.frozen? p = w.frozen? p := World.frozen?_of_block (w := w) (h.block p.block hlt hne)
theorem Bt.cells {S : Nat → Prop} {w w' : World} {cs : List Value} {v : Value} (h : Bt S w w') (hc : isCells cs v w) (hne : cs = [] ∨ ∀ b, blk v = some b → ¬ S b) : isCells cs v w' := by
  rcases hc with hc | hc | ⟨b, off, cap, e, hlt, hc⟩
  · exact .inl hc
  · exact .inr (.inl hc)
  rcases hne with rfl | hne
  · exact .inr (.inl ⟨_, _, e, rfl⟩)
  · exact .inr (.inr ⟨b, off, cap, e, Nat.lt_of_lt_of_le hlt h.size, fun j x hx => (h.cell (p := ⟨b, off + j, none⟩) hlt (hne b (by rw [e]; rfl))).trans (hc j x hx)⟩)
theorem Bt.blk {S : Nat → Prop} {g : Nat} {w w' : World} {cs : List Value} (h : Bt S w w') (hb : Blk w g cs) (hne : ¬ S g) : Blk w' g cs :=
  ⟨⟨Nat.lt_of_lt_of_le hb.lt h.size, fun j x hx => (h.cell (p := ⟨g, j, none⟩) hb.lt hne).trans (hb.cells.2 j x hx)⟩, fun j => (h.frozen (p := ⟨g, j, none⟩) hb.lt hne).trans (hb.free j)⟩
theorem Bt.own {S : Nat → Prop} {B : Nat} {w w' : World} {e : TypeId} {size : Nat} {v : Value} {n : Nat} {xs : List Value} (h : Bt S w w') (ho : w.ownsRow B e size v n xs) (hne : ∀ g, v.ownBlock = some g → ¬ S g) : w'.ownsRow B e size v n xs := by
  obtain ⟨hl, h1 | ⟨g, cap, cur, hv, hB, hg, rest⟩⟩ := ho
  · exact ⟨hl, .inl h1⟩
  · exact ⟨hl, .inr ⟨g, cap, cur, hv, hB, (h.block g (Array.getElem?_eq_some_iff.1 hg).1 (hne g (by rw [hv]; rfl))).trans hg, rest⟩⟩
theorem bt_set {S : Nat → Prop} (g k : Nat) (v : Value) (w : World) (h : S g) : Bt S w (w.setCell ⟨g, k, none⟩ v) := ⟨rfl, rfl, rfl, by simp, fun b _ hne => Below.heap_setCell w ⟨g, k, none⟩ v b (by rintro rfl; exact hne h)⟩
theorem own_grow {W W' : World} {n₀ : Nat} {e : TypeId} {size : Nat} {v : Value} {k : Nat} {xs : List Value} (h : W.ownsRow n₀ e size v k xs) (hb : Below W.heap.size W W') : W'.ownsRow n₀ e size v k xs := by
  obtain ⟨hl, h | ⟨g, cap, cur, hv, hB, hg, rest⟩⟩ := h
  · exact ⟨hl, .inl h⟩
  · exact ⟨hl, .inr ⟨g, cap, cur, hv, hB, (hb.block g (Array.getElem?_eq_some_iff.1 hg).1).trans hg, rest⟩⟩
theorem own_one {B : Nat} {w : World} {e : TypeId} {size : Nat} {v : Value} {n : Nat} {xs : List Value} (h : w.ownsRow B e size v n xs) : v.cells = #[v] ∧ v.oneCell' = true := by
  obtain ⟨hl, ⟨rfl, _⟩ | ⟨g, cap, cur, rfl, _⟩⟩ := h
  · exact ⟨rfl, rfl⟩
  · exact ⟨rfl, rfl⟩
theorem own_blk_eq {v : Value} {b : Nat} (h : v.ownBlock = some b) : blk v = some b := by
  unfold Value.ownBlock at h
  unfold blk
  split at h
  · exact h
  · cases h
theorem own_set {B g k : Nat} {w : World} {e : TypeId} {size : Nat} {v u : Value} {n : Nat} {xs : List Value} (h : w.ownsRow B e size v n xs) (hne : v.ownBlock ≠ some g) : (w.setCell ⟨g, k, none⟩ u).ownsRow B e size v n xs :=
  (bt_set (S := fun b => b = g) g k u w rfl).own h (fun b hb e => hne (by rw [hb, e]))
theorem cells_set {cs : List Value} {v u : Value} {w : World} {g k : Nat} (h : isCells cs v w) (hne : cs = [] ∨ blk v ≠ some g) : isCells cs v (w.setCell ⟨g, k, none⟩ u) :=
  (bt_set (S := fun b => b = g) g k u w rfl).cells h (hne.imp id (fun h b hb e => h (by rw [hb, e])))
/-- But for one row. -/
abbrev GB (r : Option Nat) (w w' : World) : Prop := w.grownBy w' r
theorem gb_pre (r : Option Nat) : Pre (GB r) where
  refl w := ⟨rfl, rfl, rfl, Nat.le_refl _, fun _ _ _ => rfl⟩
  trans a b c h1 h2 := ⟨h2.os.trans h1.os, h2.tape.trans h1.tape, h2.output.trans h1.output, Nat.le_trans h1.size h2.size, fun i hi hne => (h2.block i (Nat.lt_of_lt_of_le hi h1.size) hne).trans (h1.block i hi hne)⟩
  grow w w' h := ⟨h.os, h.tape, h.output, h.size, fun b hb _ => h.block b hb⟩
  drew w := ⟨rfl, rfl, rfl, Nat.le_refl _, fun _ _ _ => rfl⟩
theorem gb_bt {r : Option Nat} {S : Nat → Prop} {w w' : World} (h : w.grownBy w' r) (hS : ∀ b, r = some b → S b) : Bt S w w' := ⟨h.os, h.tape, h.output, h.size, fun b hb hne => h.block b hb (fun e => hne (hS b e.symm))⟩
end Go.Proofs.YtbgconagkgfplaaGreat
namespace Go
open Go.RowKit Go.Proofs.YtbgconagkgfplaaGreat
set_option linter.unusedVariables false
set_option linter.unusedSimpArgs false
theorem World.grownBy.cell_ {r : Option Nat} {w w' : World} (h : w.grownBy w' r) {b k : Nat} {v : Value} (hc : w.cell? ⟨b, k, none⟩ = some v) (hlt : b < w.heap.size) (hne : r ≠ some b) : w'.cell? ⟨b, k, none⟩ = some v := (World.cell?_of_block (a := ⟨b, k, none⟩) (h.block b hlt (fun e => hne e.symm))).trans hc
theorem World.grownBy.frozen_ {r : Option Nat} {w w' : World} (h : w.grownBy w' r) {b k : Nat} (hlt : b < w.heap.size) (hne : r ≠ some b) : w'.frozen? ⟨b, k, none⟩ = w.frozen? ⟨b, k, none⟩ := World.frozen?_of_block (a := ⟨b, k, none⟩) (h.block b hlt (fun e => hne e.symm))
theorem World.grownBy.cells {r : Option Nat} {w w' : World} (h : w.grownBy w' r) {cs : List Value} {v : Value} (hc : isCells cs v w) (hne : cs = [] ∨ ∀ s, r = some s → blk v ≠ some s) : isCells cs v w' :=
  (gb_bt (S := fun b => r = some b) h (fun b e => e)).cells hc (hne.imp id (fun hh b hb e => hh b e hb))
end Go
namespace Go.Proofs.YtbgconagkgfplaaGreat
open Go.RowKit
set_option linter.unusedVariables false
set_option linter.unusedSimpArgs false
attribute [local irreducible] setN
theorem stable_enN (N : Nat) (E : En) : Stable (isEnN N E) := fun v w w' ⟨vp, vm, e, hp, hm, np, nm⟩ hb => ⟨vp, vm, e, stable_cells _ _ _ _ hp hb, stable_cells _ _ _ _ hm hb, np, nm⟩
theorem new_ne {N : Nat} {r : Option Nat} (hr : ∀ s, r = some s → s < N) {v : Value} (h : NewB N v) : ∀ s, r = some s → blk v ≠ some s := fun s e h2 => by have := h s h2; have := hr s e; omega
theorem enN_R {N : Nat} {r : Option Nat} (hr : ∀ s, r = some s → s < N) (E : En) : StableR (GB r) (isEnN N E) := fun v w w' ⟨vp, vm, e, hp, hm, np, nm⟩ hb => ⟨vp, vm, e, hb.cells hp (.inr (new_ne hr np)), hb.cells hm (.inr (new_ne hr nm)), np, nm⟩
theorem twin_at (N : Nat) (E : En) (v : Value) (w : World) (hv : isEn E v w) (hF : FitE E) (hN : N ≤ w.heap.size) : Calls Tryz.prog 90 #[v] w fun e w' => ∃ v', e = .returned v' ∧ isEnN N E v' w' ∧ Below w.heap.size w w' :=
  (twin_any E v w hv hF).mono (by rintro e w' ⟨v', rfl, ⟨vp, vm, e, hp, hm, np, nm⟩, hb⟩; exact ⟨v', rfl, ⟨vp, vm, e, hp, hm, np.low hN, nm.low hN⟩, hb⟩)
/-- A slice of just this entry, in a new block, with new rows. -/
def isEn1 (N : Nat) (E : En) : VP := fun v w => ∃ b vp vm, v = .slice (some ⟨b, 0, none⟩) 1 1 ∧ N ≤ b ∧ b < w.heap.size ∧ (∀ (j : Nat) (x : Value), (enL E vp vm)[j]? = some x → w.cell? ⟨b, j, none⟩ = some x) ∧ isCells (E.val.plus.map intC) vp w ∧ isCells (E.val.minus.map intC) vm w ∧ NewB N vp ∧ NewB N vm
theorem stable_en1 (N : Nat) (E : En) : Stable (isEn1 N E) := fun v w w' ⟨b, vp, vm, e, h1, h2, h3, hp, hm, np, nm⟩ hb => ⟨b, vp, vm, e, h1, Nat.lt_of_lt_of_le h2 hb.size, fun j x hx => (hb.cell (p := ⟨b, j, none⟩) h2).trans (h3 j x hx), stable_cells _ _ _ _ hp hb, stable_cells _ _ _ _ hm hb, np, nm⟩
theorem en1_R {N : Nat} {r : Option Nat} (hr : ∀ s, r = some s → s < N) (E : En) : StableR (GB r) (isEn1 N E) := fun v w w' ⟨b, vp, vm, e, h1, h2, h3, hp, hm, np, nm⟩ hb => ⟨b, vp, vm, e, h1, Nat.lt_of_lt_of_le h2 hb.size, fun j x hx => hb.cell_ (h3 j x hx) h2 (fun e => by have := hr b e; omega), hb.cells hp (.inr (new_ne hr np)), hb.cells hm (.inr (new_ne hr nm)), np, nm⟩
theorem ones_en {E : En} {vp vm : Value} (hp : vp.oneCell' = true) (hm : vm.oneCell' = true) : ∀ u ∈ enL E vp vm, u.oneCell' = true := by
  intro u hu
  simp only [enL, List.mem_cons, List.not_mem_nil, or_false] at hu
  rcases hu with rfl | rfl | rfl | rfl | rfl | rfl | rfl | rfl | rfl
  all_goals first | rfl | assumption
section
variable {ops : Array Oper} {base : World} {a0 : Act} {Q : Exit → Act → World → Prop} {kn : Nat → VP} {i : Nat} {V : VP}
theorem fill_en (E : En) (vp vm : Value) (z : Array Value) (hz : z.size = 9) : Instr.fill (fun i => some (i * 9, 9)) z [(0, .agg #[.string ⟨E.key.toArray⟩, .int .i64 E.val.kind, .int .i64 E.val.time, .int .i64 E.val.node, .bool E.val.dead, .string ⟨E.val.text.toArray⟩, vp, vm, .int .u64 (E.val.flags.toNat : Int)])] = some #[.string ⟨E.key.toArray⟩, .int .i64 E.val.kind, .int .i64 E.val.time, .int .i64 E.val.node, .bool E.val.dead, .string ⟨E.val.text.toArray⟩, vp, vm, .int .u64 (E.val.flags.toNat : Int)] := by
  obtain ⟨l⟩ := z
  match l, hz with
  | [_, _, _, _, _, _, _, _, _], _ => simp [Instr.fill, Value.cells]
theorem step_ent1 (N : Nat) (x : Operand) (E : En) (hop : (ops[i]?).map (·.op) = some (.buildSlice 22 1 #[(0, x)])) (hw : Wanted ops a0 kn i) (h0 : Knows ops a0 kn i x (isEnN N E)) (hN : N ≤ base.heap.size) : FStep Tryz.prog ops base a0 Q kn i (isEn1 N E) :=
  step_mk (stable_en1 _ _) hw fun o ho a w hk hb hd => by
    obtain ⟨vp, vm, e0, hp, hm, np, nm⟩ := h0 a w hk hd
    obtain ⟨ie, hie, hz, hsz⟩ : ∃ ie, Tryz.prog.info? 30 = some ie ∧ ie.zero = some (.agg #[.string ⟨#[]⟩, .int .i64 0, .int .i64 0, .int .i64 0, .bool false, .string ⟨#[]⟩, .slice none 0 0, .slice none 0 0, .int .u64 0]) ∧ ie.size = 9 := by
      have := Tryz.infoEn
      obtain ⟨ie, h1, h2⟩ := Option.map_eq_some_iff.1 this
      simp only [Prod.mk.injEq] at h2
      exact ⟨ie, h1, h2.1, h2.2⟩
    have hf : Instr.fill (fun i => some (i * ie.size, ie.size)) ((Array.range (1 * ie.size)).map ((Value.agg #[.string ⟨#[]⟩, .int .i64 0, .int .i64 0, .int .i64 0, .bool false, .string ⟨#[]⟩, .slice none 0 0, .slice none 0 0, .int .u64 0]).cells[· % (Value.agg #[.string ⟨#[]⟩, .int .i64 0, .int .i64 0, .int .i64 0, .bool false, .string ⟨#[]⟩, .slice none 0 0, .slice none 0 0, .int .u64 0]).cells.size]!)) ((#[(0, x)] : Array (Nat × Operand)).map fun (i, x) => (i, a.eval x)).toList = some #[.string ⟨E.key.toArray⟩, .int .i64 E.val.kind, .int .i64 E.val.time, .int .i64 E.val.node, .bool E.val.dead, .string ⟨E.val.text.toArray⟩, vp, vm, .int .u64 (E.val.flags.toNat : Int)] := by
      have e1 : ((#[(0, x)] : Array (Nat × Operand)).map fun (i, x) => (i, a.eval x)).toList = [(0, .agg #[.string ⟨E.key.toArray⟩, .int .i64 E.val.kind, .int .i64 E.val.time, .int .i64 E.val.node, .bool E.val.dead, .string ⟨E.val.text.toArray⟩, vp, vm, .int .u64 (E.val.flags.toNat : Int)])] := by simp [e0]
      rw [e1, hsz]
      exact fill_en E vp vm _ (by simp)
    refine wp_buildSlice 22 30 1 _ (op_of hop ho) _ ie (.agg #[.string ⟨#[]⟩, .int .i64 0, .int .i64 0, .int .i64 0, .bool false, .string ⟨#[]⟩, .slice none 0 0, .slice none 0 0, .int .u64 0]) Tryz.underlying22 hie hz (by rw [hsz]; omega) (by rw [hsz]; omega) hf ?_
    have hbl := lit_below w (.cells #[.string ⟨E.key.toArray⟩, .int .i64 E.val.kind, .int .i64 E.val.time, .int .i64 E.val.node, .bool E.val.dead, .string ⟨E.val.text.toArray⟩, vp, vm, .int .u64 (E.val.flags.toNat : Int)] 30)
    refine ⟨_, rfl, ⟨w.heap.size, vp, vm, rfl, Nat.le_trans hN hb.size, by simp, fun j v hv => ?_, stable_cells _ _ _ _ hp hbl, stable_cells _ _ _ _ hm hbl, np, nm⟩, hbl⟩
    rw [World.cell?_alloc_new]
    simpa [enL] using hv
/-- The row with one more. -/
def isApp (B N : Nat) (r : Option Nat) (E : En) (n : Nat) (xs : List Value) : VP := fun v w => ∃ vp vm, w.ownsRow B 30 9 v (n + 1) (xs ++ enL E vp vm) ∧ isCells (E.val.plus.map intC) vp w ∧ isCells (E.val.minus.map intC) vm w ∧ NewB N vp ∧ NewB N vm ∧ (v.ownBlock = r ∨ NewB N v) ∧ (∀ b, v.ownBlock = some b → (E.val.plus.map intC = [] ∨ blk vp ≠ some b) ∧ (E.val.minus.map intC = [] ∨ blk vm ≠ some b))
theorem cells_lt {cs : List Value} {v : Value} {w : World} (h : isCells cs v w) : cs = [] ∨ ∀ b, blk v = some b → b < w.heap.size := by
  rcases h with ⟨_, h⟩ | ⟨_, _, _, h⟩ | ⟨b, off, cap, e, hlt, hc⟩
  · exact .inl h
  · exact .inl h
  · exact .inr (fun b' hb => by rw [e] at hb; injection hb with hb; have : b = b' := hb; omega)
theorem ostep_app {k0 : Nat} {ups : List Nat} (B N : Nat) (r : Option Nat) (E : En) (vs : Value) (n : Nat) (xs : List Value) (x y : Operand) (hop : (ops[i]?).map (fun o => (o.op, o.guard)) = some (.call { callee := .builtin .append, args := #[x, y], argTypes := #[22, 22] }, none)) (hx : Knows ops a0 kn i x (isVal vs)) (hy : Knows ops a0 kn i y (isEn1 N E)) (hn : n ≤ 1000) (hB : B ≤ base.heap.size) (hre : vs.ownBlock = r) (hrN : ∀ s, r = some s → s < N) (hNb : N ≤ base.heap.size) (hdst : ((ops[i]?).bind (·.dst)).isSome = true) : OStep (GB r) i ups (fun w => w.ownsRow B 30 9 vs n xs) Tryz.prog ops base a0 Q k0 kn i (isApp B N r E n xs) := by
  refine ⟨⟨fun _ => ?_, fun h => absurd rfl h⟩, fun o ho a w hk0 hb h0 hd => ?_⟩
  · rintro v w w' ⟨vp, vm, h1, h2, h3, h4, h5, h6, h7⟩ hb
    exact ⟨vp, vm, own_grow h1 hb, stable_cells _ _ _ _ h2 hb, stable_cells _ _ _ _ h3 hb, h4, h5, h6, h7⟩
  · have hkf := hk0.f
    have hown := h0 (.inl rfl)
    rw [ho] at hop hdst
    simp only [Option.map_some, Option.some.injEq, Prod.mk.injEq] at hop
    obtain ⟨ho1, ho2⟩ := hop
    have hd' : FDeps ops kn i a w := fun o' ho' e he hbd => rdone_f (hd o' ho' e he hbd)
    have e1 : a.eval x = vs := hx a w hkf hd'
    obtain ⟨b, vp, vm, e2, hNb1, hblt, hcell, hp, hm, np, nm⟩ := hy a w hkf hd'
    obtain ⟨ie, hie, hz, hsz⟩ : ∃ ie, Tryz.prog.info? 30 = some ie ∧ ie.zero = some (.agg #[.string ⟨#[]⟩, .int .i64 0, .int .i64 0, .int .i64 0, .bool false, .string ⟨#[]⟩, .slice none 0 0, .slice none 0 0, .int .u64 0]) ∧ ie.size = 9 := by
      have := Tryz.infoEn
      obtain ⟨ie, h1, h2⟩ := Option.map_eq_some_iff.1 this
      simp only [Prod.mk.injEq] at h2
      exact ⟨ie, h1, h2.1, h2.2⟩
    have hbytes : ie.bytes ≤ 100000 := by
      have : (Tryz.prog.info? 30).all (fun i => decide (i.bytes ≤ 100000)) = true := by kernel_rfl
      rw [hie] at this
      simpa using this
    obtain ⟨v', w', hrun, how, hgr, _, hob⟩ := run_append_own_at (P := Tryz.prog) w B 22 o.type 30 ie (.agg #[.string ⟨#[]⟩, .int .i64 0, .int .i64 0, .int .i64 0, .bool false, .string ⟨#[]⟩, .slice none 0 0, .slice none 0 0, .int .u64 0]) 9 ie.bytes Tryz.underlying22 hie hz hsz rfl rfl (by decide) vs n xs hown ⟨b, 0, none⟩ 1 1 (enL E vp vm) rfl (fun j u hu => by
      have := hcell j u hu
      by_cases e0 : j = 0
      · subst e0; simpa [Addr.add] using this
      · simpa [Addr.add, e0] using this) (ones_en hp.one hm.one) (by unfold maxLen; omega) (by have : (n + 1) * ie.bytes ≤ 1001 * 100000 := Nat.mul_le_mul (by omega) hbytes; omega) (Nat.le_trans hB hb.size)
    rw [hre] at hgr hob
    unfold wpOp
    simp only [ho]
    rw [show Region.wanted o (yielded ops a.tmps) = true by simp [Region.wanted, ho2]]
    refine .inl ?_
    unfold Oper.wp execOp
    rw [ho1]
    simp only [resolve, Sem.run_bind, Sem.run_pure, Result.andThen_ok, invoke, builtin, List.map_toArray, List.map_cons, List.map_nil, e1, e2, hrun, Oper.upon]
    refine ⟨v', rfl, fun hn => by simp [hn] at hdst, ⟨vp, vm, how, hgr.cells hp (.inr (new_ne hrN np)), hgr.cells hm (.inr (new_ne hrN nm)), np, nm, ?_, ?_⟩, hgr, fun h => absurd rfl h⟩
    · rcases hob with h | h
      · exact .inl h
      · refine .inr (fun b' hb' => ?_)
        have : b' = w.heap.size := by
          have h2 := own_blk_eq h
          rw [hb'] at h2
          injection h2
        have := hb.size
        omega
    · intro b' hb'
      rcases hob with h | h
      · rw [h] at hb'
        exact ⟨.inr (new_ne hrN np b' hb'), .inr (new_ne hrN nm b' hb')⟩
      · rw [h] at hb'
        injection hb' with hb'
        refine ⟨(cells_lt hp).imp id (fun h3 e => ?_), (cells_lt hm).imp id (fun h3 e => ?_)⟩
        · have := h3 _ e; omega
        · have := h3 _ e; omega
end
noncomputable def chappOps : Array Oper := regionOfR Tryz.f48 5
set_option maxRecDepth 100000 in
set_option maxHeartbeats 2000000 in
theorem chapp_region (Q : Exit → Act → World → Prop) (a0 : Act) (w0 : World) (hsz : a0.tmps.size = 36) (g h B n : Nat) (l : List Value) (E : En) (vs ep em : Value) (xs : List Value) (e1 : a0.tmps.getD 3 undef = .pointer (some ⟨g, 0, none⟩)) (e2 : a0.tmps.getD 5 undef = .pointer (some ⟨h, 0, none⟩))
    (HG : Blk w0 g l) (hl : l[1]? = some vs) (hE : Blk w0 h [.string ⟨E.key.toArray⟩, .int .i64 E.val.kind, .int .i64 E.val.time, .int .i64 E.val.node, .bool E.val.dead, .string ⟨E.val.text.toArray⟩, ep, em, .int .u64 (E.val.flags.toNat : Int)]) (hp : isCells (E.val.plus.map intC) ep w0) (hm : isCells (E.val.minus.map intC) em w0) (hF : FitE E) (hown : w0.ownsRow B 30 9 vs n xs) (hn : n ≤ 1000) (hB : B ≤ w0.heap.size)
    (hap : ∀ s, vs.ownBlock = some s → s ≠ g ∧ s ≠ h ∧ (E.val.plus.map intC = [] ∨ blk ep ≠ some s) ∧ (E.val.minus.map intC = [] ∨ blk em ≠ some s))
    (hQ : ∀ (y : Nat → Value) (v vp vm : Value) (w : World), w.ownsRow B 30 9 v (n + 1) (xs ++ enL E vp vm) → isCells (E.val.plus.map intC) vp w → isCells (E.val.minus.map intC) vm w → NewB w0.heap.size vp → NewB w0.heap.size vm → (v.ownBlock = vs.ownBlock ∨ NewB w0.heap.size v) → (∀ b, v.ownBlock = some b → (E.val.plus.map intC = [] ∨ blk vp ≠ some b) ∧ (E.val.minus.map intC = [] ∨ blk vm ≠ some b)) → Blk w g (l.set 1 v) → Bt (fun b => b = g ∨ vs.ownBlock = some b) w0 w →
      Q .normal { tmps := [21, 22, 23, 24, 25, 26, 27, 28, 29, 30, 31, 32, 33].foldl (fun t s => t.setIfInBounds s (y s)) a0.tmps, defers := a0.defers } w) :
    (Code.region 5 chappOps true).wp Tryz.prog Q a0 w0 := by
  obtain ⟨r, hr0⟩ : ∃ r, vs.ownBlock = r := ⟨_, rfl⟩
  have hcell : w0.cell? ⟨g, 1, none⟩ = some vs := HG.cells.2 _ _ hl
  have hg := HG.lt
  have hgr : r ≠ some g := by intro e; exact (hap g (hr0.trans e)).1 rfl
  have hhr : r ≠ some h := by intro e; exact (hap h (hr0.trans e)).2.1 rfl
  have opr : E.val.plus.map intC = [] ∨ ∀ s, r = some s → blk ep ≠ some s := by
    cases r with
    | none => exact .inr (fun s e => by cases e)
    | some s => exact (hap s hr0).2.2.1.imp id (fun h s' e => by cases e; exact h)
  have omr : E.val.minus.map intC = [] ∨ ∀ s, r = some s → blk em ≠ some s := by
    cases r with
    | none => exact .inr (fun s e => by cases e)
    | some s => exact (hap s hr0).2.2.2.imp id (fun h s' e => by cases e; exact h)
  have hre : vs.ownBlock = r := hr0
  have hrN : ∀ s, r = some s → s < w0.heap.size := fun s e => (hown.lt s (hr0.trans e)).2
  have hR := gb_pre r
  refine wp_region_one hR 9 [] (fun w => w.ownsRow B 30 9 vs n xs) (by kernel_rfl) (fun _ _ h hb => own_grow h hb) (fun _ h => own_grow h ((Below.refl _ _).drew)) 13 mixed (by rw [hsz]; kernel_rfl) (by kernel_rfl) hown ?_
  rw [show chappOps.size - 13 = 1 by kernel_rfl]
  refine ⟨isVal (.pointer (some ⟨g, 0, none⟩)), OStep.of hR (by decide) (stabR_val' _ _) (by kernel_rfl) (by intro w hr; exact step_move (.tmp 3) (by kernel_rfl) (wanted_none (by kernel_rfl)) (stable_val _) (knows_old 3 (.pointer (some ⟨g, 0, none⟩)) (by kernel_rfl) e1)), ?_⟩
  refine ⟨isVal (.pointer (some ⟨g, 0, none⟩)), OStep.of hR (by decide) (stabR_val' _ _) (by kernel_rfl) (by intro w hr; exact step_move (.tmp 3) (by kernel_rfl) (wanted_none (by kernel_rfl)) (stable_val _) (knows_old 3 (.pointer (some ⟨g, 0, none⟩)) (by kernel_rfl) e1)), ?_⟩
  refine ⟨isVal (.pointer (some ⟨g, 0, none⟩)), OStep.of hR (by decide) (stabR_val' _ _) (by kernel_rfl) (by intro w hr; exact step_nilA (.tmp 22) ⟨g, 0, none⟩ (by kernel_rfl) (wanted_none (by kernel_rfl)) (knows_new (V := isVal (.pointer (some ⟨g, 0, none⟩))) 22 1 (by kernel_rfl) (by kernel_rfl) (by kernel_rfl))), ?_⟩
  refine ⟨isVal (.pointer (some ⟨g, 0, none⟩)), OStep.of hR (by decide) (stabR_val' _ _) (by kernel_rfl) (by intro w hr; exact step_field 72 (.tmp 23) 0 ⟨g, 0, none⟩ ⟨g, 0, none⟩ (by kernel_rfl) (wanted_none (by kernel_rfl)) (knows_new (V := isVal (.pointer (some ⟨g, 0, none⟩))) 23 2 (by kernel_rfl) (by kernel_rfl) (by kernel_rfl)) (f_ch_0_0 (g))), ?_⟩
  refine ⟨isVal (.pointer (some ⟨g, 1, none⟩)), OStep.of hR (by decide) (stabR_val' _ _) (by kernel_rfl) (by intro w hr; exact step_field 25 (.tmp 24) 1 ⟨g, 0, none⟩ ⟨g, 1, none⟩ (by kernel_rfl) (wanted_none (by kernel_rfl)) (knows_new (V := isVal (.pointer (some ⟨g, 0, none⟩))) 24 3 (by kernel_rfl) (by kernel_rfl) (by kernel_rfl)) (f_ar_0_1 (g))), ?_⟩
  refine ⟨isVal vs, OStep.of hR (by decide) (stabR_val' _ _) (by kernel_rfl) (by intro w hr; exact step_read 22 (.tmp 25) ⟨g, 1, none⟩ vs (by kernel_rfl) (wanted_none (by kernel_rfl)) (knows_new (V := isVal (.pointer (some ⟨g, 1, none⟩))) 25 4 (by kernel_rfl) (by kernel_rfl) (by kernel_rfl)) ((hr.cell_ hcell hg hgr)) ((Nat.lt_of_lt_of_le hg hr.size)) (agg_noS)), ?_⟩
  refine ⟨isVal (.agg #[.string ⟨E.key.toArray⟩, .int .i64 E.val.kind, .int .i64 E.val.time, .int .i64 E.val.node, .bool E.val.dead, .string ⟨E.val.text.toArray⟩, ep, em, .int .u64 (E.val.flags.toNat : Int)]), OStep.of hR (by decide) (stabR_val' _ _) (by kernel_rfl) (by intro w hr; exact step_loadA 30 (.tmp 5) (h) (0) [.string ⟨E.key.toArray⟩, .int .i64 E.val.kind, .int .i64 E.val.time, .int .i64 E.val.node, .bool E.val.dead, .string ⟨E.val.text.toArray⟩, ep, em, .int .u64 (E.val.flags.toNat : Int)] (by kernel_rfl) (wanted_none (by kernel_rfl)) (knows_old 5 (.pointer (some ⟨h, 0, none⟩)) (by kernel_rfl) e2) size_en agg_en (⟨Nat.lt_of_lt_of_le hE.lt hr.size, fun j x hx => by rw [Nat.zero_add]; exact hr.cell_ (hE.cells.2 j x hx) hE.lt hhr⟩)), ?_⟩
  refine ⟨(isEnN w0.heap.size E), OStep.of hR (by decide) (enN_R hrN _) (by kernel_rfl) (by intro w hr; exact step_call 90 #[.tmp 27] #[30] #[.agg #[.string ⟨E.key.toArray⟩, .int .i64 E.val.kind, .int .i64 E.val.time, .int .i64 E.val.node, .bool E.val.dead, .string ⟨E.val.text.toArray⟩, ep, em, .int .u64 (E.val.flags.toNat : Int)]] (by kernel_rfl) (wanted_none (by kernel_rfl)) (stable_enN _ _) (args1 (.tmp 27) (.agg #[.string ⟨E.key.toArray⟩, .int .i64 E.val.kind, .int .i64 E.val.time, .int .i64 E.val.node, .bool E.val.dead, .string ⟨E.val.text.toArray⟩, ep, em, .int .u64 (E.val.flags.toNat : Int)]) (knows_new (V := isVal (.agg #[.string ⟨E.key.toArray⟩, .int .i64 E.val.kind, .int .i64 E.val.time, .int .i64 E.val.node, .bool E.val.dead, .string ⟨E.val.text.toArray⟩, ep, em, .int .u64 (E.val.flags.toNat : Int)])) 27 6 (by kernel_rfl) (by kernel_rfl) (by kernel_rfl))) (enters_of Tryz.func90 (by kernel_rfl) rfl) (by intro w' hb; exact twin_at w0.heap.size E _ w' (en_mk (hr.cells hp opr) (hr.cells hm omr) hb) hF (Nat.le_trans hr.size hb.size))), ?_⟩
  refine ⟨(isEn1 w0.heap.size E), OStep.of hR (by decide) (en1_R hrN _) (by kernel_rfl) (by intro w hr; exact step_ent1 w0.heap.size (.tmp 28) E (by kernel_rfl) (wanted_none (by kernel_rfl)) (knows_new (V := (isEnN w0.heap.size E)) 28 7 (by kernel_rfl) (by kernel_rfl) (by kernel_rfl)) (hr.size)), ?_⟩
  refine ⟨isApp B w0.heap.size r E n xs, ostep_app B w0.heap.size r E vs n xs (.tmp 26) (.tmp 29) (by kernel_rfl) (knows_new (V := isVal vs) 26 5 (by kernel_rfl) (by kernel_rfl) (by kernel_rfl)) (knows_new (V := (isEn1 w0.heap.size E)) 29 8 (by kernel_rfl) (by kernel_rfl) (by kernel_rfl)) hn hB hre hrN (Nat.le_refl _) (by kernel_rfl), ?_⟩
  refine ⟨isVal (.pointer (some ⟨g, 0, none⟩)), OStep.of hR (by decide) (stabR_val' _ _) (by kernel_rfl) (by intro w hr; exact step_nilA (.tmp 21) ⟨g, 0, none⟩ (by kernel_rfl) (wanted_none (by kernel_rfl)) (knows_new (V := isVal (.pointer (some ⟨g, 0, none⟩))) 21 0 (by kernel_rfl) (by kernel_rfl) (by kernel_rfl))), ?_⟩
  refine ⟨isVal (.pointer (some ⟨g, 0, none⟩)), OStep.of hR (by decide) (stabR_val' _ _) (by kernel_rfl) (by intro w hr; exact step_field 72 (.tmp 31) 0 ⟨g, 0, none⟩ ⟨g, 0, none⟩ (by kernel_rfl) (wanted_none (by kernel_rfl)) (knows_new (V := isVal (.pointer (some ⟨g, 0, none⟩))) 31 10 (by kernel_rfl) (by kernel_rfl) (by kernel_rfl)) (f_ch_0_0 (g))), ?_⟩
  refine ⟨isVal (.pointer (some ⟨g, 1, none⟩)), OStep.of hR (by decide) (stabR_val' _ _) (by kernel_rfl) (by intro w hr; exact step_field 25 (.tmp 32) 1 ⟨g, 0, none⟩ ⟨g, 1, none⟩ (by kernel_rfl) (wanted_none (by kernel_rfl)) (knows_new (V := isVal (.pointer (some ⟨g, 0, none⟩))) 32 11 (by kernel_rfl) (by kernel_rfl) (by kernel_rfl)) (f_ar_0_1 (g))), ?_⟩
  intro a w hk0 hb hd
  have da := fdone_of (rdone_f (hd 9 (by decide))) (t := 30) (V := isApp B w0.heap.size r E n xs) (by kernel_rfl) (by kernel_rfl)
  have dp := fdone_of (rdone_f (hd 12 (by decide))) (t := 33) (V := isVal (.pointer (some ⟨g, 1, none⟩))) (by kernel_rfl) (by kernel_rfl)
  generalize hv : a.tmps.getD 30 undef = v at da
  obtain ⟨vp, vm, h1, h2, h3, h4, h5, h6, h7⟩ := da
  have hgw : g < w.heap.size := Nat.lt_of_lt_of_le hg hb.size
  have hvg : v.ownBlock ≠ some g := by
    rcases h6 with h6 | h6
    · rw [h6]; exact hgr
    · intro e; have := h6 g (own_blk_eq e); omega
  have ng : ∀ {cs : List Value} {u : Value}, NewB w0.heap.size u → cs = [] ∨ blk u ≠ some g := fun h => .inr (h.ne hg)
  have HG' : Blk w g l := ⟨⟨hgw, fun j x hx => hb.cell_ (HG.cells.2 j x hx) hg hgr⟩, fun j => (hb.frozen_ hg hgr).trans (HG.free j)⟩
  refine tail_store 22 (.tmp 33) (.tmp 30) ⟨g, 1, none⟩ v vs (by kernel_rfl) (by kernel_rfl) dp hv (by kernel_rfl) (own_one h1).1 (own_one h1).2 (HG'.cells.2 _ _ hl) (HG'.free 1) ?_
  obtain ⟨y, ey⟩ := kept_ex hk0.f [some 21, some 22, some 23, some 24, some 25, some 26, some 27, some 28, some 29, some 30, some 31, some 32, some 33, none] [21, 22, 23, 24, 25, 26, 27, 28, 29, 30, 31, 32, 33] (by kernel_rfl) (by decide)
  rw [ey]
  have hll : 1 < l.length := (List.getElem?_eq_some_iff.1 hl).1
  exact hQ y v vp vm _ (own_set h1 hvg) (cells_set h2 (ng h4)) (cells_set h3 (ng h5)) h4 h5 (h6.imp (fun e => e.trans hr0.symm) id) h7 (HG'.set 1 v hll) ((gb_bt hb (fun b e => .inr (hr0.trans e))).trans (bt_set g 1 v w (.inl rfl)))
noncomputable def jnappOps : Array Oper := regionOfR Tryz.f49 9
set_option maxRecDepth 100000 in
set_option maxHeartbeats 2000000 in
theorem jnapp_region (Q : Exit → Act → World → Prop) (a0 : Act) (w0 : World) (hsz : a0.tmps.size = 83) (g h B n : Nat) (l : List Value) (E : En) (vs ep em : Value) (xs : List Value) (e1 : a0.tmps.getD 0 undef = .pointer (some ⟨g, 0, none⟩)) (e2 : a0.tmps.getD 3 undef = .pointer (some ⟨h, 0, none⟩))
    (HG : Blk w0 g l) (hl : l[1]? = some vs) (hE : Blk w0 h [.string ⟨E.key.toArray⟩, .int .i64 E.val.kind, .int .i64 E.val.time, .int .i64 E.val.node, .bool E.val.dead, .string ⟨E.val.text.toArray⟩, ep, em, .int .u64 (E.val.flags.toNat : Int)]) (hp : isCells (E.val.plus.map intC) ep w0) (hm : isCells (E.val.minus.map intC) em w0) (hF : FitE E) (hown : w0.ownsRow B 30 9 vs n xs) (hn : n ≤ 1000) (hB : B ≤ w0.heap.size)
    (hap : ∀ s, vs.ownBlock = some s → s ≠ g ∧ s ≠ h ∧ (E.val.plus.map intC = [] ∨ blk ep ≠ some s) ∧ (E.val.minus.map intC = [] ∨ blk em ≠ some s))
    (hQ : ∀ (y : Nat → Value) (v vp vm : Value) (w : World), w.ownsRow B 30 9 v (n + 1) (xs ++ enL E vp vm) → isCells (E.val.plus.map intC) vp w → isCells (E.val.minus.map intC) vm w → NewB w0.heap.size vp → NewB w0.heap.size vm → (v.ownBlock = vs.ownBlock ∨ NewB w0.heap.size v) → (∀ b, v.ownBlock = some b → (E.val.plus.map intC = [] ∨ blk vp ≠ some b) ∧ (E.val.minus.map intC = [] ∨ blk vm ≠ some b)) → Blk w g (l.set 1 v) → Bt (fun b => b = g ∨ vs.ownBlock = some b) w0 w →
      Q .normal { tmps := [70, 71, 72, 73, 74, 75, 76, 77, 78, 79, 80, 81, 82].foldl (fun t s => t.setIfInBounds s (y s)) a0.tmps, defers := a0.defers } w) :
    (Code.region 9 jnappOps true).wp Tryz.prog Q a0 w0 := by
  obtain ⟨r, hr0⟩ : ∃ r, vs.ownBlock = r := ⟨_, rfl⟩
  have hcell : w0.cell? ⟨g, 1, none⟩ = some vs := HG.cells.2 _ _ hl
  have hg := HG.lt
  have hgr : r ≠ some g := by intro e; exact (hap g (hr0.trans e)).1 rfl
  have hhr : r ≠ some h := by intro e; exact (hap h (hr0.trans e)).2.1 rfl
  have opr : E.val.plus.map intC = [] ∨ ∀ s, r = some s → blk ep ≠ some s := by
    cases r with
    | none => exact .inr (fun s e => by cases e)
    | some s => exact (hap s hr0).2.2.1.imp id (fun h s' e => by cases e; exact h)
  have omr : E.val.minus.map intC = [] ∨ ∀ s, r = some s → blk em ≠ some s := by
    cases r with
    | none => exact .inr (fun s e => by cases e)
    | some s => exact (hap s hr0).2.2.2.imp id (fun h s' e => by cases e; exact h)
  have hre : vs.ownBlock = r := hr0
  have hrN : ∀ s, r = some s → s < w0.heap.size := fun s e => (hown.lt s (hr0.trans e)).2
  have hR := gb_pre r
  refine wp_region_one hR 9 [] (fun w => w.ownsRow B 30 9 vs n xs) (by kernel_rfl) (fun _ _ h hb => own_grow h hb) (fun _ h => own_grow h ((Below.refl _ _).drew)) 13 mixed (by rw [hsz]; kernel_rfl) (by kernel_rfl) hown ?_
  rw [show jnappOps.size - 13 = 1 by kernel_rfl]
  refine ⟨isVal (.pointer (some ⟨g, 0, none⟩)), OStep.of hR (by decide) (stabR_val' _ _) (by kernel_rfl) (by intro w hr; exact step_move (.tmp 0) (by kernel_rfl) (wanted_none (by kernel_rfl)) (stable_val _) (knows_old 0 (.pointer (some ⟨g, 0, none⟩)) (by kernel_rfl) e1)), ?_⟩
  refine ⟨isVal (.pointer (some ⟨g, 0, none⟩)), OStep.of hR (by decide) (stabR_val' _ _) (by kernel_rfl) (by intro w hr; exact step_move (.tmp 0) (by kernel_rfl) (wanted_none (by kernel_rfl)) (stable_val _) (knows_old 0 (.pointer (some ⟨g, 0, none⟩)) (by kernel_rfl) e1)), ?_⟩
  refine ⟨isVal (.pointer (some ⟨g, 0, none⟩)), OStep.of hR (by decide) (stabR_val' _ _) (by kernel_rfl) (by intro w hr; exact step_nilA (.tmp 71) ⟨g, 0, none⟩ (by kernel_rfl) (wanted_none (by kernel_rfl)) (knows_new (V := isVal (.pointer (some ⟨g, 0, none⟩))) 71 1 (by kernel_rfl) (by kernel_rfl) (by kernel_rfl))), ?_⟩
  refine ⟨isVal (.pointer (some ⟨g, 0, none⟩)), OStep.of hR (by decide) (stabR_val' _ _) (by kernel_rfl) (by intro w hr; exact step_field 72 (.tmp 72) 0 ⟨g, 0, none⟩ ⟨g, 0, none⟩ (by kernel_rfl) (wanted_none (by kernel_rfl)) (knows_new (V := isVal (.pointer (some ⟨g, 0, none⟩))) 72 2 (by kernel_rfl) (by kernel_rfl) (by kernel_rfl)) (f_ch_0_0 (g))), ?_⟩
  refine ⟨isVal (.pointer (some ⟨g, 1, none⟩)), OStep.of hR (by decide) (stabR_val' _ _) (by kernel_rfl) (by intro w hr; exact step_field 25 (.tmp 73) 1 ⟨g, 0, none⟩ ⟨g, 1, none⟩ (by kernel_rfl) (wanted_none (by kernel_rfl)) (knows_new (V := isVal (.pointer (some ⟨g, 0, none⟩))) 73 3 (by kernel_rfl) (by kernel_rfl) (by kernel_rfl)) (f_ar_0_1 (g))), ?_⟩
  refine ⟨isVal vs, OStep.of hR (by decide) (stabR_val' _ _) (by kernel_rfl) (by intro w hr; exact step_read 22 (.tmp 74) ⟨g, 1, none⟩ vs (by kernel_rfl) (wanted_none (by kernel_rfl)) (knows_new (V := isVal (.pointer (some ⟨g, 1, none⟩))) 74 4 (by kernel_rfl) (by kernel_rfl) (by kernel_rfl)) ((hr.cell_ hcell hg hgr)) ((Nat.lt_of_lt_of_le hg hr.size)) (agg_noS)), ?_⟩
  refine ⟨isVal (.agg #[.string ⟨E.key.toArray⟩, .int .i64 E.val.kind, .int .i64 E.val.time, .int .i64 E.val.node, .bool E.val.dead, .string ⟨E.val.text.toArray⟩, ep, em, .int .u64 (E.val.flags.toNat : Int)]), OStep.of hR (by decide) (stabR_val' _ _) (by kernel_rfl) (by intro w hr; exact step_loadA 30 (.tmp 3) (h) (0) [.string ⟨E.key.toArray⟩, .int .i64 E.val.kind, .int .i64 E.val.time, .int .i64 E.val.node, .bool E.val.dead, .string ⟨E.val.text.toArray⟩, ep, em, .int .u64 (E.val.flags.toNat : Int)] (by kernel_rfl) (wanted_none (by kernel_rfl)) (knows_old 3 (.pointer (some ⟨h, 0, none⟩)) (by kernel_rfl) e2) size_en agg_en (⟨Nat.lt_of_lt_of_le hE.lt hr.size, fun j x hx => by rw [Nat.zero_add]; exact hr.cell_ (hE.cells.2 j x hx) hE.lt hhr⟩)), ?_⟩
  refine ⟨(isEnN w0.heap.size E), OStep.of hR (by decide) (enN_R hrN _) (by kernel_rfl) (by intro w hr; exact step_call 90 #[.tmp 76] #[30] #[.agg #[.string ⟨E.key.toArray⟩, .int .i64 E.val.kind, .int .i64 E.val.time, .int .i64 E.val.node, .bool E.val.dead, .string ⟨E.val.text.toArray⟩, ep, em, .int .u64 (E.val.flags.toNat : Int)]] (by kernel_rfl) (wanted_none (by kernel_rfl)) (stable_enN _ _) (args1 (.tmp 76) (.agg #[.string ⟨E.key.toArray⟩, .int .i64 E.val.kind, .int .i64 E.val.time, .int .i64 E.val.node, .bool E.val.dead, .string ⟨E.val.text.toArray⟩, ep, em, .int .u64 (E.val.flags.toNat : Int)]) (knows_new (V := isVal (.agg #[.string ⟨E.key.toArray⟩, .int .i64 E.val.kind, .int .i64 E.val.time, .int .i64 E.val.node, .bool E.val.dead, .string ⟨E.val.text.toArray⟩, ep, em, .int .u64 (E.val.flags.toNat : Int)])) 76 6 (by kernel_rfl) (by kernel_rfl) (by kernel_rfl))) (enters_of Tryz.func90 (by kernel_rfl) rfl) (by intro w' hb; exact twin_at w0.heap.size E _ w' (en_mk (hr.cells hp opr) (hr.cells hm omr) hb) hF (Nat.le_trans hr.size hb.size))), ?_⟩
  refine ⟨(isEn1 w0.heap.size E), OStep.of hR (by decide) (en1_R hrN _) (by kernel_rfl) (by intro w hr; exact step_ent1 w0.heap.size (.tmp 77) E (by kernel_rfl) (wanted_none (by kernel_rfl)) (knows_new (V := (isEnN w0.heap.size E)) 77 7 (by kernel_rfl) (by kernel_rfl) (by kernel_rfl)) (hr.size)), ?_⟩
  refine ⟨isApp B w0.heap.size r E n xs, ostep_app B w0.heap.size r E vs n xs (.tmp 75) (.tmp 78) (by kernel_rfl) (knows_new (V := isVal vs) 75 5 (by kernel_rfl) (by kernel_rfl) (by kernel_rfl)) (knows_new (V := (isEn1 w0.heap.size E)) 78 8 (by kernel_rfl) (by kernel_rfl) (by kernel_rfl)) hn hB hre hrN (Nat.le_refl _) (by kernel_rfl), ?_⟩
  refine ⟨isVal (.pointer (some ⟨g, 0, none⟩)), OStep.of hR (by decide) (stabR_val' _ _) (by kernel_rfl) (by intro w hr; exact step_nilA (.tmp 70) ⟨g, 0, none⟩ (by kernel_rfl) (wanted_none (by kernel_rfl)) (knows_new (V := isVal (.pointer (some ⟨g, 0, none⟩))) 70 0 (by kernel_rfl) (by kernel_rfl) (by kernel_rfl))), ?_⟩
  refine ⟨isVal (.pointer (some ⟨g, 0, none⟩)), OStep.of hR (by decide) (stabR_val' _ _) (by kernel_rfl) (by intro w hr; exact step_field 72 (.tmp 80) 0 ⟨g, 0, none⟩ ⟨g, 0, none⟩ (by kernel_rfl) (wanted_none (by kernel_rfl)) (knows_new (V := isVal (.pointer (some ⟨g, 0, none⟩))) 80 10 (by kernel_rfl) (by kernel_rfl) (by kernel_rfl)) (f_ch_0_0 (g))), ?_⟩
  refine ⟨isVal (.pointer (some ⟨g, 1, none⟩)), OStep.of hR (by decide) (stabR_val' _ _) (by kernel_rfl) (by intro w hr; exact step_field 25 (.tmp 81) 1 ⟨g, 0, none⟩ ⟨g, 1, none⟩ (by kernel_rfl) (wanted_none (by kernel_rfl)) (knows_new (V := isVal (.pointer (some ⟨g, 0, none⟩))) 81 11 (by kernel_rfl) (by kernel_rfl) (by kernel_rfl)) (f_ar_0_1 (g))), ?_⟩
  intro a w hk0 hb hd
  have da := fdone_of (rdone_f (hd 9 (by decide))) (t := 79) (V := isApp B w0.heap.size r E n xs) (by kernel_rfl) (by kernel_rfl)
  have dp := fdone_of (rdone_f (hd 12 (by decide))) (t := 82) (V := isVal (.pointer (some ⟨g, 1, none⟩))) (by kernel_rfl) (by kernel_rfl)
  generalize hv : a.tmps.getD 79 undef = v at da
  obtain ⟨vp, vm, h1, h2, h3, h4, h5, h6, h7⟩ := da
  have hgw : g < w.heap.size := Nat.lt_of_lt_of_le hg hb.size
  have hvg : v.ownBlock ≠ some g := by
    rcases h6 with h6 | h6
    · rw [h6]; exact hgr
    · intro e; have := h6 g (own_blk_eq e); omega
  have ng : ∀ {cs : List Value} {u : Value}, NewB w0.heap.size u → cs = [] ∨ blk u ≠ some g := fun h => .inr (h.ne hg)
  have HG' : Blk w g l := ⟨⟨hgw, fun j x hx => hb.cell_ (HG.cells.2 j x hx) hg hgr⟩, fun j => (hb.frozen_ hg hgr).trans (HG.free j)⟩
  refine tail_store 22 (.tmp 82) (.tmp 79) ⟨g, 1, none⟩ v vs (by kernel_rfl) (by kernel_rfl) dp hv (by kernel_rfl) (own_one h1).1 (own_one h1).2 (HG'.cells.2 _ _ hl) (HG'.free 1) ?_
  obtain ⟨y, ey⟩ := kept_ex hk0.f [some 70, some 71, some 72, some 73, some 74, some 75, some 76, some 77, some 78, some 79, some 80, some 81, some 82, none] [70, 71, 72, 73, 74, 75, 76, 77, 78, 79, 80, 81, 82] (by kernel_rfl) (by decide)
  rw [ey]
  have hll : 1 < l.length := (List.getElem?_eq_some_iff.1 hl).1
  exact hQ y v vp vm _ (own_set h1 hvg) (cells_set h2 (ng h4)) (cells_set h3 (ng h5)) h4 h5 (h6.imp (fun e => e.trans hr0.symm) id) h7 (HG'.set 1 v hll) ((gb_bt hb (fun b e => .inr (hr0.trans e))).trans (bt_set g 1 v w (.inl rfl)))
end Go.Proofs.YtbgconagkgfplaaGreat
end
section
namespace Go.Proofs.YtbgconagkgfplaaGreat
open Go.RowKit
set_option linter.unusedVariables false
set_option linter.unusedSimpArgs false
attribute [local irreducible] setN

/-- The first k places are as they should be. -/
def IdxTo (l : List En) (idx : List Int) (k : Nat) : Prop := ∀ i p, i < k → idx[i]? = some p → (0 ≤ p ∧ p < l.length) ∧ ∀ j q, i = j + 1 → idx[j]? = some q → lessE (slotAt l q) (slotAt l p) = true
theorem idxTo_succ {l : List En} {idx : List Int} {k : Nat} (h : IdxTo l idx k) {p : Int} (hp : idx[k]? = some p) (hr : 0 ≤ p ∧ p < l.length) (hl : ∀ j q, k = j + 1 → idx[j]? = some q → lessE (slotAt l q) (slotAt l p) = true) : IdxTo l idx (k + 1) := by
  intro i p' hi hp'
  by_cases e : i = k
  · subst e; rw [hp] at hp'; injection hp' with hp'; subst hp'; exact ⟨hr, hl⟩
  · exact h i p' (by omega) hp'
theorem idxTo_asc {l : List En} {idx : List Int} (h : IdxTo l idx idx.length) : Asc (idx.map (slotAt l)) := by
  unfold Asc
  rw [List.pairwise_iff_getElem]
  have key : ∀ d i (h1 : i + d + 1 < idx.length), lessE (slotAt l (idx[i]'(by omega))) (slotAt l (idx[i + d + 1]'h1)) = true := by
    intro d
    induction d with
    | zero => intro i h1; exact (h (i + 1) _ h1 (List.getElem?_eq_getElem h1)).2 i _ rfl (List.getElem?_eq_getElem (by omega))
    | succ d ih =>
      intro i h1
      have a := ih i (by omega)
      have b := (h (i + (d + 1) + 1) _ h1 (List.getElem?_eq_getElem h1)).2 (i + d + 1) _ (by omega) (List.getElem?_eq_getElem (by omega))
      exact lessE_trans _ _ _ a b
  intro i j hi hj hij
  simp only [List.getElem_map]
  have := key (j - i - 1) i (by simp at hj; omega)
  have e : i + (j - i - 1) + 1 = j := by omega
  simp only [e] at this
  exact this
theorem idxB_true {l : List En} {idx : List Int} (hl : idx.length = l.length) (h : IdxTo l idx idx.length) : idxB l idx = true := by
  unfold idxB
  simp only [Bool.and_eq_true, decide_eq_true_eq, List.all_eq_true]
  refine ⟨hl, fun p hp => ?_, idxTo_asc h⟩
  obtain ⟨i, hi⟩ := List.getElem?_of_mem hp
  exact (h i p (List.getElem?_eq_some_iff.1 hi).1 hi).1
theorem idxB_len {l : List En} {idx : List Int} (hl : idx.length ≠ l.length) : idxB l idx = false := by unfold idxB; simp [hl]
theorem idxB_rng {l : List En} {idx : List Int} {p : Int} (hp : p ∈ idx) (h : p < 0 ∨ (l.length : Int) ≤ p) : idxB l idx = false := by
  cases hb : idxB l idx with
  | false => rfl
  | true =>
    unfold idxB at hb
    simp only [Bool.and_eq_true, decide_eq_true_eq, List.all_eq_true] at hb
    have := hb.2.1 p hp
    omega
theorem idxB_less {l : List En} {idx : List Int} {j : Nat} {p q : Int} (hj : idx[j]? = some q) (hi : idx[j + 1]? = some p) (h : lessE (slotAt l q) (slotAt l p) = false) : idxB l idx = false := by
  cases hb : idxB l idx with
  | false => rfl
  | true =>
    unfold idxB at hb
    simp only [Bool.and_eq_true, decide_eq_true_eq, List.all_eq_true] at hb
    have h2 := hb.2.2
    unfold Asc at h2
    rw [List.pairwise_iff_getElem] at h2
    have l1 := (List.getElem?_eq_some_iff.1 hj).1
    have l2 := (List.getElem?_eq_some_iff.1 hi).1
    have := h2 j (j + 1) (by simpa using l1) (by simpa using l2) (by omega)
    simp only [List.getElem_map, (List.getElem?_eq_some_iff.1 hj).2, (List.getElem?_eq_some_iff.1 hi).2] at this
    rw [h] at this
    cases this
theorem cells_get {l : List Int} {v : Value} {w : World} (h : isCells (l.map intC) v w) (hl : l ≠ []) : ∃ b off cap, v = .slice (some ⟨b, off, none⟩) l.length cap ∧ b < w.heap.size ∧ ∀ (j : Nat) (x : Int), l[j]? = some x → w.cell? ⟨b, off + j, none⟩ = some (.int .i64 x) := by
  rcases h with ⟨_, h⟩ | ⟨_, _, _, h⟩ | ⟨b, off, cap, e, hb, hc⟩
  · simp at h; exact absurd h hl
  · simp at h; exact absurd h hl
  · exact ⟨b, off, cap, by rw [e, List.length_map], hb, fun j x hx => hc j (intC x) (by rw [List.getElem?_map, hx]; rfl)⟩
set_option maxRecDepth 100000 in
set_option maxHeartbeats 2000000 in
theorem isidx_any (A : Ar) (v : Value) (w : World) (hv : isAr A v w) (hF : FitA A) : Calls Tryz.prog 86 #[v] w fun e w' => e = .returned (.bool (idxB A.slots A.index)) ∧ Below w.heap.size w w' := by
  obtain ⟨vs, vi, rfl, hs, hi⟩ := hv
  have f1 := hF.slots
  have f2 := hF.index
  by_cases hl : A.index.length = A.slots.length
  · by_cases he : A.index = []
    · obtain ⟨sa, cs, rfl⟩ := hs.len
      obtain ⟨ia, ci, rfl⟩ := hi.len
      obtain ⟨hB, V⟩ := abox w A _ _ hs hi w.heap.size rfl
      have hlen : A.index.length = 0 := by rw [he]; rfl
      have hE := Kept.mk (show idxB A.slots A.index = true from idxB_true hl (fun i p h1 h2 => by rw [he] at h2; simp at h2))
      have hl0 : A.slots.length = 0 := by omega
      rw [List.length_map, hlen, hl0] at *
      generalize idxB A.slots A.index = z at *
      obtain rfl := hE.out
      have k0 : _ := (V.out.open_)
      clear hs hi hE k0
      have K1 : (w.alloc (.cells #[.int .i64 A.cap, .slice sa 0 cs, .slice ia 0 ci] 25)).cell? ⟨w.heap.size, 1, none⟩ = some (.slice sa 0 cs) := by rw [World.cell?_alloc_new]; rfl
      have K2 : (w.alloc (.cells #[.int .i64 A.cap, .slice sa 0 cs, .slice ia 0 ci] 25)).cell? ⟨w.heap.size, 2, none⟩ = some (.slice ia 0 ci) := by rw [World.cell?_alloc_new]; rfl
      clear hl hlen hl0 f1 f2 he hF V
      go_enter Tryz.func86, Tryz.ntmps86
      go_wp2
      go_loopw [15] (fun i wr => i = .int .i64 0 ∧ Kept (Below w.heap.size w wr)) (fun i _ => 0)
      case atStart => exact ⟨rfl, ⟨lit_below _ _⟩⟩
      case round =>
        obtain ⟨rfl, B⟩ := hrel
        go_wp2
        go_ret
        exact ⟨rfl, B.out⟩
    · obtain ⟨bi, oi, ci, rfl, hbi, hci⟩ := cells_get hi he
      have hpos : 0 < A.index.length := List.length_pos_iff.2 he
      obtain ⟨bs, os, cs, rfl, hbs, hcs⟩ : ∃ b off cap, vs = .slice (some ⟨b, off, none⟩) A.slots.length cap ∧ b < w.heap.size ∧ ∀ (j : Nat) (E : En), A.slots[j]? = some E → EnAt w b (off + j * 9) E := by
        rcases hs.cases_ with ⟨_, _, _, h⟩ | h
        · rw [h] at hl; simp at hl; exact absurd hl he
        · exact h
      clear hs hi
      have HL := Kept.mk hl
      have HCI := Kept.mk hci
      have HCS := Kept.mk hcs
      generalize hn : A.index.length = n at *
      rw [← hl]
      clear hci hcs hl
      have HB := Kept.mk (Blk.new w 25 [.int .i64 A.cap, .slice (some ⟨bs, os, none⟩) n cs, .slice (some ⟨bi, oi, none⟩) n ci] w.heap.size rfl)
      have hB := Kept.mk (lit_below w (.cells #[.int .i64 A.cap, .slice (some ⟨bs, os, none⟩) n cs, .slice (some ⟨bi, oi, none⟩) n ci] 25))
      have k1 := HB.out.cells.2 1 _ rfl
      have k2 := HB.out.cells.2 2 _ rfl
      have HN := Kept.mk hn
      clear hn
      go_enter Tryz.func86, Tryz.ntmps86
      go_wp2
      generalize (w.alloc (.cells #[.int .i64 A.cap, .slice (some ⟨bs, os, none⟩) n cs, .slice (some ⟨bi, oi, none⟩) n ci] 25)) = W0 at *
      clear k1 k2
      go_loopw [15] (fun i wr => ∃ k : Nat, k ≤ n ∧ i = .int .i64 (k : Int) ∧ Kept (Below w.heap.size w wr) ∧ Kept (Blk wr w.heap.size [.int .i64 A.cap, .slice (some ⟨bs, os, none⟩) n cs, .slice (some ⟨bi, oi, none⟩) n ci]) ∧ Kept (IdxTo A.slots A.index k)) (fun i _ => n - (intOf i).toNat)
      case atStart => exact ⟨0, Nat.zero_le _, rfl, hB, HB, ⟨fun i p h => absurd h (Nat.not_lt_zero _)⟩⟩
      case round =>
        clear hB HB
        obtain ⟨k, hk, rfl, B, HB, I⟩ := hrel
        by_cases hlt : k < n
        · have hlt' : (k : Int) < (n : Int) := by omega
          obtain ⟨p, hp⟩ : ∃ p, A.index[k]? = some p := ⟨_, List.getElem?_eq_getElem (by rw [HN.out]; exact hlt)⟩
          have kp := (B.out.cell (p := ⟨bi, oi + k, none⟩) hbi).trans (HCI.out k p hp)
          have k1 := HB.out.cells.2 1 _ rfl
          have HP := Kept.mk hp
          clear hp
          by_cases h0 : p < 0
          · have hE := Kept.mk (idxB_rng (l := A.slots) (List.mem_of_getElem? HP.out) (.inl h0))
            have h0b : decide (p < 0) = true := decide_eq_true h0
            go_wp2
            go_ret
            exact ⟨by rw [hE.out]; rfl, B.out⟩
          · by_cases h1 : (n : Int) ≤ p
            · have hE := Kept.mk (idxB_rng (l := A.slots) (List.mem_of_getElem? HP.out) (.inr (by rw [← HL.out]; exact h1)))
              go_wp2
              go_ret
              exact ⟨by rw [hE.out]; rfl, B.out⟩
            · obtain ⟨q, rfl⟩ : ∃ q : Nat, p = (q : Int) := ⟨p.toNat, by omega⟩
              have hqn : q < n := by omega
              have hqn' : ¬ (n : Int) ≤ (q : Int) := h1
              clear h0 h1
              obtain ⟨Y, hY⟩ : ∃ Y, A.slots[q]? = some Y := ⟨_, List.getElem?_eq_getElem (by have := HL.out; omega)⟩
              have HY := Kept.mk hY
              clear hY
              by_cases hk0 : k = 0
              · subst hk0
                rw [Nat.add_zero] at kp
                have HI : Kept (IdxTo A.slots A.index (0 + 1)) := ⟨idxTo_succ I.out HP.out ⟨by omega, by rw [← HL.out]; omega⟩ (fun j q' e _ => by omega)⟩
                go_wp2_with fail
                go_region
                all_goals go_wp2
                all_goals go_roundw
                case rel => exact ⟨0 + 1, by omega, by go_num, ⟨B.out.drew⟩, ⟨HB.out.keep ((Below.refl _ _).drew)⟩, HI⟩
                case measure => simp [intOf]; omega
              · obtain ⟨m, rfl⟩ : ∃ m, k = m + 1 := ⟨k - 1, by omega⟩
                obtain ⟨p', hp'⟩ : ∃ p, A.index[m]? = some p := ⟨_, List.getElem?_eq_getElem (by rw [HN.out]; omega)⟩
                have hr := (I.out m p' (by omega) hp').1
                obtain ⟨p, rfl⟩ : ∃ p : Nat, p' = (p : Int) := ⟨p'.toNat, by omega⟩
                have hpn : p < n := by have := HL.out; omega
                obtain ⟨X, hX⟩ : ∃ X, A.slots[p]? = some X := ⟨_, List.getElem?_eq_getElem (by have := HL.out; omega)⟩
                have kq := (B.out.cell (p := ⟨bi, oi + m, none⟩) hbi).trans (HCI.out m _ hp')
                obtain ⟨xp, xm, hxc, hxp, hxm⟩ := (HCS.out p X hX).keep B.out hbs
                obtain ⟨yp, ym, hyc, hyp, hym⟩ := (HCS.out q Y HY.out).keep B.out hbs
                obtain ⟨z, hz⟩ : ∃ z, lessE X Y = z := ⟨_, rfl⟩
                have KQ := Kept.mk kq
                have KX := Kept.mk (And.intro hxc (And.intro hyc (And.intro hxp (And.intro hxm (And.intro hyp (And.intro hym (And.intro hz (And.intro hX hp'))))))))
                clear kq hxc hxp hxm hyc hyp hym hz hX hp' hr
                have hbi' := Nat.lt_of_lt_of_le hbi B.out.size
                have hbs' := Nat.lt_of_lt_of_le hbs B.out.size
                generalize hkk : m + 1 = kk at *
                go_wp2_with fail
                refine isidx_region _ _ _ rfl w.heap.size bs os cs bi oi ci n kk m p q A.cap z X Y xp xm yp ym rfl rfl rfl HB.out hkk.symm (by omega) (by omega) hpn hqn KQ.out hbi' hbs' KX.out.1 KX.out.2.1 KX.out.2.2.1 KX.out.2.2.2.1 KX.out.2.2.2.2.1 KX.out.2.2.2.2.2.1 KX.out.2.2.2.2.2.2.1 ?_
                clear kp k1
                intro f9 W9 d49 hb9
                simp only [List.foldl_cons, List.foldl_nil, d49]
                generalize f9 29 = y29
                generalize f9 30 = y30
                generalize f9 31 = y31
                generalize f9 32 = y32
                generalize f9 33 = y33
                generalize f9 34 = y34
                generalize f9 35 = y35
                generalize f9 36 = y36
                generalize f9 37 = y37
                generalize f9 38 = y38
                generalize f9 39 = y39
                generalize f9 40 = y40
                generalize f9 41 = y41
                generalize f9 42 = y42
                generalize f9 43 = y43
                generalize f9 44 = y44
                generalize f9 45 = y45
                generalize f9 46 = y46
                generalize f9 47 = y47
                generalize f9 48 = y48
                clear d49
                simp only [List.setIfInBounds_toArray, List.set_cons_succ, List.set_cons_zero]
                have sx : slotAt A.slots (p : Int) = X := slotAt_some KX.out.2.2.2.2.2.2.2.1
                have sy : slotAt A.slots (q : Int) = Y := slotAt_some HY.out
                have hless := KX.out.2.2.2.2.2.2.1
                have hpm := KX.out.2.2.2.2.2.2.2.2
                cases z with
                | false =>
                  have hE := Kept.mk (idxB_less (l := A.slots) hpm (by rw [hkk]; exact HP.out) (by rw [sx, sy]; exact hless))
                  have B2 := Kept.mk (B.out.trans (hb9.mono B.out.size))
                  clear hless hpm sx sy
                  go_wp2
                  go_ret
                  exact ⟨by rw [hE.out]; rfl, B2.out⟩
                | true =>
                  have B2 := Kept.mk (B.out.trans (hb9.mono B.out.size))
                  have HB2 := Kept.mk (HB.out.keep hb9)
                  have HI : Kept (IdxTo A.slots A.index (kk + 1)) := ⟨idxTo_succ I.out HP.out ⟨by omega, by rw [← HL.out]; omega⟩ (fun j q' e h => by
                    obtain rfl : j = m := by omega
                    rw [hpm] at h; injection h with h; rw [← h, sx, sy]; exact hless)⟩
                  clear hless hpm sx sy
                  go_wp2
                  go_roundw
                  case rel => exact ⟨kk + 1, by omega, by go_num, B2, HB2, HI⟩
                  case measure => simp [intOf]; omega
        · have hlt' : ¬ (k : Int) < (n : Int) := by omega
          have hE := Kept.mk (idxB_true (l := A.slots) (idx := A.index) (by rw [HN.out]; exact HL.out) (by rw [HN.out, show n = k by omega]; exact I.out))
          go_wp2
          go_ret
          exact ⟨by rw [hE.out]; rfl, B.out⟩
  · obtain ⟨sa, cs, rfl⟩ := hs.len
    obtain ⟨ia, ci, rfl⟩ := hi.len
    rw [List.length_map]
    have hE := Kept.mk (idxB_len hl)
    have hB := Kept.mk (lit_below w (.cells #[.int .i64 A.cap, .slice sa A.slots.length cs, .slice ia A.index.length ci] 25))
    have HB := Kept.mk (Blk.new w 25 [.int .i64 A.cap, .slice sa A.slots.length cs, .slice ia A.index.length ci] w.heap.size rfl)
    have k1 := HB.out.cells.2 1 _ rfl
    have k2 := HB.out.cells.2 2 _ rfl
    clear hs hi
    generalize A.index.length = n at *
    generalize A.slots.length = m at *
    have hl1 : ((n : Int) == (m : Int)) = false := by simp; omega
    have hl2 : ((n : Int) != (m : Int)) = true := by simp; omega
    go_enter Tryz.func86, Tryz.ntmps86
    go_wp2
    go_ret
    exact ⟨by rw [hE.out]; rfl, hB.out⟩
theorem chk_A1 {A : Ar} (h : okA A = true) : chkA A = 0 := by unfold chkA; rw [if_pos h]
theorem chk_A0 {A : Ar} (h : okA A = false) : chkA A = 2 := by unfold chkA; rw [h]; rfl
set_option maxRecDepth 100000 in
set_option maxHeartbeats 2000000 in
theorem acheck_any (A : Ar) (v : Value) (w : World) (hv : isAr A v w) (hF : FitA A) : Calls Tryz.prog 38 #[v] w fun e w' => e = .returned (.int .i64 (chkA A)) ∧ Below w.heap.size w w' := by
  obtain ⟨vs, vi, rfl, hs, hi⟩ := hv
  obtain ⟨hB, Va⟩ := abox w A vs vi hs hi w.heap.size rfl
  clear hs hi
  obtain ⟨qa, ra, xa, sa, ia, ka0, ka1, ka2⟩ := Va.out.open_
  clear xa sa ia
  have HC := Kept.mk (show okA A = (roomB A.cap && (decide ((A.slots.length : Int) ≤ A.cap) && (A.slots.all okE && idxB A.slots A.index))) from rfl)
  go_enter Tryz.func38, Tryz.ntmps38
  go_wp2_with fail
  refine (room_any A.cap _).mono ?_
  rintro e W1 ⟨rfl, hb⟩
  replace hB := Kept.mk (hB.out.trans (hb.mono hB.out.size))
  replace Va := Kept.mk (Va.out.keep hb)
  clear hb ka0 ka1 ka2
  cases hr : roomB A.cap with
  | false =>
    have hE := Kept.mk (chk_A0 (A := A) (by rw [HC.out, hr]; rfl))
    clear HC
    go_wp2
    go_ret
    exact ⟨by rw [hE.out]; rfl, hB.out⟩
  | true =>
    rw [hr, Bool.true_and] at HC
    obtain ⟨qb, rb, xb, sb, ib, kb0, kb1, kb2⟩ := Va.out.open_
    obtain ⟨ba, bc, rfl⟩ := sb.len
    have SB := Kept.mk sb
    have f1 := hF.slots
    clear xb ib sb
    by_cases hl : (A.slots.length : Int) ≤ A.cap
    · rw [decide_eq_true hl, Bool.true_and] at HC
      have hl' : ¬ A.cap < (A.slots.length : Int) := by omega
      go_wp2_with fail
      refine (ents_any A.slots _ _ SB.out hF.ents hF.slots).mono ?_
      rintro e W2 ⟨rfl, hb⟩
      replace hB := Kept.mk (hB.out.trans (hb.mono hB.out.size))
      replace Va := Kept.mk (Va.out.keep hb)
      clear hb kb0 kb1 kb2 SB
      cases hq : A.slots.all okE with
      | false =>
        have hE := Kept.mk (chk_A0 (A := A) (by rw [HC.out, hq]; rfl))
        clear HC
        go_wp2
        go_ret
        exact ⟨by rw [hE.out]; rfl, hB.out⟩
      | true =>
        rw [hq, Bool.true_and] at HC
        obtain ⟨qd, rd, xd, sd, id, kd0, kd1, kd2⟩ := Va.out.open_
        have XD := Kept.mk xd
        clear xd sd id
        go_wp2_with fail
        refine (isidx_any A _ _ XD.out hF).mono ?_
        rintro e W3 ⟨rfl, hb⟩
        replace hB := Kept.mk (hB.out.trans (hb.mono hB.out.size))
        clear hb kd0 kd1 kd2 XD Va
        cases hx : idxB A.slots A.index with
        | false =>
          have hE := Kept.mk (chk_A0 (A := A) (by rw [HC.out, hx]))
          clear HC
          go_wp2
          go_ret
          exact ⟨by rw [hE.out]; rfl, hB.out⟩
        | true =>
          have hE := Kept.mk (chk_A1 (A := A) (by rw [HC.out, hx]))
          clear HC
          go_wp2
          go_ret
          exact ⟨by rw [hE.out]; rfl, hB.out⟩
    · rw [decide_eq_false hl, Bool.false_and] at HC
      have hl' : A.cap < (A.slots.length : Int) := by omega
      have hE := Kept.mk (chk_A0 HC.out)
      clear HC
      go_wp2
      go_ret
      exact ⟨by rw [hE.out]; rfl, hB.out⟩
end Go.Proofs.YtbgconagkgfplaaGreat
end
section
namespace Go.Proofs.YtbgconagkgfplaaGreat
open Go.RowKit
set_option linter.unusedVariables false
set_option linter.unusedSimpArgs false
attribute [local irreducible] setN

def ordI (X Y : En) : Int := if lessE X Y = true then -1 else if lessE Y X = true then 1 else 0
theorem ordI_neg (X Y : En) : decide (ordI X Y < 0) = lessE X Y := by
  unfold ordI
  cases lessE X Y <;> cases lessE Y X <;> rfl
theorem ordI_zero (X Y : En) (h : lessE X Y = false) : (ordI X Y == 0) = nameB X Y := by
  unfold ordI
  rw [h]
  cases h2 : lessE Y X with
  | true =>
    cases hn : nameB X Y with
    | true => rw [less_name Y X (name_symm hn)] at h2; cases h2
    | false => rfl
  | false => rw [less_none X Y h h2]; rfl
theorem lss_int {P : Program} (t : TypeId) (k : IntKind) (x y : Int) (b : Bool) (h : decide (x < y) = b) (w : World) : (binOp .lss t (.int k x) (.int k y)).run P w = .ok (.bool b) w := by subst h; simp [go_sem]
section
variable {P : Program} {ops : Array Oper} {base : World} {a0 : Act} {Q : Exit → Act → World → Prop} {kn : Nat → VP} {i : Nat} {V : VP}
/-- A function value is called. -/
theorem step_callV (x : Operand) (f : FuncId) (cb : Array Value) (xs : Array Operand) (ts : Array TypeId) (vs : Array Value) (hop : (ops[i]?).map (·.op) = some (.call { callee := .value x, args := xs, argTypes := ts })) (hw : Wanted ops a0 kn i) (hst : Stable V)
    (hv : Knows ops a0 kn i x (isVal (.func (.func f) #[] cb))) (hx : ∀ a w, FKept ops a0 a → FDeps ops kn i a w → xs.map a.eval = vs) (hent : Enters P f)
    (hc : ∀ w, Below base.heap.size base w → Calls P f (vs ++ cb) w fun e w' => ∃ v, e = .returned v ∧ V v w' ∧ Below w.heap.size w w') : FStep P ops base a0 Q kn i V :=
  step_mk hst hw fun o ho a w hk hb hd => by
    unfold Oper.wp execOp
    rw [op_of hop ho]
    have e1 : xs.map a.eval = vs := hx a w hk hd
    have e2 : a.eval x = .func (.func f) #[] cb := hv a w hk hd
    simp only [resolve, e1, e2, Deferred.ofValue, Sem.run_bind, Sem.run_pure, Result.andThen_ok, invoke, Array.append_empty, Array.empty_append]
    rw [hent]
    simp only [Oper.upon]
    refine (hc w hb).mono ?_
    rintro e w' ⟨v, rfl, hv, hbw⟩
    exact ⟨v, rfl, hv, hbw⟩
end
set_option maxRecDepth 100000 in
set_option maxHeartbeats 2000000 in
theorem order_any (X Y : En) (v u : Value) (w : World) (hv : isEn X v w) (hu : isEn Y u w) : Calls Tryz.prog 122 #[v, u] w fun e w' => e = .returned (.int .i64 (ordI X Y)) ∧ Below w.heap.size w w' := by
  obtain ⟨pa, ma, rfl, hpa, hma⟩ := hv
  obtain ⟨pb, mb, rfl, hpb, hmb⟩ := hu
  obtain ⟨hB, Va⟩ := ebox w X pa ma hpa hma (w.heap.size) (by simp)
  obtain ⟨hBn, Vb⟩ := ebox (w.alloc (.cells #[.string ⟨X.key.toArray⟩, .int .i64 X.val.kind, .int .i64 X.val.time, .int .i64 X.val.node, .bool X.val.dead, .string ⟨X.val.text.toArray⟩, pa, ma, .int .u64 (X.val.flags.toNat : Int)] 30)) Y pb mb (stable_cells _ _ _ _ hpb hB.out) (stable_cells _ _ _ _ hmb hB.out) (w.heap.size + 1) (by simp)
  replace Va := Kept.mk (Va.out.keep hBn.out)
  replace hB := Kept.mk (hB.out.trans (hBn.out.mono hB.out.size))
  clear hBn
  clear hpa hma hpb hmb
  obtain ⟨qa, ra, xa, ya, ka0, ka1, ka2, ka3, ka4, ka5, ka6, ka7, ka8⟩ := Va.out.open_
  have Xa := Kept.mk xa
  have Ya := Kept.mk ya
  clear xa ya
  obtain ⟨qb, rb, xb, yb, kb0, kb1, kb2, kb3, kb4, kb5, kb6, kb7, kb8⟩ := Vb.out.open_
  have Xb := Kept.mk xb
  have Yb := Kept.mk yb
  clear xb yb
  go_enter Tryz.func122, Tryz.ntmps122
  go_wp2_with fail
  ((with_reducible refine (eless_any X Y _ _ _ Xa.out Xb.out).mono ?_); rintro e W1 ⟨rfl, hb1⟩)
  clear Xa Ya ka0 ka1 ka2 ka3 ka4 ka5 ka6 ka7 ka8
  clear Xb Yb kb0 kb1 kb2 kb3 kb4 kb5 kb6 kb7 kb8
  replace hB := Kept.mk (hB.out.trans ((hb1).mono hB.out.size))
  replace Va := Kept.mk (Va.out.keep (hb1))
  replace Vb := Kept.mk (Vb.out.keep (hb1))
  clear hb1
  cases h1 : lessE X Y with
  | true =>
    have hE := Kept.mk (show ordI X Y = -1 by unfold ordI; rw [h1]; rfl)
    go_wp2
    go_ret
    exact ⟨by rw [hE.out]; rfl, hB.out⟩
  | false =>
    obtain ⟨qa, ra, xa, ya, ka0, ka1, ka2, ka3, ka4, ka5, ka6, ka7, ka8⟩ := Va.out.open_
    have Xa := Kept.mk xa
    have Ya := Kept.mk ya
    clear xa ya
    obtain ⟨qb, rb, xb, yb, kb0, kb1, kb2, kb3, kb4, kb5, kb6, kb7, kb8⟩ := Vb.out.open_
    have Xb := Kept.mk xb
    have Yb := Kept.mk yb
    clear xb yb
    go_wp2_with fail
    ((with_reducible refine (eless_any Y X _ _ _ Xb.out Xa.out).mono ?_); rintro e W2 ⟨rfl, hb1⟩)
    clear Xa Ya ka0 ka1 ka2 ka3 ka4 ka5 ka6 ka7 ka8
    clear Xb Yb kb0 kb1 kb2 kb3 kb4 kb5 kb6 kb7 kb8
    replace hB := Kept.mk (hB.out.trans ((hb1).mono hB.out.size))
    replace Va := Kept.mk (Va.out.keep (hb1))
    replace Vb := Kept.mk (Vb.out.keep (hb1))
    clear hb1
    cases h2 : lessE Y X with
    | true =>
      have hE := Kept.mk (show ordI X Y = 1 by unfold ordI; rw [h1, h2]; rfl)
      go_wp2
      go_ret
      exact ⟨by rw [hE.out]; rfl, hB.out⟩
    | false =>
      have hE := Kept.mk (show ordI X Y = 0 by unfold ordI; rw [h1, h2]; rfl)
      go_wp2
      go_ret
      exact ⟨by rw [hE.out]; rfl, hB.out⟩
theorem order_val (A B : En) (z : Int) (v u : Value) (w : World) (hv : isEn A v w) (hu : isEn B u w) (hz : ordI A B = z) : Calls Tryz.prog 122 #[v, u] w fun e w' => ∃ x, e = .returned x ∧ isVal (.int .i64 z) x w' ∧ Below w.heap.size w w' :=
  (order_any A B v u w hv hu).mono (by rintro e w' ⟨rfl, h⟩; exact ⟨_, rfl, by rw [hz]; rfl, h⟩)
noncomputable def cmpOps : Array Oper := regionOf Tryz.f121 1
set_option maxRecDepth 100000 in
set_option maxHeartbeats 2000000 in
theorem cmp_region (Q : Exit → Act → World → Prop) (a0 : Act) (w0 : World) (hsz : a0.tmps.size = 13) (g h bs os cs n q : Nat) (z : Int) (X Y : En) (xp xm yp ym : Value) (e2 : a0.tmps.getD 2 undef = .pointer (some ⟨g, 0, none⟩)) (e0 : a0.tmps.getD 0 undef = .int .i64 (q : Int)) (e4 : a0.tmps.getD 4 undef = .pointer (some ⟨h, 0, none⟩)) (hcell : w0.cell? ⟨g, 1, none⟩ = some (.slice (some ⟨bs, os, none⟩) n cs)) (hg : g < w0.heap.size) (hq : q < n) (hbs : bs < w0.heap.size) (hh : h < w0.heap.size) (hxc : ∀ (j : Nat) (x : Value), [.string ⟨X.key.toArray⟩, .int .i64 X.val.kind, .int .i64 X.val.time, .int .i64 X.val.node, .bool X.val.dead, .string ⟨X.val.text.toArray⟩, xp, xm, .int .u64 (X.val.flags.toNat : Int)][j]? = some x → w0.cell? ⟨bs, os + q * 9 + j, none⟩ = some x) (hyc : ∀ (j : Nat) (x : Value), [.string ⟨Y.key.toArray⟩, .int .i64 Y.val.kind, .int .i64 Y.val.time, .int .i64 Y.val.node, .bool Y.val.dead, .string ⟨Y.val.text.toArray⟩, yp, ym, .int .u64 (Y.val.flags.toNat : Int)][j]? = some x → w0.cell? ⟨h, j, none⟩ = some x) (hxp : isCells (X.val.plus.map intC) xp w0) (hxm : isCells (X.val.minus.map intC) xm w0) (hyp : isCells (Y.val.plus.map intC) yp w0) (hym : isCells (Y.val.minus.map intC) ym w0) (hz : ordI X Y = z)
    (hQ : ∀ (g : Nat → Value) (w : World), g 5 = .int .i64 z → Below w0.heap.size w0 w → Q .normal { tmps := [6, 7, 8, 9, 10, 11, 12, 5].foldl (fun t s => t.setIfInBounds s (g s)) a0.tmps, defers := a0.defers } w) :
    (Code.region 1 cmpOps true).wp Tryz.prog Q a0 w0 := by
  refine wp_region_flow mixed (by rw [hsz]; kernel_rfl) ?_
  rw [show cmpOps.size = 8 by kernel_rfl]
  refine ⟨isVal (.pointer (some ⟨g, 1, none⟩)), step_field 25 (.tmp 2) 1 ⟨g, 0, none⟩ ⟨g, 1, none⟩ (by kernel_rfl) (wanted_none (by kernel_rfl)) (knows_old 2 (.pointer (some ⟨g, 0, none⟩)) (by kernel_rfl) e2) (f_ar_0_1 (g)), ?_⟩
  refine ⟨isVal (.slice (some ⟨bs, os, none⟩) n cs), step_read 22 (.tmp 6) ⟨g, 1, none⟩ (.slice (some ⟨bs, os, none⟩) n cs) (by kernel_rfl) (wanted_none (by kernel_rfl)) (knows_new (V := isVal (.pointer (some ⟨g, 1, none⟩))) 6 0 (by kernel_rfl) (by kernel_rfl) (by kernel_rfl)) (hcell) (hg) (agg_noS), ?_⟩
  refine ⟨isVal (.int .i64 (q : Int)), step_move (.tmp 0) (by kernel_rfl) (wanted_none (by kernel_rfl)) (stable_val _) (knows_old 0 (.int .i64 (q : Int)) (by kernel_rfl) e0), ?_⟩
  refine ⟨isVal (.pointer (some ⟨bs, os + q * 9, none⟩)), step_placeE 22 30 (.tmp 7) (.tmp 8) bs (os) (n) (cs) (q) (os + q * 9) (by kernel_rfl) (wanted_none (by kernel_rfl)) (knows_new (V := isVal (.slice (some ⟨bs, os, none⟩) n cs)) 7 1 (by kernel_rfl) (by kernel_rfl) (by kernel_rfl)) (knows_new (V := isVal (.int .i64 (q : Int))) 8 2 (by kernel_rfl) (by kernel_rfl) (by kernel_rfl)) Tryz.underlying22 (by kernel_rfl) (⟨hq, rfl⟩), ?_⟩
  refine ⟨isVal (.agg #[.string ⟨X.key.toArray⟩, .int .i64 X.val.kind, .int .i64 X.val.time, .int .i64 X.val.node, .bool X.val.dead, .string ⟨X.val.text.toArray⟩, xp, xm, .int .u64 (X.val.flags.toNat : Int)]), step_loadA 30 (.tmp 9) (bs) (os + q * 9) [.string ⟨X.key.toArray⟩, .int .i64 X.val.kind, .int .i64 X.val.time, .int .i64 X.val.node, .bool X.val.dead, .string ⟨X.val.text.toArray⟩, xp, xm, .int .u64 (X.val.flags.toNat : Int)] (by kernel_rfl) (wanted_none (by kernel_rfl)) (knows_new (V := isVal (.pointer (some ⟨bs, os + q * 9, none⟩))) 9 3 (by kernel_rfl) (by kernel_rfl) (by kernel_rfl)) size_en agg_en (⟨hbs, hxc⟩), ?_⟩
  refine ⟨isVal (.agg #[.string ⟨Y.key.toArray⟩, .int .i64 Y.val.kind, .int .i64 Y.val.time, .int .i64 Y.val.node, .bool Y.val.dead, .string ⟨Y.val.text.toArray⟩, yp, ym, .int .u64 (Y.val.flags.toNat : Int)]), step_loadA 30 (.tmp 4) (h) (0) [.string ⟨Y.key.toArray⟩, .int .i64 Y.val.kind, .int .i64 Y.val.time, .int .i64 Y.val.node, .bool Y.val.dead, .string ⟨Y.val.text.toArray⟩, yp, ym, .int .u64 (Y.val.flags.toNat : Int)] (by kernel_rfl) (wanted_none (by kernel_rfl)) (knows_old 4 (.pointer (some ⟨h, 0, none⟩)) (by kernel_rfl) e4) size_en agg_en (⟨hh, by simpa using hyc⟩), ?_⟩
  refine ⟨isVal (.int .i64 z), step_call 122 #[.tmp 10, .tmp 11] #[30, 30] #[.agg #[.string ⟨X.key.toArray⟩, .int .i64 X.val.kind, .int .i64 X.val.time, .int .i64 X.val.node, .bool X.val.dead, .string ⟨X.val.text.toArray⟩, xp, xm, .int .u64 (X.val.flags.toNat : Int)], .agg #[.string ⟨Y.key.toArray⟩, .int .i64 Y.val.kind, .int .i64 Y.val.time, .int .i64 Y.val.node, .bool Y.val.dead, .string ⟨Y.val.text.toArray⟩, yp, ym, .int .u64 (Y.val.flags.toNat : Int)]] (by kernel_rfl) (wanted_none (by kernel_rfl)) (stable_val _) (args2 (.tmp 10) (.tmp 11) (.agg #[.string ⟨X.key.toArray⟩, .int .i64 X.val.kind, .int .i64 X.val.time, .int .i64 X.val.node, .bool X.val.dead, .string ⟨X.val.text.toArray⟩, xp, xm, .int .u64 (X.val.flags.toNat : Int)]) (.agg #[.string ⟨Y.key.toArray⟩, .int .i64 Y.val.kind, .int .i64 Y.val.time, .int .i64 Y.val.node, .bool Y.val.dead, .string ⟨Y.val.text.toArray⟩, yp, ym, .int .u64 (Y.val.flags.toNat : Int)]) (knows_new (V := isVal (.agg #[.string ⟨X.key.toArray⟩, .int .i64 X.val.kind, .int .i64 X.val.time, .int .i64 X.val.node, .bool X.val.dead, .string ⟨X.val.text.toArray⟩, xp, xm, .int .u64 (X.val.flags.toNat : Int)])) 10 4 (by kernel_rfl) (by kernel_rfl) (by kernel_rfl)) (knows_new (V := isVal (.agg #[.string ⟨Y.key.toArray⟩, .int .i64 Y.val.kind, .int .i64 Y.val.time, .int .i64 Y.val.node, .bool Y.val.dead, .string ⟨Y.val.text.toArray⟩, yp, ym, .int .u64 (Y.val.flags.toNat : Int)])) 11 5 (by kernel_rfl) (by kernel_rfl) (by kernel_rfl))) (enters_of Tryz.func122 (by kernel_rfl) rfl) (by intro w' hb; exact order_val X Y z _ _ w' (en_mk hxp hxm hb) (en_mk hyp hym hb) hz), ?_⟩
  refine ⟨isVal (.int .i64 z), step_assign (.tmp 12) (by kernel_rfl) (wanted_none (by kernel_rfl)) (stable_val _) (knows_new (V := isVal (.int .i64 z)) 12 6 (by kernel_rfl) (by kernel_rfl) (by kernel_rfl)), ?_⟩
  intro a w hkp hb hd
  rw [kept_of hkp [some 6, some 7, some 8, some 9, some 10, some 11, some 12, some 5] [6, 7, 8, 9, 10, 11, 12, 5] (by kernel_rfl) (by decide)]
  have d5 := fdone_of (hd 7 (by rw [show cmpOps.size = 8 by kernel_rfl]; decide)) (t := 5) (V := isVal (.int .i64 z)) (by kernel_rfl) (by kernel_rfl)
  exact hQ (fun s => a.tmps.getD s undef) w d5 hb
set_option maxRecDepth 100000 in
set_option maxHeartbeats 2000000 in
theorem cmp_any (A : Ar) (g q : Nat) (X Y : En) (v : Value) (w : World) (HX : A.slots[q]? = some X) (HV : VarA w g A) (hv : isEn Y v w) : Calls Tryz.prog 121 #[.int .i64 (q : Int), v, .pointer (some ⟨g, 0, none⟩)] w fun e w' => e = .returned (.int .i64 (ordI X Y)) ∧ Below w.heap.size w w' := by
  obtain ⟨yp, ym, rfl, hyp, hym⟩ := hv
  obtain ⟨vs, vi, _, hs, _, _, hc1, _⟩ := HV.open_
  obtain ⟨bs, os, cs, rfl, hbs, xp, xm, hxc, hxp, hxm⟩ := hs.get HX
  have hq := (List.getElem?_eq_some_iff.1 HX).1
  have hb := lit_below w (.cells #[.string ⟨Y.key.toArray⟩, .int .i64 Y.val.kind, .int .i64 Y.val.time, .int .i64 Y.val.node, .bool Y.val.dead, .string ⟨Y.val.text.toArray⟩, yp, ym, .int .u64 (Y.val.flags.toNat : Int)] 30)
  have HB := Blk.new w 30 [.string ⟨Y.key.toArray⟩, .int .i64 Y.val.kind, .int .i64 Y.val.time, .int .i64 Y.val.node, .bool Y.val.dead, .string ⟨Y.val.text.toArray⟩, yp, ym, .int .u64 (Y.val.flags.toNat : Int)] w.heap.size rfl
  have hg := HV.lt
  have K := Kept.mk (And.intro ((hb.cell (p := ⟨g, 1, none⟩) hg).trans hc1) (And.intro (fun j x hx => (hb.cell (p := ⟨bs, os + q * 9 + j, none⟩) hbs).trans (hxc j x hx) : ∀ (j : Nat) (x : Value), [.string ⟨X.key.toArray⟩, .int .i64 X.val.kind, .int .i64 X.val.time, .int .i64 X.val.node, .bool X.val.dead, .string ⟨X.val.text.toArray⟩, xp, xm, .int .u64 (X.val.flags.toNat : Int)][j]? = some x → _) (And.intro (stable_cells _ _ _ _ hxp hb) (And.intro (stable_cells _ _ _ _ hxm hb) (And.intro (stable_cells _ _ _ _ hyp hb) (stable_cells _ _ _ _ hym hb))))))
  have hb' := Kept.mk hb
  have HB' := Kept.mk HB
  clear hs hc1 hxc hxp hxm hyp hym hb HB HV HX
  have hs2 : w.heap.size ≤ (w.alloc (.cells #[.string ⟨Y.key.toArray⟩, .int .i64 Y.val.kind, .int .i64 Y.val.time, .int .i64 Y.val.node, .bool Y.val.dead, .string ⟨Y.val.text.toArray⟩, yp, ym, .int .u64 (Y.val.flags.toNat : Int)] 30)).heap.size := hb'.out.size
  generalize hz : ordI X Y = z
  have HZ := Kept.mk hz
  clear hz
  generalize A.slots.length = n at *
  go_enter Tryz.func121, Tryz.ntmps121
  go_wp2_with fail
  generalize (w.alloc (.cells #[.string ⟨Y.key.toArray⟩, .int .i64 Y.val.kind, .int .i64 Y.val.time, .int .i64 Y.val.node, .bool Y.val.dead, .string ⟨Y.val.text.toArray⟩, yp, ym, .int .u64 (Y.val.flags.toNat : Int)] 30)) = W0 at *
  refine cmp_region _ _ _ rfl g w.heap.size bs os cs n q z X Y xp xm yp ym rfl rfl rfl K.out.1 (by omega) hq (by omega) HB'.out.lt K.out.2.1 HB'.out.cells.2 K.out.2.2.1 K.out.2.2.2.1 K.out.2.2.2.2.1 K.out.2.2.2.2.2 HZ.out ?_
  intro f9 W9 d5 hb9
  simp only [List.foldl_cons, List.foldl_nil, d5]
  generalize f9 6 = y6
  generalize f9 7 = y7
  generalize f9 8 = y8
  generalize f9 9 = y9
  generalize f9 10 = y10
  generalize f9 11 = y11
  generalize f9 12 = y12
  clear d5
  simp only [List.setIfInBounds_toArray, List.set_cons_succ, List.set_cons_zero]
  have B2 := Kept.mk (hb'.out.trans (hb9.mono hb'.out.size))
  go_wp2
  go_ret
  exact ⟨rfl, B2.out⟩
theorem cmp_val (A : Ar) (g q : Nat) (X Y : En) (z : Int) (v : Value) (w : World) (HX : A.slots[q]? = some X) (HV : VarA w g A) (hv : isEn Y v w) (hz : ordI X Y = z) : Calls Tryz.prog 121 (#[.int .i64 (q : Int), v] ++ #[.pointer (some ⟨g, 0, none⟩)]) w fun e w' => ∃ x, e = .returned x ∧ isVal (.int .i64 z) x w' ∧ Below w.heap.size w w' :=
  (cmp_any A g q X Y v w HX HV hv).mono (by rintro e w' ⟨rfl, h⟩; exact ⟨_, rfl, by rw [hz]; rfl, h⟩)
noncomputable def bs5Ops : Array Oper := regionOf Tryz.f120 5
set_option maxRecDepth 100000 in
set_option maxHeartbeats 2000000 in
theorem bs5_region (Q : Exit → Act → World → Prop) (a0 : Act) (w0 : World) (hsz : a0.tmps.size = 49) (A : Ar) (g h bi oi ci n m q : Nat) (z : Int) (X Y : En) (yp ym : Value) (e0 : a0.tmps.getD 0 undef = (.slice (some ⟨bi, oi, none⟩) n ci)) (e2 : a0.tmps.getD 2 undef = (.func (.func 121) #[] #[.pointer (some ⟨g, 0, none⟩)])) (e4 : a0.tmps.getD 4 undef = .pointer (some ⟨h, 0, none⟩)) (e11 : a0.tmps.getD 11 undef = .int .i64 (m : Int)) (hm : m < n) (hci : w0.cell? ⟨bi, oi + m, none⟩ = some (.int .i64 (q : Int))) (hbi : bi < w0.heap.size) (hh : h < w0.heap.size) (hyc : ∀ (j : Nat) (x : Value), [.string ⟨Y.key.toArray⟩, .int .i64 Y.val.kind, .int .i64 Y.val.time, .int .i64 Y.val.node, .bool Y.val.dead, .string ⟨Y.val.text.toArray⟩, yp, ym, .int .u64 (Y.val.flags.toNat : Int)][j]? = some x → w0.cell? ⟨h, j, none⟩ = some x) (hyp : isCells (Y.val.plus.map intC) yp w0) (hym : isCells (Y.val.minus.map intC) ym w0) (HX : A.slots[q]? = some X) (HV : VarA w0 g A) (hz : ordI X Y = z)
    (hQ : ∀ (g : Nat → Value) (w : World), g 31 = .bool (decide (z < 0)) → Below w0.heap.size w0 w → Q .normal { tmps := [24, 25, 26, 27, 28, 29, 30, 31].foldl (fun t s => t.setIfInBounds s (g s)) a0.tmps, defers := a0.defers } w) :
    (Code.region 5 bs5Ops true).wp Tryz.prog Q a0 w0 := by
  refine wp_region_flow mixed (by rw [hsz]; kernel_rfl) ?_
  rw [show bs5Ops.size = 8 by kernel_rfl]
  refine ⟨isVal (.func (.func 121) #[] #[.pointer (some ⟨g, 0, none⟩)]), step_move (.tmp 2) (by kernel_rfl) (wanted_none (by kernel_rfl)) (stable_val _) (knows_old 2 (.func (.func 121) #[] #[.pointer (some ⟨g, 0, none⟩)]) (by kernel_rfl) e2), ?_⟩
  refine ⟨isVal (.slice (some ⟨bi, oi, none⟩) n ci), step_move (.tmp 0) (by kernel_rfl) (wanted_none (by kernel_rfl)) (stable_val _) (knows_old 0 (.slice (some ⟨bi, oi, none⟩) n ci) (by kernel_rfl) e0), ?_⟩
  refine ⟨isVal (.int .i64 (m : Int)), step_move (.tmp 11) (by kernel_rfl) (wanted_none (by kernel_rfl)) (stable_val _) (knows_old 11 (.int .i64 (m : Int)) (by kernel_rfl) e11), ?_⟩
  refine ⟨isVal (.pointer (some ⟨bi, oi + m, none⟩)), step_place 23 3 (.tmp 25) (.tmp 26) bi (oi) (n) (ci) (m) (by kernel_rfl) (wanted_none (by kernel_rfl)) (knows_new (V := isVal (.slice (some ⟨bi, oi, none⟩) n ci)) 25 1 (by kernel_rfl) (by kernel_rfl) (by kernel_rfl)) (knows_new (V := isVal (.int .i64 (m : Int))) 26 2 (by kernel_rfl) (by kernel_rfl) (by kernel_rfl)) Tryz.underlying23 (by kernel_rfl) (hm), ?_⟩
  refine ⟨isVal (.int .i64 (q : Int)), step_read 3 (.tmp 27) ⟨bi, oi + m, none⟩ (.int .i64 (q : Int)) (by kernel_rfl) (wanted_none (by kernel_rfl)) (knows_new (V := isVal (.pointer (some ⟨bi, oi + m, none⟩))) 27 3 (by kernel_rfl) (by kernel_rfl) (by kernel_rfl)) (hci) (hbi) (agg_noZ), ?_⟩
  refine ⟨isVal (.agg #[.string ⟨Y.key.toArray⟩, .int .i64 Y.val.kind, .int .i64 Y.val.time, .int .i64 Y.val.node, .bool Y.val.dead, .string ⟨Y.val.text.toArray⟩, yp, ym, .int .u64 (Y.val.flags.toNat : Int)]), step_loadA 30 (.tmp 4) (h) (0) [.string ⟨Y.key.toArray⟩, .int .i64 Y.val.kind, .int .i64 Y.val.time, .int .i64 Y.val.node, .bool Y.val.dead, .string ⟨Y.val.text.toArray⟩, yp, ym, .int .u64 (Y.val.flags.toNat : Int)] (by kernel_rfl) (wanted_none (by kernel_rfl)) (knows_old 4 (.pointer (some ⟨h, 0, none⟩)) (by kernel_rfl) e4) size_en agg_en (⟨hh, by simpa using hyc⟩), ?_⟩
  refine ⟨isVal (.int .i64 z), step_callV (.tmp 24) 121 #[.pointer (some ⟨g, 0, none⟩)] #[.tmp 28, .tmp 29] #[3, 30] #[(.int .i64 (q : Int)), (.agg #[.string ⟨Y.key.toArray⟩, .int .i64 Y.val.kind, .int .i64 Y.val.time, .int .i64 Y.val.node, .bool Y.val.dead, .string ⟨Y.val.text.toArray⟩, yp, ym, .int .u64 (Y.val.flags.toNat : Int)])] (by kernel_rfl) (wanted_none (by kernel_rfl)) (stable_val _) (knows_new (V := isVal (.func (.func 121) #[] #[.pointer (some ⟨g, 0, none⟩)])) 24 0 (by kernel_rfl) (by kernel_rfl) (by kernel_rfl)) (args2 (.tmp 28) (.tmp 29) (.int .i64 (q : Int)) (.agg #[.string ⟨Y.key.toArray⟩, .int .i64 Y.val.kind, .int .i64 Y.val.time, .int .i64 Y.val.node, .bool Y.val.dead, .string ⟨Y.val.text.toArray⟩, yp, ym, .int .u64 (Y.val.flags.toNat : Int)]) (knows_new (V := isVal (.int .i64 (q : Int))) 28 4 (by kernel_rfl) (by kernel_rfl) (by kernel_rfl)) (knows_new (V := isVal (.agg #[.string ⟨Y.key.toArray⟩, .int .i64 Y.val.kind, .int .i64 Y.val.time, .int .i64 Y.val.node, .bool Y.val.dead, .string ⟨Y.val.text.toArray⟩, yp, ym, .int .u64 (Y.val.flags.toNat : Int)])) 29 5 (by kernel_rfl) (by kernel_rfl) (by kernel_rfl))) (enters_of Tryz.func121 (by kernel_rfl) rfl) (by intro w' hb; exact cmp_val A (g) q X Y z _ w' HX (HV.keep hb) (en_mk hyp hym hb) hz), ?_⟩
  refine ⟨isVal (.bool (decide (z < 0))), step_bin .lss 3 3 (.tmp 30) (.const (.int .i64 0)) (.int .i64 z) (.int .i64 0) (.bool (decide (z < 0))) (by kernel_rfl) (wanted_none (by kernel_rfl)) (knows_new (V := isVal (.int .i64 z)) 30 6 (by kernel_rfl) (by kernel_rfl) (by kernel_rfl)) (knows_const _) (fun _ => rfl) (lss_int _ _ _ _ _ rfl), ?_⟩
  intro a w hkp hb hd
  rw [kept_of hkp [some 24, some 25, some 26, some 27, some 28, some 29, some 30, some 31] [24, 25, 26, 27, 28, 29, 30, 31] (by kernel_rfl) (by decide)]
  have d31 := fdone_of (hd 7 (by rw [show bs5Ops.size = 8 by kernel_rfl]; decide)) (t := 31) (V := isVal (.bool (decide (z < 0)))) (by kernel_rfl) (by kernel_rfl)
  exact hQ (fun s => a.tmps.getD s undef) w d31 hb
noncomputable def bs8Ops : Array Oper := regionOf Tryz.f120 8
set_option maxRecDepth 100000 in
set_option maxHeartbeats 2000000 in
theorem bs8_region (Q : Exit → Act → World → Prop) (a0 : Act) (w0 : World) (hsz : a0.tmps.size = 49) (A : Ar) (g h bi oi ci n m q : Nat) (z : Int) (X Y : En) (yp ym : Value) (e0 : a0.tmps.getD 0 undef = (.slice (some ⟨bi, oi, none⟩) n ci)) (e2 : a0.tmps.getD 2 undef = (.func (.func 121) #[] #[.pointer (some ⟨g, 0, none⟩)])) (e4 : a0.tmps.getD 4 undef = .pointer (some ⟨h, 0, none⟩)) (e9 : a0.tmps.getD 9 undef = .int .i64 (m : Int)) (e8 : a0.tmps.getD 8 undef = .int .i64 (n : Int)) (hm : m < n) (hci : w0.cell? ⟨bi, oi + m, none⟩ = some (.int .i64 (q : Int))) (hbi : bi < w0.heap.size) (hh : h < w0.heap.size) (hyc : ∀ (j : Nat) (x : Value), [.string ⟨Y.key.toArray⟩, .int .i64 Y.val.kind, .int .i64 Y.val.time, .int .i64 Y.val.node, .bool Y.val.dead, .string ⟨Y.val.text.toArray⟩, yp, ym, .int .u64 (Y.val.flags.toNat : Int)][j]? = some x → w0.cell? ⟨h, j, none⟩ = some x) (hyp : isCells (Y.val.plus.map intC) yp w0) (hym : isCells (Y.val.minus.map intC) ym w0) (HX : A.slots[q]? = some X) (HV : VarA w0 g A) (hz : ordI X Y = z)
    (hQ : ∀ (g : Nat → Value) (w : World), g 6 = .int .i64 (m : Int) → g 7 = .bool (z == 0) → Below w0.heap.size w0 w → Q .normal { tmps := [35, 36, 37, 38, 39, 40, 41, 42, 43, 44, 45, 46, 47, 48, 6, 7].foldl (fun t s => t.setIfInBounds s (g s)) a0.tmps, defers := a0.defers } w) :
    (Code.region 8 bs8Ops true).wp Tryz.prog Q a0 w0 := by
  refine wp_region_flow mixed (by rw [hsz]; kernel_rfl) ?_
  rw [show bs8Ops.size = 16 by kernel_rfl]
  refine ⟨isVal (.int .i64 (m : Int)), step_move (.tmp 9) (by kernel_rfl) (wanted_none (by kernel_rfl)) (stable_val _) (knows_old 9 (.int .i64 (m : Int)) (by kernel_rfl) e9), ?_⟩
  refine ⟨isVal (.int .i64 (m : Int)), step_move (.tmp 9) (by kernel_rfl) (wanted_none (by kernel_rfl)) (stable_val _) (knows_old 9 (.int .i64 (m : Int)) (by kernel_rfl) e9), ?_⟩
  refine ⟨isVal (.int .i64 (n : Int)), step_move (.tmp 8) (by kernel_rfl) (wanted_none (by kernel_rfl)) (stable_val _) (knows_old 8 (.int .i64 (n : Int)) (by kernel_rfl) e8), ?_⟩
  refine ⟨isVal (.bool true), step_bin .lss 3 3 (.tmp 36) (.tmp 37) (.int .i64 (m : Int)) (.int .i64 (n : Int)) (.bool true) (by kernel_rfl) (wanted_none (by kernel_rfl)) (knows_new (V := isVal (.int .i64 (m : Int))) 36 1 (by kernel_rfl) (by kernel_rfl) (by kernel_rfl)) (knows_new (V := isVal (.int .i64 (n : Int))) 37 2 (by kernel_rfl) (by kernel_rfl) (by kernel_rfl)) (fun _ => rfl) (lss_int _ _ _ _ _ (by simp; omega)), ?_⟩
  refine ⟨isVal (.bool true), step_move (.tmp 38) (by kernel_rfl) (wanted_none (by kernel_rfl)) (stable_val _) (knows_new (V := isVal (.bool true)) 38 3 (by kernel_rfl) (by kernel_rfl) (by kernel_rfl)), ?_⟩
  refine ⟨isVal (.func (.func 121) #[] #[.pointer (some ⟨g, 0, none⟩)]), step_move (.tmp 2) (by kernel_rfl) (wanted_some 4 39 true (by kernel_rfl) (by kernel_rfl) (by kernel_rfl) (by kernel_rfl)) (stable_val _) (knows_old 2 (.func (.func 121) #[] #[.pointer (some ⟨g, 0, none⟩)]) (by kernel_rfl) e2), ?_⟩
  refine ⟨isVal (.slice (some ⟨bi, oi, none⟩) n ci), step_move (.tmp 0) (by kernel_rfl) (wanted_some 4 39 true (by kernel_rfl) (by kernel_rfl) (by kernel_rfl) (by kernel_rfl)) (stable_val _) (knows_old 0 (.slice (some ⟨bi, oi, none⟩) n ci) (by kernel_rfl) e0), ?_⟩
  refine ⟨isVal (.int .i64 (m : Int)), step_move (.tmp 9) (by kernel_rfl) (wanted_some 4 39 true (by kernel_rfl) (by kernel_rfl) (by kernel_rfl) (by kernel_rfl)) (stable_val _) (knows_old 9 (.int .i64 (m : Int)) (by kernel_rfl) e9), ?_⟩
  refine ⟨isVal (.pointer (some ⟨bi, oi + m, none⟩)), step_place 23 3 (.tmp 41) (.tmp 42) bi (oi) (n) (ci) (m) (by kernel_rfl) (wanted_some 4 39 true (by kernel_rfl) (by kernel_rfl) (by kernel_rfl) (by kernel_rfl)) (knows_new (V := isVal (.slice (some ⟨bi, oi, none⟩) n ci)) 41 6 (by kernel_rfl) (by kernel_rfl) (by kernel_rfl)) (knows_new (V := isVal (.int .i64 (m : Int))) 42 7 (by kernel_rfl) (by kernel_rfl) (by kernel_rfl)) Tryz.underlying23 (by kernel_rfl) (hm), ?_⟩
  refine ⟨isVal (.int .i64 (q : Int)), step_read 3 (.tmp 43) ⟨bi, oi + m, none⟩ (.int .i64 (q : Int)) (by kernel_rfl) (wanted_some 4 39 true (by kernel_rfl) (by kernel_rfl) (by kernel_rfl) (by kernel_rfl)) (knows_new (V := isVal (.pointer (some ⟨bi, oi + m, none⟩))) 43 8 (by kernel_rfl) (by kernel_rfl) (by kernel_rfl)) (hci) (hbi) (agg_noZ), ?_⟩
  refine ⟨isVal (.agg #[.string ⟨Y.key.toArray⟩, .int .i64 Y.val.kind, .int .i64 Y.val.time, .int .i64 Y.val.node, .bool Y.val.dead, .string ⟨Y.val.text.toArray⟩, yp, ym, .int .u64 (Y.val.flags.toNat : Int)]), step_loadA 30 (.tmp 4) (h) (0) [.string ⟨Y.key.toArray⟩, .int .i64 Y.val.kind, .int .i64 Y.val.time, .int .i64 Y.val.node, .bool Y.val.dead, .string ⟨Y.val.text.toArray⟩, yp, ym, .int .u64 (Y.val.flags.toNat : Int)] (by kernel_rfl) (wanted_some 4 39 true (by kernel_rfl) (by kernel_rfl) (by kernel_rfl) (by kernel_rfl)) (knows_old 4 (.pointer (some ⟨h, 0, none⟩)) (by kernel_rfl) e4) size_en agg_en (⟨hh, by simpa using hyc⟩), ?_⟩
  refine ⟨isVal (.int .i64 z), step_callV (.tmp 40) 121 #[.pointer (some ⟨g, 0, none⟩)] #[.tmp 44, .tmp 45] #[3, 30] #[(.int .i64 (q : Int)), (.agg #[.string ⟨Y.key.toArray⟩, .int .i64 Y.val.kind, .int .i64 Y.val.time, .int .i64 Y.val.node, .bool Y.val.dead, .string ⟨Y.val.text.toArray⟩, yp, ym, .int .u64 (Y.val.flags.toNat : Int)])] (by kernel_rfl) (wanted_some 4 39 true (by kernel_rfl) (by kernel_rfl) (by kernel_rfl) (by kernel_rfl)) (stable_val _) (knows_new (V := isVal (.func (.func 121) #[] #[.pointer (some ⟨g, 0, none⟩)])) 40 5 (by kernel_rfl) (by kernel_rfl) (by kernel_rfl)) (args2 (.tmp 44) (.tmp 45) (.int .i64 (q : Int)) (.agg #[.string ⟨Y.key.toArray⟩, .int .i64 Y.val.kind, .int .i64 Y.val.time, .int .i64 Y.val.node, .bool Y.val.dead, .string ⟨Y.val.text.toArray⟩, yp, ym, .int .u64 (Y.val.flags.toNat : Int)]) (knows_new (V := isVal (.int .i64 (q : Int))) 44 9 (by kernel_rfl) (by kernel_rfl) (by kernel_rfl)) (knows_new (V := isVal (.agg #[.string ⟨Y.key.toArray⟩, .int .i64 Y.val.kind, .int .i64 Y.val.time, .int .i64 Y.val.node, .bool Y.val.dead, .string ⟨Y.val.text.toArray⟩, yp, ym, .int .u64 (Y.val.flags.toNat : Int)])) 45 10 (by kernel_rfl) (by kernel_rfl) (by kernel_rfl))) (enters_of Tryz.func121 (by kernel_rfl) rfl) (by intro w' hb; exact cmp_val A (g) q X Y z _ w' HX (HV.keep hb) (en_mk hyp hym hb) hz), ?_⟩
  refine ⟨isVal (.bool (z == 0)), step_bin .eql 3 3 (.tmp 46) (.const (.int .i64 0)) (.int .i64 z) (.int .i64 0) (.bool (z == 0)) (by kernel_rfl) (wanted_some 4 39 true (by kernel_rfl) (by kernel_rfl) (by kernel_rfl) (by kernel_rfl)) (knows_new (V := isVal (.int .i64 z)) 46 11 (by kernel_rfl) (by kernel_rfl) (by kernel_rfl)) (knows_const _) (fun _ => rfl) (eql_int _ _ _ _ _ rfl), ?_⟩
  refine ⟨isVal (.bool (z == 0)), step_pick (.tmp 39) (.tmp 47) (.const (.bool false)) true (by kernel_rfl) (wanted_none (by kernel_rfl)) (stable_val _) (knows_new (V := isVal (.bool true)) 39 4 (by kernel_rfl) (by kernel_rfl) (by kernel_rfl)) (knows_new (V := isVal (.bool (z == 0))) 47 12 (by kernel_rfl) (by kernel_rfl) (by kernel_rfl)), ?_⟩
  refine ⟨isVal (.int .i64 (m : Int)), step_assign (.tmp 35) (by kernel_rfl) (wanted_none (by kernel_rfl)) (stable_val _) (knows_new (V := isVal (.int .i64 (m : Int))) 35 0 (by kernel_rfl) (by kernel_rfl) (by kernel_rfl)), ?_⟩
  refine ⟨isVal (.bool (z == 0)), step_assign (.tmp 48) (by kernel_rfl) (wanted_none (by kernel_rfl)) (stable_val _) (knows_new (V := isVal (.bool (z == 0))) 48 13 (by kernel_rfl) (by kernel_rfl) (by kernel_rfl)), ?_⟩
  intro a w hkp hb hd
  rw [kept_of hkp [some 35, some 36, some 37, some 38, some 39, some 40, some 41, some 42, some 43, some 44, some 45, some 46, some 47, some 48, some 6, some 7] [35, 36, 37, 38, 39, 40, 41, 42, 43, 44, 45, 46, 47, 48, 6, 7] (by kernel_rfl) (by decide)]
  have d6 := fdone_of (hd 14 (by rw [show bs8Ops.size = 16 by kernel_rfl]; decide)) (t := 6) (V := isVal (.int .i64 (m : Int))) (by kernel_rfl) (by kernel_rfl)
  have d7 := fdone_of (hd 15 (by rw [show bs8Ops.size = 16 by kernel_rfl]; decide)) (t := 7) (V := isVal (.bool (z == 0))) (by kernel_rfl) (by kernel_rfl)
  exact hQ (fun s => a.tmps.getD s undef) w d6 d7 hb
noncomputable def bs9Ops : Array Oper := regionOf Tryz.f120 8
set_option maxRecDepth 100000 in
set_option maxHeartbeats 2000000 in
theorem bs9_region (Q : Exit → Act → World → Prop) (a0 : Act) (w0 : World) (hsz : a0.tmps.size = 49) (n m : Nat) (e9 : a0.tmps.getD 9 undef = .int .i64 (m : Int)) (e8 : a0.tmps.getD 8 undef = .int .i64 (n : Int)) (hm : n ≤ m)
    (hQ : ∀ (g : Nat → Value) (w : World), g 6 = .int .i64 (m : Int) → g 7 = .bool false → Below w0.heap.size w0 w → Q .normal { tmps := [35, 36, 37, 38, 39, 40, 41, 42, 43, 44, 45, 46, 47, 48, 6, 7].foldl (fun t s => t.setIfInBounds s (g s)) a0.tmps, defers := a0.defers } w) :
    (Code.region 8 bs9Ops true).wp Tryz.prog Q a0 w0 := by
  refine wp_region_flow mixed (by rw [hsz]; kernel_rfl) ?_
  rw [show bs9Ops.size = 16 by kernel_rfl]
  refine ⟨isVal (.int .i64 (m : Int)), step_move (.tmp 9) (by kernel_rfl) (wanted_none (by kernel_rfl)) (stable_val _) (knows_old 9 (.int .i64 (m : Int)) (by kernel_rfl) e9), ?_⟩
  refine ⟨isVal (.int .i64 (m : Int)), step_move (.tmp 9) (by kernel_rfl) (wanted_none (by kernel_rfl)) (stable_val _) (knows_old 9 (.int .i64 (m : Int)) (by kernel_rfl) e9), ?_⟩
  refine ⟨isVal (.int .i64 (n : Int)), step_move (.tmp 8) (by kernel_rfl) (wanted_none (by kernel_rfl)) (stable_val _) (knows_old 8 (.int .i64 (n : Int)) (by kernel_rfl) e8), ?_⟩
  refine ⟨isVal (.bool false), step_bin .lss 3 3 (.tmp 36) (.tmp 37) (.int .i64 (m : Int)) (.int .i64 (n : Int)) (.bool false) (by kernel_rfl) (wanted_none (by kernel_rfl)) (knows_new (V := isVal (.int .i64 (m : Int))) 36 1 (by kernel_rfl) (by kernel_rfl) (by kernel_rfl)) (knows_new (V := isVal (.int .i64 (n : Int))) 37 2 (by kernel_rfl) (by kernel_rfl) (by kernel_rfl)) (fun _ => rfl) (lss_int _ _ _ _ _ (by simp; omega)), ?_⟩
  refine ⟨isVal (.bool false), step_move (.tmp 38) (by kernel_rfl) (wanted_none (by kernel_rfl)) (stable_val _) (knows_new (V := isVal (.bool false)) 38 3 (by kernel_rfl) (by kernel_rfl) (by kernel_rfl)), ?_⟩
  refine ⟨_, step_skip 4 39 true false (by kernel_rfl) (by kernel_rfl) (by kernel_rfl) (by kernel_rfl) rfl, ?_⟩
  refine ⟨_, step_skip 4 39 true false (by kernel_rfl) (by kernel_rfl) (by kernel_rfl) (by kernel_rfl) rfl, ?_⟩
  refine ⟨_, step_skip 4 39 true false (by kernel_rfl) (by kernel_rfl) (by kernel_rfl) (by kernel_rfl) rfl, ?_⟩
  refine ⟨_, step_skip 4 39 true false (by kernel_rfl) (by kernel_rfl) (by kernel_rfl) (by kernel_rfl) rfl, ?_⟩
  refine ⟨_, step_skip 4 39 true false (by kernel_rfl) (by kernel_rfl) (by kernel_rfl) (by kernel_rfl) rfl, ?_⟩
  refine ⟨_, step_skip 4 39 true false (by kernel_rfl) (by kernel_rfl) (by kernel_rfl) (by kernel_rfl) rfl, ?_⟩
  refine ⟨_, step_skip 4 39 true false (by kernel_rfl) (by kernel_rfl) (by kernel_rfl) (by kernel_rfl) rfl, ?_⟩
  refine ⟨_, step_skip 4 39 true false (by kernel_rfl) (by kernel_rfl) (by kernel_rfl) (by kernel_rfl) rfl, ?_⟩
  refine ⟨isVal (.bool false), step_pick (.tmp 39) (.tmp 47) (.const (.bool false)) false (by kernel_rfl) (wanted_none (by kernel_rfl)) (stable_val _) (knows_new (V := isVal (.bool false)) 39 4 (by kernel_rfl) (by kernel_rfl) (by kernel_rfl)) (knows_const _), ?_⟩
  refine ⟨isVal (.int .i64 (m : Int)), step_assign (.tmp 35) (by kernel_rfl) (wanted_none (by kernel_rfl)) (stable_val _) (knows_new (V := isVal (.int .i64 (m : Int))) 35 0 (by kernel_rfl) (by kernel_rfl) (by kernel_rfl)), ?_⟩
  refine ⟨isVal (.bool false), step_assign (.tmp 48) (by kernel_rfl) (wanted_none (by kernel_rfl)) (stable_val _) (knows_new (V := isVal (.bool false)) 48 13 (by kernel_rfl) (by kernel_rfl) (by kernel_rfl)), ?_⟩
  intro a w hkp hb hd
  rw [kept_of hkp [some 35, some 36, some 37, some 38, some 39, some 40, some 41, some 42, some 43, some 44, some 45, some 46, some 47, some 48, some 6, some 7] [35, 36, 37, 38, 39, 40, 41, 42, 43, 44, 45, 46, 47, 48, 6, 7] (by kernel_rfl) (by decide)]
  have d6 := fdone_of (hd 14 (by rw [show bs9Ops.size = 16 by kernel_rfl]; decide)) (t := 6) (V := isVal (.int .i64 (m : Int))) (by kernel_rfl) (by kernel_rfl)
  have d7 := fdone_of (hd 15 (by rw [show bs9Ops.size = 16 by kernel_rfl]; decide)) (t := 7) (V := isVal (.bool false)) (by kernel_rfl) (by kernel_rfl)
  exact hQ (fun s => a.tmps.getD s undef) w d6 d7 hb
end Go.Proofs.YtbgconagkgfplaaGreat
end
section
namespace Go.Proofs.YtbgconagkgfplaaGreat
open Go.RowKit
set_option linter.unusedVariables false
set_option linter.unusedSimpArgs false
attribute [local irreducible] setN

theorem pos_eq {l : List En} {x : En} (hl : Asc l) {k : Nat} (hk : k ≤ l.length) (h1 : ∀ t y, t < k → l[t]? = some y → lessE y x = true) (h2 : ∀ t y, k ≤ t → l[t]? = some y → lessE y x = false) : posN l x = k := by
  have hp := pos_le l x
  by_cases e : posN l x < k
  · have := h1 _ _ e (List.getElem?_eq_getElem (by omega))
    have := (pos_before hl _ _ (List.getElem?_eq_getElem (by omega))).1 this
    omega
  · by_cases e2 : k < posN l x
    · have h3 := (pos_before (x := x) hl k _ (List.getElem?_eq_getElem (by omega))).2 e2
      rw [h2 k _ (Nat.le_refl _) (List.getElem?_eq_getElem (by omega))] at h3
      cases h3
    · omega
theorem hit_at {l : List En} {x y : En} {k : Nat} (hp : posN l x = k) (hy : l[k]? = some y) : hitB l x = nameB y x := by unfold hitB; rw [hp, hy]
theorem hit_end {l : List En} {x : En} {k : Nat} (hp : posN l x = k) (hy : l.length ≤ k) : hitB l x = false := by unfold hitB; rw [hp, List.getElem?_eq_none hy]
theorem ord_get {A : Ar} {k : Nat} {q : Nat} {X : En} (hi : A.index[k]? = some (q : Int)) (hX : A.slots[q]? = some X) : (ordA A)[k]? = some X := by
  unfold ordA; rw [List.getElem?_map, hi, Option.map_some, slotAt_some hX]
set_option maxRecDepth 100000 in
set_option maxHeartbeats 2000000 in
theorem bsearch_any (A : Ar) (g : Nat) (Y : En) (vi u : Value) (w : World) (hok : OkA A) (HV : VarA w g A) (hi : isCells (A.index.map intC) vi w) (hu : isEn Y u w) : Calls Tryz.prog 120 #[vi, u, .func (.func 121) #[] #[.pointer (some ⟨g, 0, none⟩)]] w fun e w' => e = .returned (.tuple #[.int .i64 (posN (ordA A) Y : Int), .bool (hitB (ordA A) Y)]) ∧ Below w.heap.size w w' := by
  by_cases he : A.index = []
  · obtain ⟨ia, ci, rfl⟩ := hi.len
    have hl : (ordA A).length = 0 := by unfold ordA; rw [he]; rfl
    have hp : posN (ordA A) Y = 0 := by have := pos_le (ordA A) Y; omega
    have hh : hitB (ordA A) Y = false := hit_end hp (by omega)
    rw [hp, hh, List.length_map, he, List.length_nil]
    obtain ⟨yp, ym, rfl, hyp, hym⟩ := hu
    have hb0 := lit_below w (.cells #[.string ⟨Y.key.toArray⟩, .int .i64 Y.val.kind, .int .i64 Y.val.time, .int .i64 Y.val.node, .bool Y.val.dead, .string ⟨Y.val.text.toArray⟩, yp, ym, .int .u64 (Y.val.flags.toNat : Int)] 30)
    have hB := Kept.mk hb0
    have HB := Kept.mk (Blk.new w 30 [.string ⟨Y.key.toArray⟩, .int .i64 Y.val.kind, .int .i64 Y.val.time, .int .i64 Y.val.node, .bool Y.val.dead, .string ⟨Y.val.text.toArray⟩, yp, ym, .int .u64 (Y.val.flags.toNat : Int)] w.heap.size rfl)
    have KY := Kept.mk (And.intro (stable_cells _ _ _ _ hyp hb0) (stable_cells _ _ _ _ hym hb0))
    replace HV := Kept.mk (HV.keep hb0)
    clear hyp hym
    clear hi hp hh hl
    go_enter Tryz.func120, Tryz.ntmps120
    go_wp2_with fail
    generalize (w.alloc (.cells #[.string ⟨Y.key.toArray⟩, .int .i64 Y.val.kind, .int .i64 Y.val.time, .int .i64 Y.val.node, .bool Y.val.dead, .string ⟨Y.val.text.toArray⟩, yp, ym, .int .u64 (Y.val.flags.toNat : Int)] 30)) = W0 at *
    go_loopw [9, 10] (fun s9 s10 wr => s9 = .int .i64 0 ∧ s10 = .int .i64 0 ∧ Kept (Below w.heap.size w wr)) (fun _ _ _ => 0)
    case atStart => exact ⟨rfl, rfl, hB⟩
    case round =>
      obtain ⟨rfl, rfl, B⟩ := hrel
      go_wp2_with fail
      refine bs9_region _ _ _ rfl 0 0 rfl rfl (by omega) ?_
      intro f9 W9 d6 d7 hb9
      simp only [List.foldl_cons, List.foldl_nil, d6, d7]
      generalize f9 35 = y35
      generalize f9 36 = y36
      generalize f9 37 = y37
      generalize f9 38 = y38
      generalize f9 39 = y39
      generalize f9 40 = y40
      generalize f9 41 = y41
      generalize f9 42 = y42
      generalize f9 43 = y43
      generalize f9 44 = y44
      generalize f9 45 = y45
      generalize f9 46 = y46
      generalize f9 47 = y47
      generalize f9 48 = y48
      clear d6 d7
      simp only [List.setIfInBounds_toArray, List.set_cons_succ, List.set_cons_zero]
      have B2 := Kept.mk (B.out.trans (hb9.mono B.out.size))
      go_wp2
      go_ret2
      exact ⟨rfl, B2.out⟩
  · obtain ⟨bi, oi, ci, rfl, hbi, hci⟩ := cells_get hi he
    have HO := Kept.mk hok
    have HI := Kept.mk hci
    have hn : A.index.length ≤ 8 := by have := hok.len; have := hok.fits; have := hok.room; omega
    clear hi hci hok
    generalize hN : A.index.length = n at *
    have HN := Kept.mk hN
    obtain ⟨P, hP⟩ : ∃ P, posN (ordA A) Y = P := ⟨_, rfl⟩
    obtain ⟨Z, hZ⟩ : ∃ Z, hitB (ordA A) Y = Z := ⟨_, rfl⟩
    rw [hP, hZ]
    have HP := Kept.mk (And.intro hP hZ)
    clear hP hZ hN he
    obtain ⟨yp, ym, rfl, hyp, hym⟩ := hu
    have hb0 := lit_below w (.cells #[.string ⟨Y.key.toArray⟩, .int .i64 Y.val.kind, .int .i64 Y.val.time, .int .i64 Y.val.node, .bool Y.val.dead, .string ⟨Y.val.text.toArray⟩, yp, ym, .int .u64 (Y.val.flags.toNat : Int)] 30)
    have hB := Kept.mk hb0
    have HB := Kept.mk (Blk.new w 30 [.string ⟨Y.key.toArray⟩, .int .i64 Y.val.kind, .int .i64 Y.val.time, .int .i64 Y.val.node, .bool Y.val.dead, .string ⟨Y.val.text.toArray⟩, yp, ym, .int .u64 (Y.val.flags.toNat : Int)] w.heap.size rfl)
    have KY := Kept.mk (And.intro (stable_cells _ _ _ _ hyp hb0) (stable_cells _ _ _ _ hym hb0))
    replace HV := Kept.mk (HV.keep hb0)
    clear hyp hym
    have hsz := hB.out.size
    go_enter Tryz.func120, Tryz.ntmps120
    go_wp2_with fail
    generalize (w.alloc (.cells #[.string ⟨Y.key.toArray⟩, .int .i64 Y.val.kind, .int .i64 Y.val.time, .int .i64 Y.val.node, .bool Y.val.dead, .string ⟨Y.val.text.toArray⟩, yp, ym, .int .u64 (Y.val.flags.toNat : Int)] 30)) = W0 at *
    go_loopw [9, 10] (fun s9 s10 wr => ∃ lo hi : Nat, lo ≤ hi ∧ hi ≤ n ∧ s9 = .int .i64 (lo : Int) ∧ s10 = .int .i64 (hi : Int) ∧ Kept (Below W0.heap.size W0 wr) ∧ Kept (∀ t y, t < lo → (ordA A)[t]? = some y → lessE y Y = true) ∧ Kept (∀ t y, hi ≤ t → (ordA A)[t]? = some y → lessE y Y = false)) (fun s9 s10 _ => (intOf s10).toNat - (intOf s9).toNat)
    case atStart => exact ⟨0, n, Nat.zero_le _, Nat.le_refl _, rfl, rfl, ⟨Below.refl _ _⟩, ⟨fun t y h => absurd h (Nat.not_lt_zero _)⟩, ⟨fun t y h1 h2 => by
      have h3 := (List.getElem?_eq_some_iff.1 h2).1
      rw [ord_length HO.out, ← HO.out.len, HN.out] at h3
      omega⟩⟩
    case round =>
      obtain ⟨lo, hi, hlh, hhn, rfl, rfl, B, L1, L2⟩ := hrel
      have HVr := Kept.mk (HV.out.keep B.out)
      have HBr := Kept.mk (HB.out.keep B.out)
      have KYr := Kept.mk (And.intro (stable_cells _ _ _ _ KY.out.1 B.out) (stable_cells _ _ _ _ KY.out.2 B.out))
      have hszr := B.out.size
      by_cases hlt : lo < hi
      · obtain ⟨m, hm⟩ : ∃ m, (lo + hi) / 2 = m := ⟨_, rfl⟩
        have hm' : ((lo : Int) + (hi : Int)) / 2 = (m : Int) := by omega
        have hmn : m < n := by omega
        have hlm : lo ≤ m ∧ m < hi := by omega
        obtain ⟨p, hp⟩ : ∃ p, A.index[m]? = some p := ⟨_, List.getElem?_eq_getElem (by rw [HN.out]; exact hmn)⟩
        have hr := HO.out.rng p (List.mem_of_getElem? hp)
        obtain ⟨q, rfl⟩ : ∃ q : Nat, p = (q : Int) := ⟨p.toNat, by omega⟩
        obtain ⟨X, hX⟩ : ∃ X, A.slots[q]? = some X := ⟨_, List.getElem?_eq_getElem (by omega)⟩
        have hO := ord_get hp hX
        have kq := ((hB.out.trans (B.out.mono hsz)).cell (p := ⟨bi, oi + m, none⟩) hbi).trans (HI.out m _ hp)
        obtain ⟨z, hz⟩ : ∃ z, ordI X Y = z := ⟨_, rfl⟩
        have hd := ordI_neg X Y
        rw [hz] at hd
        have KX := Kept.mk (And.intro hX (And.intro hO (And.intro kq (And.intro hz hd))))
        clear hX hO kq hz hd hr hp hm
        have hlt' : (lo : Int) < (hi : Int) := by omega
        go_wp2_with fail
        refine bs5_region _ _ _ rfl A g w.heap.size bi oi ci n m q z X Y yp ym rfl rfl rfl rfl hmn KX.out.2.2.1 (by omega) HBr.out.lt HBr.out.cells.2 KYr.out.1 KYr.out.2 KX.out.1 HVr.out KX.out.2.2.2.1 ?_
        intro f9 W9 d31 hb9
        simp only [List.foldl_cons, List.foldl_nil, d31]
        generalize f9 24 = y24
        generalize f9 25 = y25
        generalize f9 26 = y26
        generalize f9 27 = y27
        generalize f9 28 = y28
        generalize f9 29 = y29
        generalize f9 30 = y30
        clear d31
        simp only [List.setIfInBounds_toArray, List.set_cons_succ, List.set_cons_zero]
        have B2 := Kept.mk (B.out.trans (hb9.mono B.out.size))
        rw [KX.out.2.2.2.2]
        cases hl : lessE X Y with
        | true =>
          have L1' : Kept (∀ t y, t < m + 1 → (ordA A)[t]? = some y → lessE y Y = true) := ⟨fun t y ht hy => (pos_before HO.out.asc t y hy).2 (by
            have := (pos_before HO.out.asc m X KX.out.2.1).1 hl; omega)⟩
          clear hl
          go_wp2
          go_roundw
          case rel => exact ⟨m + 1, hi, by omega, hhn, by go_num, rfl, B2, L1', L2⟩
          case measure => simp [intOf]; omega
        | false =>
          have L2' : Kept (∀ t y, m ≤ t → (ordA A)[t]? = some y → lessE y Y = false) := ⟨fun t y ht hy => by
            cases h : lessE y Y with
            | false => rfl
            | true =>
              have h1 := (pos_before HO.out.asc t y hy).1 h
              have h2 := (pos_before (x := Y) HO.out.asc m X KX.out.2.1).2 (by omega)
              rw [hl] at h2; cases h2⟩
          clear hl
          go_wp2
          go_roundw
          case rel => exact ⟨lo, m, by omega, by omega, rfl, by go_num, B2, L1, L2'⟩
          case measure => simp [intOf]; omega
      · obtain rfl : hi = lo := by omega
        have hpp := pos_eq HO.out.asc (k := hi) (x := Y) (by rw [ord_length HO.out, ← HO.out.len, HN.out]; exact hhn) L1.out L2.out
        have e1 : P = hi := HP.out.1.symm.trans hpp
        by_cases hin : hi < n
        · obtain ⟨p, hp⟩ : ∃ p, A.index[hi]? = some p := ⟨_, List.getElem?_eq_getElem (by rw [HN.out]; exact hin)⟩
          have hr := HO.out.rng p (List.mem_of_getElem? hp)
          obtain ⟨q, rfl⟩ : ∃ q : Nat, p = (q : Int) := ⟨p.toNat, by omega⟩
          obtain ⟨X, hX⟩ : ∃ X, A.slots[q]? = some X := ⟨_, List.getElem?_eq_getElem (by omega)⟩
          have hO := ord_get hp hX
          have kq := ((hB.out.trans (B.out.mono hsz)).cell (p := ⟨bi, oi + hi, none⟩) hbi).trans (HI.out hi _ hp)
          obtain ⟨z, hz⟩ : ∃ z, ordI X Y = z := ⟨_, rfl⟩
          have e2 : Z = (z == 0) := by
            rw [← hz, ordI_zero X Y (L2.out hi X (Nat.le_refl _) hO), ← HP.out.2]
            exact hit_at hpp hO
          have KX := Kept.mk (And.intro hX (And.intro hO (And.intro kq hz)))
          have KE := Kept.mk (And.intro e1 e2)
          clear hX hO kq hz hr hp e1 e2 hpp
          go_wp2_with fail
          refine bs8_region _ _ _ rfl A g w.heap.size bi oi ci n hi q z X Y yp ym rfl rfl rfl rfl rfl hin KX.out.2.2.1 (by omega) HBr.out.lt HBr.out.cells.2 KYr.out.1 KYr.out.2 KX.out.1 HVr.out KX.out.2.2.2 ?_
          intro f9 W9 d6 d7 hb9
          simp only [List.foldl_cons, List.foldl_nil, d6, d7]
          generalize f9 35 = y35
          generalize f9 36 = y36
          generalize f9 37 = y37
          generalize f9 38 = y38
          generalize f9 39 = y39
          generalize f9 40 = y40
          generalize f9 41 = y41
          generalize f9 42 = y42
          generalize f9 43 = y43
          generalize f9 44 = y44
          generalize f9 45 = y45
          generalize f9 46 = y46
          generalize f9 47 = y47
          generalize f9 48 = y48
          clear d6 d7
          simp only [List.setIfInBounds_toArray, List.set_cons_succ, List.set_cons_zero]
          have B2 := Kept.mk (hB.out.trans ((B.out.trans (hb9.mono B.out.size)).mono hsz))
          generalize (z == 0) = zz at *
          go_wp2
          go_ret2
          exact ⟨by rw [KE.out.1, KE.out.2]; rfl, B2.out⟩
        · have e2 : Z = false := by rw [← HP.out.2]; exact hit_end hpp (by rw [ord_length HO.out, ← HO.out.len, HN.out]; omega)
          have KE := Kept.mk (And.intro e1 e2)
          clear e1 e2 hpp
          go_wp2_with fail
          refine bs9_region _ _ _ rfl n hi rfl rfl (by omega) ?_
          intro f9 W9 d6 d7 hb9
          simp only [List.foldl_cons, List.foldl_nil, d6, d7]
          generalize f9 35 = y35
          generalize f9 36 = y36
          generalize f9 37 = y37
          generalize f9 38 = y38
          generalize f9 39 = y39
          generalize f9 40 = y40
          generalize f9 41 = y41
          generalize f9 42 = y42
          generalize f9 43 = y43
          generalize f9 44 = y44
          generalize f9 45 = y45
          generalize f9 46 = y46
          generalize f9 47 = y47
          generalize f9 48 = y48
          clear d6 d7
          simp only [List.setIfInBounds_toArray, List.set_cons_succ, List.set_cons_zero]
          have B2 := Kept.mk (hB.out.trans ((B.out.trans (hb9.mono B.out.size)).mono hsz))
          go_wp2
          go_ret2
          exact ⟨by rw [KE.out.1, KE.out.2]; rfl, B2.out⟩
set_option maxRecDepth 100000 in
set_option maxHeartbeats 2000000 in
theorem search_any (A : Ar) (Y : En) (v u : Value) (w : World) (hok : OkA A) (hv : isAr A v w) (hu : isEn Y u w) : Calls Tryz.prog 88 #[v, u] w fun e w' => e = .returned (.tuple #[.int .i64 (posN (ordA A) Y : Int), .bool (hitB (ordA A) Y)]) ∧ Below w.heap.size w w' := by
  obtain ⟨vs, vi, rfl, hs, hi⟩ := hv
  obtain ⟨hB, V⟩ := abox w A vs vi hs hi w.heap.size rfl
  obtain ⟨yp, ym, rfl, hyp, hym⟩ := hu
  obtain ⟨hBn, E⟩ := ebox (w.alloc (.cells #[.int .i64 A.cap, vs, vi] 25)) Y yp ym (stable_cells _ _ _ _ hyp hB.out) (stable_cells _ _ _ _ hym hB.out) (w.heap.size + 1) (by simp)
  replace V := Kept.mk (V.out.keep hBn.out)
  replace hB := Kept.mk (hB.out.trans (hBn.out.mono hB.out.size))
  clear hBn hs hi hyp hym
  obtain ⟨_, vi', _, _, hi', ka0, ka1, ka2⟩ := V.out.open_
  have HI := Kept.mk hi'
  obtain ⟨qb, rb, xb, yb, kb0, kb1, kb2, kb3, kb4, kb5, kb6, kb7, kb8⟩ := E.out.open_
  have XB := Kept.mk xb
  clear hi' xb yb
  have hcb := bsearch_any A w.heap.size Y _ _ _ hok V.out HI.out XB.out
  generalize posN (ordA A) Y = P at *
  generalize hitB (ordA A) Y = Z at *
  have HC := Kept.mk hcb
  clear hcb
  go_enter Tryz.func88, Tryz.ntmps88
  go_wp2_with fail
  refine HC.out.mono ?_
  rintro e W1 ⟨rfl, hb⟩
  replace hB := Kept.mk (hB.out.trans (hb.mono hB.out.size))
  clear hb ka0 ka1 ka2 kb0 kb1 kb2 kb3 kb4 kb5 kb6 kb7 kb8 XB HI V E HC
  go_wp2
  go_ret2
  exact ⟨rfl, hB.out⟩
def nameL (kind : Int) (key : List UInt8) : Value := .agg #[.string ⟨key.toArray⟩, .int .i64 kind, .int .i64 0, .int .i64 0, .bool false, .string ⟨#[]⟩, .slice none 0 0, .slice none 0 0, .int .u64 0]
theorem name_en (kind : Int) (key : List UInt8) (w : World) : isEn (nameE kind key) (.agg #[.string ⟨key.toArray⟩, .int .i64 kind, .int .i64 0, .int .i64 0, .bool false, .string ⟨#[]⟩, .slice none 0 0, .slice none 0 0, .int .u64 0]) w := ⟨.slice none 0 0, .slice none 0 0, rfl, .inl ⟨rfl, rfl⟩, .inl ⟨rfl, rfl⟩⟩
set_option maxRecDepth 100000 in
set_option maxHeartbeats 2000000 in
theorem find_any (A : Ar) (kind : Int) (key : List UInt8) (v : Value) (w : World) (hv : isAr A v w) (hF : FitA A) : Calls Tryz.prog 40 #[v, .int .i64 kind, .string ⟨key.toArray⟩] w fun e w' => e = .returned (.int .i64 (findI A (nameE kind key))) ∧ Below w.heap.size w w' := by
  obtain ⟨vs, vi, rfl, hs, hi⟩ := hv
  obtain ⟨hB, V⟩ := abox w A vs vi hs hi w.heap.size rfl
  clear hs hi
  obtain ⟨_, _, xa, _, _, ka0, ka1, ka2⟩ := V.out.open_
  have XA := Kept.mk xa
  clear xa
  go_enter Tryz.func40, Tryz.ntmps40
  go_wp2_with fail
  refine (acheck_any A _ _ XA.out hF).mono ?_
  rintro e W1 ⟨rfl, hb⟩
  replace hB := Kept.mk (hB.out.trans (hb.mono hB.out.size))
  replace V := Kept.mk (V.out.keep hb)
  clear hb ka0 ka1 ka2 XA
  cases hok : okA A with
  | false =>
    have hE := Kept.mk (show findI A (nameE kind key) = -1 by unfold findI; rw [hok]; rfl)
    rw [chk_A0 hok]
    go_wp2
    go_ret
    exact ⟨by rw [hE.out]; rfl, hB.out⟩
  | true =>
    rw [chk_A1 hok]
    have HO := Kept.mk (okA_iff.1 hok)
    have HE := Kept.mk (show findI A (nameE kind key) = if hitB (ordA A) (nameE kind key) = true then placeI A (nameE kind key) else -1 by unfold findI; rw [if_pos hok])
    clear hok
    obtain ⟨_, _, xa, _, _, ka0, ka1, ka2⟩ := V.out.open_
    have XA := Kept.mk xa
    clear xa
    go_wp2_with fail
    refine (search_any A (nameE kind key) _ _ _ HO.out XA.out (name_en kind key _)).mono ?_
    rintro e W2 ⟨rfl, hb⟩
    replace hB := Kept.mk (hB.out.trans (hb.mono hB.out.size))
    replace V := Kept.mk (V.out.keep hb)
    clear hb ka0 ka1 ka2 XA
    cases hh : hitB (ordA A) (nameE kind key) with
    | false =>
      have hE := Kept.mk (show findI A (nameE kind key) = -1 by rw [HE.out, hh]; rfl)
      go_wp2
      go_ret
      exact ⟨by rw [hE.out]; rfl, hB.out⟩
    | true =>
      have hE := Kept.mk (show findI A (nameE kind key) = placeI A (nameE kind key) by rw [HE.out, hh]; rfl)
      obtain ⟨h1, h2, _, _⟩ := place_spec HO.out hh
      obtain ⟨_, vi2, _, _, hi2, ka0, ka1, ka2⟩ := V.out.open_
      have hlt := (List.getElem?_eq_some_iff.1 h2).1
      obtain ⟨bi, oi, ci, rfl, hbi, hci⟩ := cells_get hi2 (by intro e; rw [e] at hlt; simp at hlt)
      have kc := hci _ _ h2
      clear hi2 hci HE
      generalize A.index.length = n at *
      generalize placeI A (nameE kind key) = q at *
      generalize posN (ordA A) (nameE kind key) = p at *
      have hlt' : (p : Int) < (n : Int) := by omega
      go_wp2
      go_ret
      exact ⟨by rw [hE.out]; rfl, hB.out⟩
end Go.Proofs.YtbgconagkgfplaaGreat
end
