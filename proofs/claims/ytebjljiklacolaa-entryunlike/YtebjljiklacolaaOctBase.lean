/- Rows of bytes in memory, as lists: what a loop that fills or reads a row of bytes wants. Nothing of the program. -/
import Derived.WalkKit
import Derived.WalkSpells
import Derived.WalkLawsBesides
import Derived.Lib.Hide
import Derived.Lib.ConvBytes
import Derived.Laws.BitsAllLaws
import Derived.IntWalk
import Derived.Deep.Light
import Derived.Deep.OwnRows
namespace Go.Proofs.Ytebjljiklacolaa
open Go.RowKit

/-- Block g begins with the bytes l, none of them frozen. -/
def BRow (w : World) (g : Nat) (l : List UInt8) : Prop :=
  ∀ j (h : j < l.length), w.cell? ⟨g, j, none⟩ = some (.int .u8 (l[j].toNat : Int)) ∧ w.frozen? ⟨g, j, none⟩ = false

theorem BRow.at_ {w : World} {g : Nat} {l : List UInt8} (h : BRow w g l) {k : Nat} (hk : k < l.length) :
    w.cell? ⟨g, k, none⟩ = some (.int .u8 (l[k].toNat : Int)) := (h k hk).1
theorem BRow.some_ {w : World} {g : Nat} {l : List UInt8} (h : BRow w g l) {k : Nat} (hk : k < l.length) :
    ∃ v, w.cell? ⟨g, k, none⟩ = some (.int .u8 v) := ⟨_, (h k hk).1⟩
theorem BRow.free {w : World} {g : Nat} {l : List UInt8} (h : BRow w g l) {k : Nat} (hk : k < l.length) :
    w.frozen? ⟨g, k, none⟩ = false := (h k hk).2

theorem BRow.set_ {w : World} {g : Nat} {l : List UInt8} (h : BRow w g l) {k : Nat} (hk : k < l.length) (b : UInt8) :
    BRow (w.setCell ⟨g, k, none⟩ (.int .u8 (b.toNat : Int))) g (l.set k b) := by
  intro j hj
  have hj' : j < l.length := by simpa using hj
  refine ⟨?_, by rw [World.frozen?_setCell]; exact (h j hj').2⟩
  by_cases e : k = j
  · subst e
    rw [World.cell?_setCell_same w _ _ (h k hk).1]
    simp
  · rw [World.cell?_setCell_other w _ _ _ (by intro h; injection h; contradiction), (h j hj').1]
    simp [List.getElem_set_ne e]

theorem BRow.drewN {w : World} {g : Nat} {l : List UInt8} (h : BRow w g l) (n : Nat) : BRow (w.drewN n) g l := h
theorem BRow.drew {w : World} {g : Nat} {l : List UInt8} (h : BRow w g l) : BRow w.drew g l := h

theorem madeCells_get (z : Value) (n j : Nat) (h : j < n) : (madeCells #[z] n)[j]? = some z := by
  simp [madeCells, h, Nat.mod_one]

theorem BRow.made (w : World) (e : TypeId) (n : Nat) : BRow (w.alloc (.cells (madeCells #[.int .u8 0] n) e)) w.heap.size (List.replicate n 0) := by
  intro j hj
  have hj' : j < n := by simpa using hj
  refine ⟨?_, World.frozen?_alloc_new w _ _ _⟩
  rw [World.cell?_alloc_new w, madeCells_get _ _ _ hj']
  simp

theorem BRow.back {P : Program} {w : World} {g : Nat} {l : List UInt8} (h : BRow w g l) (src dst e : TypeId) (n cap : Nat) (hn : l.length = n)
    (hs : P.underlying src = some (.slice e)) (he : P.underlying e = some (.int .u8)) (hd : P.underlying dst = some .string) :
    (convert src dst (.slice (some ⟨g, 0, none⟩) n cap)).run P w = .ok (.string ⟨l.toArray⟩) w := by
  subst hn
  refine run_convert_bytes_back w src dst e ⟨g, 0, none⟩ cap l hs he hd (fun j hj => ?_)
  have := (h j hj).1
  by_cases e0 : j = 0
  · subst e0; simpa [Addr.add] using this
  · simpa [Addr.add, e0] using this

/-- The first k of l, and behind them what stands in b there. -/
def mix (l b : List UInt8) (k : Nat) : List UInt8 := l.take k ++ b.drop k
theorem mix_zero (l b : List UInt8) : mix l b 0 = b := by simp [mix]
theorem mix_all (l b : List UInt8) (k : Nat) (hl : l.length ≤ k) (hb : b.length ≤ k) : mix l b k = l := by
  simp [mix, List.take_of_length_le hl, List.drop_eq_nil_of_le hb]
theorem length_mix (l b : List UInt8) (k : Nat) (h : b.length = l.length) : (mix l b k).length = l.length := by
  simp [mix]; omega
theorem mix_set (l b : List UInt8) (k : Nat) (h : b.length = l.length) (hk : k < l.length) (x : UInt8) (hx : x = l[k]) :
    (mix l b k).set k x = mix l b (k + 1) := by
  subst hx
  have hb : b.drop k = b[k]'(by omega) :: b.drop (k + 1) := List.drop_eq_getElem_cons (by omega)
  have e : (l.take k).length = k := by simp; omega
  unfold mix
  rw [hb, List.take_succ_eq_append_getElem hk, List.set_append_right _ _ (by omega), e, Nat.sub_self, List.set_cons_zero, List.append_assoc, List.singleton_append]

end Go.Proofs.Ytebjljiklacolaa
