/- Contract of octet.pairwise, and And, Or, Xor by it. -/
import Derived.Test.YtebjljiklacolaaOctNot
import Derived.StillTailTactics
import Derived.Deep.RegionWith
import Derived.Deep.RegionHeld3
import Derived.Lib.ConvBytes
import Derived.Shelf.Abstract
namespace Go.Proofs.Ytebjljiklacolaa
open Go.RowKit
set_option linter.unusedVariables false

/-- f of both bytes, where the second text has one; else the first one's. -/
def pairL (f : UInt8 → UInt8 → UInt8) : List UInt8 → List UInt8 → List UInt8
  | [], _ => []
  | a :: r, [] => a :: r
  | a :: r, b :: q => f a b :: pairL f r q

theorem length_pairL (f : UInt8 → UInt8 → UInt8) : ∀ a b, (pairL f a b).length = a.length
  | [], _ => rfl
  | _ :: _, [] => rfl
  | _ :: r, _ :: q => by simp [pairL, length_pairL f r q]

theorem pairL_get (f : UInt8 → UInt8 → UInt8) : ∀ (a b : List UInt8) (k : Nat) (ha : k < a.length) (hb : k < b.length), (pairL f a b)[k]'(by rw [length_pairL]; exact ha) = f a[k] b[k]
  | _ :: _, _ :: _, 0, _, _ => rfl
  | _ :: r, _ :: q, k + 1, ha, hb => by simpa [pairL] using pairL_get f r q k (by simpa using ha) (by simpa using hb)

theorem pairL_drop (f : UInt8 → UInt8 → UInt8) : ∀ (a b : List UInt8), mix (pairL f a b) a (min a.length b.length) = pairL f a b
  | [], _ => by simp [mix, pairL]
  | _ :: _, [] => by simp [mix, pairL]
  | x :: r, y :: q => by
    have := pairL_drop f r q
    simp only [mix, pairL, List.length_cons, Nat.add_min_add_right, List.take_succ_cons, List.drop_succ_cons, List.cons_append] at this ⊢
    rw [this]

theorem bytesWorld_row (w : World) (e : TypeId) (s : ByteArray) : BRow (Lib.bytesWorld w e s) w.heap.size s.data.toList := by
  intro j hj
  have hj' : j < s.size := by simpa using hj
  refine ⟨?_, ?_⟩
  · rw [Lib.bytesWorld_cell w e s j hj']
    rw [List.getD_eq_getElem?_getD, List.getElem?_eq_getElem hj]; rfl
  · have := Lib.bytesWorld_at_new w e s
    simp [World.frozen?, this, Lib.bytesCells]
    omega

theorem bytesWorld_below (w : World) (e : TypeId) (s : ByteArray) : Below w.heap.size w (Lib.bytesWorld w e s) :=
  ⟨rfl, rfl, rfl, by rw [Lib.bytesWorld_size]; omega, fun k hk => Lib.bytesWorld_at_old w e s k hk⟩

end Go.Proofs.Ytebjljiklacolaa
