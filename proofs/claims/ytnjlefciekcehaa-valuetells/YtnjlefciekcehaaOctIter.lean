/- octet.digits and its closure: each byte, with how many bits it stands above the lowest one. -/
import Derived.Test.YtnjlefciekcehaaOctPut
import Derived.RangeFuncNested
import Derived.RangeFuncBound
import Derived.RangeFuncCalls
import Derived.RangeFuncLeaves
import Derived.Shelf.Abstract
import Derived.Shelf.RegionOpen
import Derived.WalkKit
import Derived.OwnWalkIn
import Derived.TacticsInMore
import Derived.LoopNIn
import Derived.LoopIn
namespace Go.Proofs.Ytnjlefciekcehaa
open Go.RowKit Go.Shelf
set_option linter.unusedVariables false
attribute [local go_sem] Oper.semAt_some

/-- A digit: its place, below 7, and its byte. -/
abbrev Dig := Fin 7 × UInt8
def encDig (x : Dig) : Array Value := #[.int .i64 (8 * (x.1.val : Int)), .int .i64 (x.2.toNat : Int)]

def digAt (l : List UInt8) (h : l.length ≤ 7) (k : Nat) (hk : k < l.length) : Dig := (⟨k, by omega⟩, l[k])
/-- The first k digits. -/
def digs (l : List UInt8) (h : l.length ≤ 7) : Nat → List Dig
  | 0 => []
  | k + 1 => digs l h k ++ (if hk : k < l.length then [digAt l h k hk] else [])
theorem digs_succ (l : List UInt8) (h : l.length ≤ 7) (k : Nat) (hk : k < l.length) : digs l h (k + 1) = digs l h k ++ [digAt l h k hk] := by
  simp [digs, hk]
theorem length_digs (l : List UInt8) (h : l.length ≤ 7) : ∀ k, k ≤ l.length → (digs l h k).length = k
  | 0, _ => rfl
  | k + 1, hk => by rw [digs_succ l h k (by omega)]; simp [length_digs l h k (by omega)]

/-- The cell of the box stays. -/
def BoxKept (b : Nat) (W W' : World) : Prop := W'.cell? ⟨b, 0, none⟩ = W.cell? ⟨b, 0, none⟩

end Go.Proofs.Ytnjlefciekcehaa
