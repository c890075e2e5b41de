/-
  No cell of these rows narrows 'for every input' (looked for: loops, veiled, ifaces, maps, wideKeys, modest, calm, conditions, laid).
  DERIVED. THE GIVEN ROWS OF THIS SEAT. 5 by the template 'for every input the law returns true; each argument reads behind the call as it read before'; 0 by the template 'total and deterministic' (their statements: YtmbnhlhanckkiaaTotals.lean).
  GIVEN WITH THE SEED: the statements are not yours to turn. If you find one false, say at which input.
  Laid BY PROGRAM, IN A SANDBOX (cutbox-rows.mjs): the forced cells as the released guide's own fill.sh prints them over the translation 7e9d7989bde13fb1… (all of the seat's roots in one cut). By AI agents, Wed Nov 11 2026. No macro, syntax, notation, axiom, sorry.
-/
import Derived.Test.YtmbnhlhanckkiaaChecked
import GoSem.Claim
import GoSem.ClaimJoined
import GoSem.ClaimMapViews
import Derived.JoinedTies
import Derived.KernelRfl
namespace Go.Proofs.Ytmbnhlhanckkiaa
/- THE CELL 'sum', in the pinned program and in every row, IS THE sha256 OF THE DUMP (.gsa) THAT YtmbnhlhanckkiaaProg.lean LOADS. Nothing in Lean hashes anything: it is a label: what it is worth is what the hold of that sum in a sandbox is worth. -/
noncomputable def Try.pinned : Pinned := { name := "ytmbnhlhanckkiaa", sum := "7e9d7989bde13fb1b42f940c23b5ec6d6842ca51e40c13992a6125dadead3fe5", checked := Try.checked }
namespace Rows
def none {H : Type} : Left H := { results := [], args := [] }

/-- 'ouroboroslaw08.ArenaHolds': WHATEVER THE INPUT: true; the input reads as it did. -/
def arenaHoldsSpec : ChangeSpec := { name := "arenaHolds", fn := fun _ => fun
  | [d1, d2] => { results := [.lit (.bool true)], args := [d1, d2] }
  | _ => none }
def arenaHoldsRow : OpenClaim := { program := "ytmbnhlhanckkiaa", sum := "7e9d7989bde13fb1b42f940c23b5ec6d6842ca51e40c13992a6125dadead3fe5", func := "ouroboros/ouroboroslaw08.ArenaHolds", spec := "arenaHolds", inPlace := ["slices.overlaps[int]"], unfollowed := true, recurses := true, apart := false }
def ArenaHoldsSaid : Prop := arenaHoldsRow.holds Try.pinned (OpenSpec.ofChange arenaHoldsSpec)

/-- ITS FALSE NEIGHBOUR: 'it returns false'. Refute it at one input. -/
def arenaHoldsWrong : ChangeSpec := { name := "arenaHolds", fn := fun _ => fun
  | [d1, d2] => { results := [.lit (.bool false)], args := [d1, d2] }
  | _ => none }
def ArenaHoldsWrongFalsely : Prop := arenaHoldsRow.holds Try.pinned (OpenSpec.ofChange arenaHoldsWrong)

/-- 'ouroboroslaw08.ArenaOrder': WHATEVER THE INPUT: true; the input reads as it did. -/
def arenaOrderSpec : ChangeSpec := { name := "arenaOrder", fn := fun _ => fun
  | [d1, d2, d3] => { results := [.lit (.bool true)], args := [d1, d2, d3] }
  | _ => none }
def arenaOrderRow : OpenClaim := { program := "ytmbnhlhanckkiaa", sum := "7e9d7989bde13fb1b42f940c23b5ec6d6842ca51e40c13992a6125dadead3fe5", func := "ouroboros/ouroboroslaw08.ArenaOrder", spec := "arenaOrder", inPlace := ["slices.overlaps[int]"], unfollowed := true, recurses := true, apart := false }
def ArenaOrderSaid : Prop := arenaOrderRow.holds Try.pinned (OpenSpec.ofChange arenaOrderSpec)

/-- ITS FALSE NEIGHBOUR: 'it returns false'. Refute it at one input. -/
def arenaOrderWrong : ChangeSpec := { name := "arenaOrder", fn := fun _ => fun
  | [d1, d2, d3] => { results := [.lit (.bool false)], args := [d1, d2, d3] }
  | _ => none }
def ArenaOrderWrongFalsely : Prop := arenaOrderRow.holds Try.pinned (OpenSpec.ofChange arenaOrderWrong)

/-- 'ouroboroslaw08.ArenaSlots': WHATEVER THE INPUT: true; the input reads as it did. -/
def arenaSlotsSpec : ChangeSpec := { name := "arenaSlots", fn := fun _ => fun
  | [d1, d2, d3] => { results := [.lit (.bool true)], args := [d1, d2, d3] }
  | _ => none }
def arenaSlotsRow : OpenClaim := { program := "ytmbnhlhanckkiaa", sum := "7e9d7989bde13fb1b42f940c23b5ec6d6842ca51e40c13992a6125dadead3fe5", func := "ouroboros/ouroboroslaw08.ArenaSlots", spec := "arenaSlots", inPlace := ["slices.overlaps[int]"], unfollowed := true, recurses := true, apart := false }
def ArenaSlotsSaid : Prop := arenaSlotsRow.holds Try.pinned (OpenSpec.ofChange arenaSlotsSpec)

/-- ITS FALSE NEIGHBOUR: 'it returns false'. Refute it at one input. -/
def arenaSlotsWrong : ChangeSpec := { name := "arenaSlots", fn := fun _ => fun
  | [d1, d2, d3] => { results := [.lit (.bool false)], args := [d1, d2, d3] }
  | _ => none }
def ArenaSlotsWrongFalsely : Prop := arenaSlotsRow.holds Try.pinned (OpenSpec.ofChange arenaSlotsWrong)

/-- 'ouroboroslaw08.ArenaBelow': WHATEVER THE INPUT: true; the input reads as it did. -/
def arenaBelowSpec : ChangeSpec := { name := "arenaBelow", fn := fun _ => fun
  | [d1, d2, d3] => { results := [.lit (.bool true)], args := [d1, d2, d3] }
  | _ => none }
def arenaBelowRow : OpenClaim := { program := "ytmbnhlhanckkiaa", sum := "7e9d7989bde13fb1b42f940c23b5ec6d6842ca51e40c13992a6125dadead3fe5", func := "ouroboros/ouroboroslaw08.ArenaBelow", spec := "arenaBelow", inPlace := ["slices.overlaps[int]"], unfollowed := true, recurses := true, apart := false }
def ArenaBelowSaid : Prop := arenaBelowRow.holds Try.pinned (OpenSpec.ofChange arenaBelowSpec)

/-- ITS FALSE NEIGHBOUR: 'it returns false'. Refute it at one input. -/
def arenaBelowWrong : ChangeSpec := { name := "arenaBelow", fn := fun _ => fun
  | [d1, d2, d3] => { results := [.lit (.bool false)], args := [d1, d2, d3] }
  | _ => none }
def ArenaBelowWrongFalsely : Prop := arenaBelowRow.holds Try.pinned (OpenSpec.ofChange arenaBelowWrong)

/-- 'ouroboroslaw08.ArenaFull': WHATEVER THE INPUT: true; the input reads as it did. -/
def arenaFullSpec : ChangeSpec := { name := "arenaFull", fn := fun _ => fun
  | [d1, d2] => { results := [.lit (.bool true)], args := [d1, d2] }
  | _ => none }
def arenaFullRow : OpenClaim := { program := "ytmbnhlhanckkiaa", sum := "7e9d7989bde13fb1b42f940c23b5ec6d6842ca51e40c13992a6125dadead3fe5", func := "ouroboros/ouroboroslaw08.ArenaFull", spec := "arenaFull", inPlace := ["slices.overlaps[int]"], unfollowed := true, recurses := true, apart := false }
def ArenaFullSaid : Prop := arenaFullRow.holds Try.pinned (OpenSpec.ofChange arenaFullSpec)

/-- ITS FALSE NEIGHBOUR: 'it returns false'. Refute it at one input. -/
def arenaFullWrong : ChangeSpec := { name := "arenaFull", fn := fun _ => fun
  | [d1, d2] => { results := [.lit (.bool false)], args := [d1, d2] }
  | _ => none }
def ArenaFullWrongFalsely : Prop := arenaFullRow.holds Try.pinned (OpenSpec.ofChange arenaFullWrong)

/- THE SECOND FORM. 'bulk': how many values and letters a reading holds, each counted each time it is reached (what is shared counts as often as it is met; a slice's spare places count too). A statement '..UptoSaid' is the law's where the arguments, and the package variables that the reading takes, are together of bulk at most 1048576: NARROWER than '..Said'. Prove '..Said' where nothing that the law and all that it calls make is longer than what came in: it says more and counts as full. Else prove '..UptoSaid'. A law counts once. -/
mutual
def uptoBulk {H : Type} : DataW H → Nat
  | .lit (.string bytes) => bytes.length + 1
  | .lit _ => 1
  | .nil => 1
  | .ptr d => uptoBulk d + 1
  | .slice elems spare => uptoBulkAll elems + uptoBulkAll spare + 1
  | .agg parts => uptoBulkAll parts + 1
  | .iface _ d => uptoBulk d + 1
  | .map entries => uptoBulkEntries entries + 1
  | .held _ => 1
def uptoBulkAll {H : Type} : List (DataW H) → Nat
  | [] => 0
  | d :: r => uptoBulk d + uptoBulkAll r
def uptoBulkEntries {H : Type} : List (Lit × DataW H) → Nat
  | [] => 0
  | x :: r => uptoBulkEntry x + uptoBulkEntries r
def uptoBulkEntry {H : Type} : Lit × DataW H → Nat
  | (.string bytes, d) => bytes.length + uptoBulk d + 1
  | (_, d) => uptoBulk d + 1
 end
def uptoSmall : (H : Type) → List (DataW H) → Bool := fun _ ds => decide (uptoBulkAll ds ≤ 1048576)
def OpenSpec.upto (s : _root_.Go.ChangeSpec) : _root_.Go.OpenSpec := { _root_.Go.OpenSpec.ofChange s with cond := some uptoSmall }

/-- 'ouroboroslaw08.ArenaHolds', WHERE WHAT IT READS IS OF BULK AT MOST 1048576: true; the input reads as it did. -/
def arenaHoldsUptoRow : OpenClaim := { program := "ytmbnhlhanckkiaa", sum := "7e9d7989bde13fb1b42f940c23b5ec6d6842ca51e40c13992a6125dadead3fe5", func := "ouroboros/ouroboroslaw08.ArenaHolds", spec := "arenaHolds", inPlace := ["slices.overlaps[int]"], unfollowed := true, recurses := true, apart := false, narrowed := true }
def ArenaHoldsUptoSaid : Prop := arenaHoldsUptoRow.holds Try.pinned (OpenSpec.upto arenaHoldsSpec)

/-- 'ouroboroslaw08.ArenaOrder', WHERE WHAT IT READS IS OF BULK AT MOST 1048576: true; the input reads as it did. -/
def arenaOrderUptoRow : OpenClaim := { program := "ytmbnhlhanckkiaa", sum := "7e9d7989bde13fb1b42f940c23b5ec6d6842ca51e40c13992a6125dadead3fe5", func := "ouroboros/ouroboroslaw08.ArenaOrder", spec := "arenaOrder", inPlace := ["slices.overlaps[int]"], unfollowed := true, recurses := true, apart := false, narrowed := true }
def ArenaOrderUptoSaid : Prop := arenaOrderUptoRow.holds Try.pinned (OpenSpec.upto arenaOrderSpec)

/-- 'ouroboroslaw08.ArenaSlots', WHERE WHAT IT READS IS OF BULK AT MOST 1048576: true; the input reads as it did. -/
def arenaSlotsUptoRow : OpenClaim := { program := "ytmbnhlhanckkiaa", sum := "7e9d7989bde13fb1b42f940c23b5ec6d6842ca51e40c13992a6125dadead3fe5", func := "ouroboros/ouroboroslaw08.ArenaSlots", spec := "arenaSlots", inPlace := ["slices.overlaps[int]"], unfollowed := true, recurses := true, apart := false, narrowed := true }
def ArenaSlotsUptoSaid : Prop := arenaSlotsUptoRow.holds Try.pinned (OpenSpec.upto arenaSlotsSpec)

/-- 'ouroboroslaw08.ArenaBelow', WHERE WHAT IT READS IS OF BULK AT MOST 1048576: true; the input reads as it did. -/
def arenaBelowUptoRow : OpenClaim := { program := "ytmbnhlhanckkiaa", sum := "7e9d7989bde13fb1b42f940c23b5ec6d6842ca51e40c13992a6125dadead3fe5", func := "ouroboros/ouroboroslaw08.ArenaBelow", spec := "arenaBelow", inPlace := ["slices.overlaps[int]"], unfollowed := true, recurses := true, apart := false, narrowed := true }
def ArenaBelowUptoSaid : Prop := arenaBelowUptoRow.holds Try.pinned (OpenSpec.upto arenaBelowSpec)

/-- 'ouroboroslaw08.ArenaFull', WHERE WHAT IT READS IS OF BULK AT MOST 1048576: true; the input reads as it did. -/
def arenaFullUptoRow : OpenClaim := { program := "ytmbnhlhanckkiaa", sum := "7e9d7989bde13fb1b42f940c23b5ec6d6842ca51e40c13992a6125dadead3fe5", func := "ouroboros/ouroboroslaw08.ArenaFull", spec := "arenaFull", inPlace := ["slices.overlaps[int]"], unfollowed := true, recurses := true, apart := false, narrowed := true }
def ArenaFullUptoSaid : Prop := arenaFullUptoRow.holds Try.pinned (OpenSpec.upto arenaFullSpec)

end Rows
end Go.Proofs.Ytmbnhlhanckkiaa
