/-
  No cell of these rows narrows 'for every input' (looked for: loops, veiled, ifaces, maps, wideKeys, modest, calm, conditions, laid).
  DERIVED. THE GIVEN ROWS OF THIS SEAT. 7 by the template 'for every input the law returns true; each argument reads behind the call as it read before'; 0 by the template 'total and deterministic' (their statements: YtbgconagkgfplaaGreatTotals.lean).
  GIVEN WITH THE SEED: the statements are not yours to turn. If you find one false, say at which input.
  Laid BY PROGRAM, IN A SANDBOX (cutbox-rows.mjs): the forced cells as the released guide's own fill.sh prints them over the translation 3846b46ac0173c35… (all of the seat's roots in one cut). By AI agents, Wed Nov 11 2026. No macro, syntax, notation, axiom, sorry.
-/
import Derived.Test.YtbgconagkgfplaaGreatChecked
import GoSem.Claim
import GoSem.ClaimJoined
import GoSem.ClaimMapViews
import Derived.JoinedTies
import Derived.KernelRfl
namespace Go.Proofs.YtbgconagkgfplaaGreat
/- THE CELL 'sum', in the pinned program and in every row, IS THE sha256 OF THE DUMP (.gsa) THAT YtbgconagkgfplaaGreatProg.lean LOADS. Nothing in Lean hashes anything: it is a label: what it is worth is what the hold of that sum in a sandbox is worth. -/
noncomputable def Tryz.pinned : Pinned := { name := "ytbgconagkgfplaagreat", sum := "3846b46ac0173c3536fd97e396feb3837968dbede9c5bea35062ce9d49ebbc8a", checked := Tryz.checked }
namespace Rows
def none {H : Type} : Left H := { results := [], args := [] }

/-- 'ouroboroslaw08.ArenaJoins': WHATEVER THE INPUT: true; the input reads as it did. -/
def arenaJoinsSpec : ChangeSpec := { name := "arenaJoins", fn := fun _ => fun
  | [d1, d2, d3] => { results := [.lit (.bool true)], args := [d1, d2, d3] }
  | _ => none }
def arenaJoinsRow : OpenClaim := { program := "ytbgconagkgfplaagreat", sum := "3846b46ac0173c3536fd97e396feb3837968dbede9c5bea35062ce9d49ebbc8a", func := "ouroboros/ouroboroslaw08.ArenaJoins", spec := "arenaJoins", inPlace := ["slices.overlaps[int]"], unfollowed := true, recurses := true, apart := false }
def ArenaJoinsSaid : Prop := arenaJoinsRow.holds Tryz.pinned (OpenSpec.ofChange arenaJoinsSpec)

/-- ITS FALSE NEIGHBOUR: 'it returns false'. Refute it at one input. -/
def arenaJoinsWrong : ChangeSpec := { name := "arenaJoins", fn := fun _ => fun
  | [d1, d2, d3] => { results := [.lit (.bool false)], args := [d1, d2, d3] }
  | _ => none }
def ArenaJoinsWrongFalsely : Prop := arenaJoinsRow.holds Tryz.pinned (OpenSpec.ofChange arenaJoinsWrong)

/-- 'ouroboroslaw09.DeltaUpdates': WHATEVER THE INPUT: true; the input reads as it did. -/
def deltaUpdatesSpec : ChangeSpec := { name := "deltaUpdates", fn := fun _ => fun
  | [d1, d2, d3, d4, d5, d6] => { results := [.lit (.bool true)], args := [d1, d2, d3, d4, d5, d6] }
  | _ => none }
def deltaUpdatesRow : OpenClaim := { program := "ytbgconagkgfplaagreat", sum := "3846b46ac0173c3536fd97e396feb3837968dbede9c5bea35062ce9d49ebbc8a", func := "ouroboros/ouroboroslaw09.DeltaUpdates", spec := "deltaUpdates", inPlace := ["slices.overlaps[int]"], unfollowed := true, recurses := true, apart := false }
def DeltaUpdatesSaid : Prop := deltaUpdatesRow.holds Tryz.pinned (OpenSpec.ofChange deltaUpdatesSpec)

/-- ITS FALSE NEIGHBOUR: 'it returns false'. Refute it at one input. -/
def deltaUpdatesWrong : ChangeSpec := { name := "deltaUpdates", fn := fun _ => fun
  | [d1, d2, d3, d4, d5, d6] => { results := [.lit (.bool false)], args := [d1, d2, d3, d4, d5, d6] }
  | _ => none }
def DeltaUpdatesWrongFalsely : Prop := deltaUpdatesRow.holds Tryz.pinned (OpenSpec.ofChange deltaUpdatesWrong)

/-- 'ouroboroslaw09.DeltaReads': WHATEVER THE INPUT: true; the input reads as it did. -/
def deltaReadsSpec : ChangeSpec := { name := "deltaReads", fn := fun _ => fun
  | [d1, d2] => { results := [.lit (.bool true)], args := [d1, d2] }
  | _ => none }
def deltaReadsRow : OpenClaim := { program := "ytbgconagkgfplaagreat", sum := "3846b46ac0173c3536fd97e396feb3837968dbede9c5bea35062ce9d49ebbc8a", func := "ouroboros/ouroboroslaw09.DeltaReads", spec := "deltaReads", inPlace := ["slices.overlaps[int]"], unfollowed := true, recurses := true, apart := false }
def DeltaReadsSaid : Prop := deltaReadsRow.holds Tryz.pinned (OpenSpec.ofChange deltaReadsSpec)

/-- ITS FALSE NEIGHBOUR: 'it returns false'. Refute it at one input. -/
def deltaReadsWrong : ChangeSpec := { name := "deltaReads", fn := fun _ => fun
  | [d1, d2] => { results := [.lit (.bool false)], args := [d1, d2] }
  | _ => none }
def DeltaReadsWrongFalsely : Prop := deltaReadsRow.holds Tryz.pinned (OpenSpec.ofChange deltaReadsWrong)

/-- 'ouroboroslaw09.DeltaWrites': WHATEVER THE INPUT: true; the input reads as it did. -/
def deltaWritesSpec : ChangeSpec := { name := "deltaWrites", fn := fun _ => fun
  | [d1, d2, d3, d4, d5, d6] => { results := [.lit (.bool true)], args := [d1, d2, d3, d4, d5, d6] }
  | _ => none }
def deltaWritesRow : OpenClaim := { program := "ytbgconagkgfplaagreat", sum := "3846b46ac0173c3536fd97e396feb3837968dbede9c5bea35062ce9d49ebbc8a", func := "ouroboros/ouroboroslaw09.DeltaWrites", spec := "deltaWrites", inPlace := ["slices.overlaps[int]"], unfollowed := true, recurses := true, apart := false }
def DeltaWritesSaid : Prop := deltaWritesRow.holds Tryz.pinned (OpenSpec.ofChange deltaWritesSpec)

/-- ITS FALSE NEIGHBOUR: 'it returns false'. Refute it at one input. -/
def deltaWritesWrong : ChangeSpec := { name := "deltaWrites", fn := fun _ => fun
  | [d1, d2, d3, d4, d5, d6] => { results := [.lit (.bool false)], args := [d1, d2, d3, d4, d5, d6] }
  | _ => none }
def DeltaWritesWrongFalsely : Prop := deltaWritesRow.holds Tryz.pinned (OpenSpec.ofChange deltaWritesWrong)

/-- 'ouroboroslaw09.DeltaTwo': WHATEVER THE INPUT: true; the input reads as it did. -/
def deltaTwoSpec : ChangeSpec := { name := "deltaTwo", fn := fun _ => fun
  | [d1, d2, d3, d4, d5, d6, d7, d8] => { results := [.lit (.bool true)], args := [d1, d2, d3, d4, d5, d6, d7, d8] }
  | _ => none }
def deltaTwoRow : OpenClaim := { program := "ytbgconagkgfplaagreat", sum := "3846b46ac0173c3536fd97e396feb3837968dbede9c5bea35062ce9d49ebbc8a", func := "ouroboros/ouroboroslaw09.DeltaTwo", spec := "deltaTwo", inPlace := ["slices.overlaps[int]"], unfollowed := true, recurses := true, apart := false }
def DeltaTwoSaid : Prop := deltaTwoRow.holds Tryz.pinned (OpenSpec.ofChange deltaTwoSpec)

/-- ITS FALSE NEIGHBOUR: 'it returns false'. Refute it at one input. -/
def deltaTwoWrong : ChangeSpec := { name := "deltaTwo", fn := fun _ => fun
  | [d1, d2, d3, d4, d5, d6, d7, d8] => { results := [.lit (.bool false)], args := [d1, d2, d3, d4, d5, d6, d7, d8] }
  | _ => none }
def DeltaTwoWrongFalsely : Prop := deltaTwoRow.holds Tryz.pinned (OpenSpec.ofChange deltaTwoWrong)

/-- 'ouroboroslaw09.DeltaRefuses': WHATEVER THE INPUT: true; the input reads as it did. -/
def deltaRefusesSpec : ChangeSpec := { name := "deltaRefuses", fn := fun _ => fun
  | [d1, d2, d3, d4] => { results := [.lit (.bool true)], args := [d1, d2, d3, d4] }
  | _ => none }
def deltaRefusesRow : OpenClaim := { program := "ytbgconagkgfplaagreat", sum := "3846b46ac0173c3536fd97e396feb3837968dbede9c5bea35062ce9d49ebbc8a", func := "ouroboros/ouroboroslaw09.DeltaRefuses", spec := "deltaRefuses", inPlace := ["slices.overlaps[int]"], unfollowed := true, recurses := true, apart := false }
def DeltaRefusesSaid : Prop := deltaRefusesRow.holds Tryz.pinned (OpenSpec.ofChange deltaRefusesSpec)

/-- ITS FALSE NEIGHBOUR: 'it returns false'. Refute it at one input. -/
def deltaRefusesWrong : ChangeSpec := { name := "deltaRefuses", fn := fun _ => fun
  | [d1, d2, d3, d4] => { results := [.lit (.bool false)], args := [d1, d2, d3, d4] }
  | _ => none }
def DeltaRefusesWrongFalsely : Prop := deltaRefusesRow.holds Tryz.pinned (OpenSpec.ofChange deltaRefusesWrong)

/-- 'ouroboroslaw09.DeltaScans': WHATEVER THE INPUT: true; the input reads as it did. -/
def deltaScansSpec : ChangeSpec := { name := "deltaScans", fn := fun _ => fun
  | [d] => { results := [.lit (.bool true)], args := [d] }
  | _ => none }
def deltaScansRow : OpenClaim := { program := "ytbgconagkgfplaagreat", sum := "3846b46ac0173c3536fd97e396feb3837968dbede9c5bea35062ce9d49ebbc8a", func := "ouroboros/ouroboroslaw09.DeltaScans", spec := "deltaScans", inPlace := ["slices.overlaps[int]"], unfollowed := true, recurses := true, apart := false }
def DeltaScansSaid : Prop := deltaScansRow.holds Tryz.pinned (OpenSpec.ofChange deltaScansSpec)

/-- ITS FALSE NEIGHBOUR: 'it returns false'. Refute it at one input. -/
def deltaScansWrong : ChangeSpec := { name := "deltaScans", fn := fun _ => fun
  | [d] => { results := [.lit (.bool false)], args := [d] }
  | _ => none }
def DeltaScansWrongFalsely : Prop := deltaScansRow.holds Tryz.pinned (OpenSpec.ofChange deltaScansWrong)

/- THE SECOND FORM. 'bulk': how many values and letters a reading holds, each counted each time it is reached (what is shared counts as often as it is met; a slice's spare places count too). A statement '..UptoSaid' is the law's where the arguments, and the package variables that the reading takes, are together of bulk at most 1048576: NARROWER than '..Said'. Prove '..Said' where nothing that the law and all that it calls make is longer than what came in: it says more and counts as full. Else prove '..UptoSaid'. A law counts once. -/
mutual
def uptoBulk {H : Type} : DataW H → Nat
  | .lit (.string bytes) => bytes.length + 1
  | .lit _ => 1
  | .nil => 1
  | .ptr d => uptoBulk d + 1
  | .slice elems spare => uptoBulkAll elems + uptoBulkAll spare + 1
  | .agg parts => uptoBulkAll parts + 1
  | .iface _ d => uptoBulk d + 1
  | .map entries => uptoBulkEntries entries + 1
  | .held _ => 1
def uptoBulkAll {H : Type} : List (DataW H) → Nat
  | [] => 0
  | d :: r => uptoBulk d + uptoBulkAll r
def uptoBulkEntries {H : Type} : List (Lit × DataW H) → Nat
  | [] => 0
  | x :: r => uptoBulkEntry x + uptoBulkEntries r
def uptoBulkEntry {H : Type} : Lit × DataW H → Nat
  | (.string bytes, d) => bytes.length + uptoBulk d + 1
  | (_, d) => uptoBulk d + 1
 end
def uptoSmall : (H : Type) → List (DataW H) → Bool := fun _ ds => decide (uptoBulkAll ds ≤ 1048576)
def OpenSpec.upto (s : _root_.Go.ChangeSpec) : _root_.Go.OpenSpec := { _root_.Go.OpenSpec.ofChange s with cond := some uptoSmall }

/-- 'ouroboroslaw08.ArenaJoins', WHERE WHAT IT READS IS OF BULK AT MOST 1048576: true; the input reads as it did. -/
def arenaJoinsUptoRow : OpenClaim := { program := "ytbgconagkgfplaagreat", sum := "3846b46ac0173c3536fd97e396feb3837968dbede9c5bea35062ce9d49ebbc8a", func := "ouroboros/ouroboroslaw08.ArenaJoins", spec := "arenaJoins", inPlace := ["slices.overlaps[int]"], unfollowed := true, recurses := true, apart := false, narrowed := true }
def ArenaJoinsUptoSaid : Prop := arenaJoinsUptoRow.holds Tryz.pinned (OpenSpec.upto arenaJoinsSpec)

/-- 'ouroboroslaw09.DeltaUpdates', WHERE WHAT IT READS IS OF BULK AT MOST 1048576: true; the input reads as it did. -/
def deltaUpdatesUptoRow : OpenClaim := { program := "ytbgconagkgfplaagreat", sum := "3846b46ac0173c3536fd97e396feb3837968dbede9c5bea35062ce9d49ebbc8a", func := "ouroboros/ouroboroslaw09.DeltaUpdates", spec := "deltaUpdates", inPlace := ["slices.overlaps[int]"], unfollowed := true, recurses := true, apart := false, narrowed := true }
def DeltaUpdatesUptoSaid : Prop := deltaUpdatesUptoRow.holds Tryz.pinned (OpenSpec.upto deltaUpdatesSpec)

/-- 'ouroboroslaw09.DeltaReads', WHERE WHAT IT READS IS OF BULK AT MOST 1048576: true; the input reads as it did. -/
def deltaReadsUptoRow : OpenClaim := { program := "ytbgconagkgfplaagreat", sum := "3846b46ac0173c3536fd97e396feb3837968dbede9c5bea35062ce9d49ebbc8a", func := "ouroboros/ouroboroslaw09.DeltaReads", spec := "deltaReads", inPlace := ["slices.overlaps[int]"], unfollowed := true, recurses := true, apart := false, narrowed := true }
def DeltaReadsUptoSaid : Prop := deltaReadsUptoRow.holds Tryz.pinned (OpenSpec.upto deltaReadsSpec)

/-- 'ouroboroslaw09.DeltaWrites', WHERE WHAT IT READS IS OF BULK AT MOST 1048576: true; the input reads as it did. -/
def deltaWritesUptoRow : OpenClaim := { program := "ytbgconagkgfplaagreat", sum := "3846b46ac0173c3536fd97e396feb3837968dbede9c5bea35062ce9d49ebbc8a", func := "ouroboros/ouroboroslaw09.DeltaWrites", spec := "deltaWrites", inPlace := ["slices.overlaps[int]"], unfollowed := true, recurses := true, apart := false, narrowed := true }
def DeltaWritesUptoSaid : Prop := deltaWritesUptoRow.holds Tryz.pinned (OpenSpec.upto deltaWritesSpec)

/-- 'ouroboroslaw09.DeltaTwo', WHERE WHAT IT READS IS OF BULK AT MOST 1048576: true; the input reads as it did. -/
def deltaTwoUptoRow : OpenClaim := { program := "ytbgconagkgfplaagreat", sum := "3846b46ac0173c3536fd97e396feb3837968dbede9c5bea35062ce9d49ebbc8a", func := "ouroboros/ouroboroslaw09.DeltaTwo", spec := "deltaTwo", inPlace := ["slices.overlaps[int]"], unfollowed := true, recurses := true, apart := false, narrowed := true }
def DeltaTwoUptoSaid : Prop := deltaTwoUptoRow.holds Tryz.pinned (OpenSpec.upto deltaTwoSpec)

/-- 'ouroboroslaw09.DeltaRefuses', WHERE WHAT IT READS IS OF BULK AT MOST 1048576: true; the input reads as it did. -/
def deltaRefusesUptoRow : OpenClaim := { program := "ytbgconagkgfplaagreat", sum := "3846b46ac0173c3536fd97e396feb3837968dbede9c5bea35062ce9d49ebbc8a", func := "ouroboros/ouroboroslaw09.DeltaRefuses", spec := "deltaRefuses", inPlace := ["slices.overlaps[int]"], unfollowed := true, recurses := true, apart := false, narrowed := true }
def DeltaRefusesUptoSaid : Prop := deltaRefusesUptoRow.holds Tryz.pinned (OpenSpec.upto deltaRefusesSpec)

/-- 'ouroboroslaw09.DeltaScans', WHERE WHAT IT READS IS OF BULK AT MOST 1048576: true; the input reads as it did. -/
def deltaScansUptoRow : OpenClaim := { program := "ytbgconagkgfplaagreat", sum := "3846b46ac0173c3536fd97e396feb3837968dbede9c5bea35062ce9d49ebbc8a", func := "ouroboros/ouroboroslaw09.DeltaScans", spec := "deltaScans", inPlace := ["slices.overlaps[int]"], unfollowed := true, recurses := true, apart := false, narrowed := true }
def DeltaScansUptoSaid : Prop := deltaScansUptoRow.holds Tryz.pinned (OpenSpec.upto deltaScansSpec)

end Rows
end Go.Proofs.YtbgconagkgfplaaGreat
