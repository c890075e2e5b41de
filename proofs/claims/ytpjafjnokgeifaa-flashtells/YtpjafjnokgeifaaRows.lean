/-
  No cell of these rows narrows 'for every input' (looked for: loops, veiled, ifaces, maps, wideKeys, modest, calm, conditions, laid).
  DERIVED. THE GIVEN ROWS OF THIS SEAT. 5 by the template 'for every input the law returns true; each argument reads behind the call as it read before'; 0 by the template 'total and deterministic' (their statements: YtpjafjnokgeifaaTotals.lean).
  GIVEN WITH THE SEED: the statements are not yours to turn. If you find one false, say at which input.
  Laid BY PROGRAM, IN A SANDBOX (cutbox-rows.mjs): the forced cells as the released guide's own fill.sh prints them over the translation 0c0b6f5f8a9a4622… (all of the seat's roots in one cut). By AI agents, Wed Nov 11 2026. No macro, syntax, notation, axiom, sorry.
-/
import Derived.Test.YtpjafjnokgeifaaChecked
import GoSem.Claim
import GoSem.ClaimJoined
import GoSem.ClaimMapViews
import Derived.JoinedTies
import Derived.KernelRfl
namespace Go.Proofs.Ytpjafjnokgeifaa
/- THE CELL 'sum', in the pinned program and in every row, IS THE sha256 OF THE DUMP (.gsa) THAT YtpjafjnokgeifaaProg.lean LOADS. Nothing in Lean hashes anything: it is a label: what it is worth is what the hold of that sum in a sandbox is worth. -/
noncomputable def Try.pinned : Pinned := { name := "ytpjafjnokgeifaa", sum := "0c0b6f5f8a9a462206b60bc5b30caa76860fbd4501c63b2f3f95f1c1e63f0383", checked := Try.checked }
namespace Rows
def none {H : Type} : Left H := { results := [], args := [] }

/-- 'ouroboroslaw03.FlashTells': WHATEVER THE INPUT: true; the input reads as it did. -/
def flashTellsSpec : ChangeSpec := { name := "flashTells", fn := fun _ => fun
  | [d1, d2, d3, d4, d5] => { results := [.lit (.bool true)], args := [d1, d2, d3, d4, d5] }
  | _ => none }
def flashTellsRow : OpenClaim := { program := "ytpjafjnokgeifaa", sum := "0c0b6f5f8a9a462206b60bc5b30caa76860fbd4501c63b2f3f95f1c1e63f0383", func := "ouroboros/ouroboroslaw03.FlashTells", spec := "flashTells", inPlace := ["internal/abi.NoEscape", "internal/bytealg.MakeNoZero"], unfollowed := true, recurses := true, apart := false }
def FlashTellsSaid : Prop := flashTellsRow.holds Try.pinned (OpenSpec.ofChange flashTellsSpec)

/-- ITS FALSE NEIGHBOUR: 'it returns false'. Refute it at one input. -/
def flashTellsWrong : ChangeSpec := { name := "flashTells", fn := fun _ => fun
  | [d1, d2, d3, d4, d5] => { results := [.lit (.bool false)], args := [d1, d2, d3, d4, d5] }
  | _ => none }
def FlashTellsWrongFalsely : Prop := flashTellsRow.holds Try.pinned (OpenSpec.ofChange flashTellsWrong)

/-- 'ouroboroslaw11.ConfigTells': WHATEVER THE INPUT: true; the input reads as it did. -/
def configTellsSpec : ChangeSpec := { name := "configTells", fn := fun _ => fun
  | [d] => { results := [.lit (.bool true)], args := [d] }
  | _ => none }
def configTellsRow : OpenClaim := { program := "ytpjafjnokgeifaa", sum := "0c0b6f5f8a9a462206b60bc5b30caa76860fbd4501c63b2f3f95f1c1e63f0383", func := "ouroboros/ouroboroslaw11.ConfigTells", spec := "configTells", unfollowed := true, recurses := true, apart := false }
def ConfigTellsSaid : Prop := configTellsRow.holds Try.pinned (OpenSpec.ofChange configTellsSpec)

/-- ITS FALSE NEIGHBOUR: 'it returns false'. Refute it at one input. -/
def configTellsWrong : ChangeSpec := { name := "configTells", fn := fun _ => fun
  | [d] => { results := [.lit (.bool false)], args := [d] }
  | _ => none }
def ConfigTellsWrongFalsely : Prop := configTellsRow.holds Try.pinned (OpenSpec.ofChange configTellsWrong)

/-- 'ouroboroslaw11.ConfigFits': WHATEVER THE INPUT: true; the input reads as it did. -/
def configFitsSpec : ChangeSpec := { name := "configFits", fn := fun _ => fun
  | [d] => { results := [.lit (.bool true)], args := [d] }
  | _ => none }
def configFitsRow : OpenClaim := { program := "ytpjafjnokgeifaa", sum := "0c0b6f5f8a9a462206b60bc5b30caa76860fbd4501c63b2f3f95f1c1e63f0383", func := "ouroboros/ouroboroslaw11.ConfigFits", spec := "configFits", unfollowed := true, recurses := true, apart := false }
def ConfigFitsSaid : Prop := configFitsRow.holds Try.pinned (OpenSpec.ofChange configFitsSpec)

/-- ITS FALSE NEIGHBOUR: 'it returns false'. Refute it at one input. -/
def configFitsWrong : ChangeSpec := { name := "configFits", fn := fun _ => fun
  | [d] => { results := [.lit (.bool false)], args := [d] }
  | _ => none }
def ConfigFitsWrongFalsely : Prop := configFitsRow.holds Try.pinned (OpenSpec.ofChange configFitsWrong)

/-- 'ouroboroslaw11.ConfigMore': WHATEVER THE INPUT: true; the input reads as it did. -/
def configMoreSpec : ChangeSpec := { name := "configMore", fn := fun _ => fun
  | [d] => { results := [.lit (.bool true)], args := [d] }
  | _ => none }
def configMoreRow : OpenClaim := { program := "ytpjafjnokgeifaa", sum := "0c0b6f5f8a9a462206b60bc5b30caa76860fbd4501c63b2f3f95f1c1e63f0383", func := "ouroboros/ouroboroslaw11.ConfigMore", spec := "configMore", unfollowed := true, recurses := true, apart := false }
def ConfigMoreSaid : Prop := configMoreRow.holds Try.pinned (OpenSpec.ofChange configMoreSpec)

/-- ITS FALSE NEIGHBOUR: 'it returns false'. Refute it at one input. -/
def configMoreWrong : ChangeSpec := { name := "configMore", fn := fun _ => fun
  | [d] => { results := [.lit (.bool false)], args := [d] }
  | _ => none }
def ConfigMoreWrongFalsely : Prop := configMoreRow.holds Try.pinned (OpenSpec.ofChange configMoreWrong)

/-- 'ouroboroslaw11.ConfigEdges': WHATEVER THE INPUT: true; the input reads as it did. -/
def configEdgesSpec : ChangeSpec := { name := "configEdges", fn := fun _ => fun
  | [d1, d2] => { results := [.lit (.bool true)], args := [d1, d2] }
  | _ => none }
def configEdgesRow : OpenClaim := { program := "ytpjafjnokgeifaa", sum := "0c0b6f5f8a9a462206b60bc5b30caa76860fbd4501c63b2f3f95f1c1e63f0383", func := "ouroboros/ouroboroslaw11.ConfigEdges", spec := "configEdges", unfollowed := true, recurses := true, apart := false }
def ConfigEdgesSaid : Prop := configEdgesRow.holds Try.pinned (OpenSpec.ofChange configEdgesSpec)

/-- ITS FALSE NEIGHBOUR: 'it returns false'. Refute it at one input. -/
def configEdgesWrong : ChangeSpec := { name := "configEdges", fn := fun _ => fun
  | [d1, d2] => { results := [.lit (.bool false)], args := [d1, d2] }
  | _ => none }
def ConfigEdgesWrongFalsely : Prop := configEdgesRow.holds Try.pinned (OpenSpec.ofChange configEdgesWrong)

/- THE SECOND FORM. 'bulk': how many values and letters a reading holds, each counted each time it is reached (what is shared counts as often as it is met; a slice's spare places count too). A statement '..UptoSaid' is the law's where the arguments, and the package variables that the reading takes, are together of bulk at most 1048576: NARROWER than '..Said'. Prove '..Said' where nothing that the law and all that it calls make is longer than what came in: it says more and counts as full. Else prove '..UptoSaid'. A law counts once. -/
mutual
def uptoBulk {H : Type} : DataW H → Nat
  | .lit (.string bytes) => bytes.length + 1
  | .lit _ => 1
  | .nil => 1
  | .ptr d => uptoBulk d + 1
  | .slice elems spare => uptoBulkAll elems + uptoBulkAll spare + 1
  | .agg parts => uptoBulkAll parts + 1
  | .iface _ d => uptoBulk d + 1
  | .map entries => uptoBulkEntries entries + 1
  | .held _ => 1
def uptoBulkAll {H : Type} : List (DataW H) → Nat
  | [] => 0
  | d :: r => uptoBulk d + uptoBulkAll r
def uptoBulkEntries {H : Type} : List (Lit × DataW H) → Nat
  | [] => 0
  | x :: r => uptoBulkEntry x + uptoBulkEntries r
def uptoBulkEntry {H : Type} : Lit × DataW H → Nat
  | (.string bytes, d) => bytes.length + uptoBulk d + 1
  | (_, d) => uptoBulk d + 1
 end
def uptoSmall : (H : Type) → List (DataW H) → Bool := fun _ ds => decide (uptoBulkAll ds ≤ 1048576)
def OpenSpec.upto (s : _root_.Go.ChangeSpec) : _root_.Go.OpenSpec := { _root_.Go.OpenSpec.ofChange s with cond := some uptoSmall }

/-- 'ouroboroslaw03.FlashTells', WHERE WHAT IT READS IS OF BULK AT MOST 1048576: true; the input reads as it did. -/
def flashTellsUptoRow : OpenClaim := { program := "ytpjafjnokgeifaa", sum := "0c0b6f5f8a9a462206b60bc5b30caa76860fbd4501c63b2f3f95f1c1e63f0383", func := "ouroboros/ouroboroslaw03.FlashTells", spec := "flashTells", inPlace := ["internal/abi.NoEscape", "internal/bytealg.MakeNoZero"], unfollowed := true, recurses := true, apart := false, narrowed := true }
def FlashTellsUptoSaid : Prop := flashTellsUptoRow.holds Try.pinned (OpenSpec.upto flashTellsSpec)

/-- 'ouroboroslaw11.ConfigTells', WHERE WHAT IT READS IS OF BULK AT MOST 1048576: true; the input reads as it did. -/
def configTellsUptoRow : OpenClaim := { program := "ytpjafjnokgeifaa", sum := "0c0b6f5f8a9a462206b60bc5b30caa76860fbd4501c63b2f3f95f1c1e63f0383", func := "ouroboros/ouroboroslaw11.ConfigTells", spec := "configTells", unfollowed := true, recurses := true, apart := false, narrowed := true }
def ConfigTellsUptoSaid : Prop := configTellsUptoRow.holds Try.pinned (OpenSpec.upto configTellsSpec)

/-- 'ouroboroslaw11.ConfigFits', WHERE WHAT IT READS IS OF BULK AT MOST 1048576: true; the input reads as it did. -/
def configFitsUptoRow : OpenClaim := { program := "ytpjafjnokgeifaa", sum := "0c0b6f5f8a9a462206b60bc5b30caa76860fbd4501c63b2f3f95f1c1e63f0383", func := "ouroboros/ouroboroslaw11.ConfigFits", spec := "configFits", unfollowed := true, recurses := true, apart := false, narrowed := true }
def ConfigFitsUptoSaid : Prop := configFitsUptoRow.holds Try.pinned (OpenSpec.upto configFitsSpec)

/-- 'ouroboroslaw11.ConfigMore', WHERE WHAT IT READS IS OF BULK AT MOST 1048576: true; the input reads as it did. -/
def configMoreUptoRow : OpenClaim := { program := "ytpjafjnokgeifaa", sum := "0c0b6f5f8a9a462206b60bc5b30caa76860fbd4501c63b2f3f95f1c1e63f0383", func := "ouroboros/ouroboroslaw11.ConfigMore", spec := "configMore", unfollowed := true, recurses := true, apart := false, narrowed := true }
def ConfigMoreUptoSaid : Prop := configMoreUptoRow.holds Try.pinned (OpenSpec.upto configMoreSpec)

/-- 'ouroboroslaw11.ConfigEdges', WHERE WHAT IT READS IS OF BULK AT MOST 1048576: true; the input reads as it did. -/
def configEdgesUptoRow : OpenClaim := { program := "ytpjafjnokgeifaa", sum := "0c0b6f5f8a9a462206b60bc5b30caa76860fbd4501c63b2f3f95f1c1e63f0383", func := "ouroboros/ouroboroslaw11.ConfigEdges", spec := "configEdges", unfollowed := true, recurses := true, apart := false, narrowed := true }
def ConfigEdgesUptoSaid : Prop := configEdgesUptoRow.holds Try.pinned (OpenSpec.upto configEdgesSpec)

end Rows
end Go.Proofs.Ytpjafjnokgeifaa
