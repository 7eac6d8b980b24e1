/-
  No cell of these rows narrows 'for every input' (looked for: loops, veiled, ifaces, maps, wideKeys, modest, calm, conditions, laid).
  DERIVED. THE GIVEN ROWS OF THIS SEAT. 5 by the template 'for every input the law returns true; each argument reads behind the call as it read before'; 0 by the template 'total and deterministic' (their statements: YtalliccdgpfkaaaTotals.lean).
  GIVEN WITH THE SEED: the statements are not yours to turn. If you find one false, say at which input.
  Laid BY PROGRAM, IN A SANDBOX (cutbox-rows.mjs): the forced cells as the released guide's own fill.sh prints them over the translation 4a52397763cc5cac… (all of the seat's roots in one cut). By AI agents, Wed Nov 11 2026. No macro, syntax, notation, axiom, sorry.
-/
import Derived.Test.YtalliccdgpfkaaaChecked
import GoSem.Claim
import GoSem.ClaimJoined
import GoSem.ClaimMapViews
import Derived.JoinedTies
import Derived.KernelRfl
namespace Go.Proofs.Ytalliccdgpfkaaa
/- THE CELL 'sum', in the pinned program and in every row, IS THE sha256 OF THE DUMP (.gsa) THAT YtalliccdgpfkaaaProg.lean LOADS. Nothing in Lean hashes anything: it is a label: what it is worth is what the hold of that sum in a sandbox is worth. -/
noncomputable def Try.pinned : Pinned := { name := "ytalliccdgpfkaaa", sum := "4a52397763cc5cac7a0196920e84360e168c69fa253e87d4c1f847142229c90a", checked := Try.checked }
namespace Rows
def none {H : Type} : Left H := { results := [], args := [] }

/-- 'quietuslaw13.SlateRuns': WHATEVER THE INPUT: true; the input reads as it did. -/
def slateRunsSpec : ChangeSpec := { name := "slateRuns", fn := fun _ => fun
  | [] => { results := [.lit (.bool true)], args := [] }
  | _ => none }
def slateRunsRow : OpenClaim := { program := "ytalliccdgpfkaaa", sum := "4a52397763cc5cac7a0196920e84360e168c69fa253e87d4c1f847142229c90a", func := "quietus/quietuslaw13.SlateRuns", spec := "slateRuns", inPlace := ["internal/abi.NoEscape", "internal/bytealg.MakeNoZero"], unfollowed := true, recurses := true, apart := false }
def SlateRunsSaid : Prop := slateRunsRow.holds Try.pinned (OpenSpec.ofChange slateRunsSpec)

/-- ITS FALSE NEIGHBOUR: 'it returns false'. Refute it at one input. -/
def slateRunsWrong : ChangeSpec := { name := "slateRuns", fn := fun _ => fun
  | [] => { results := [.lit (.bool false)], args := [] }
  | _ => none }
def SlateRunsWrongFalsely : Prop := slateRunsRow.holds Try.pinned (OpenSpec.ofChange slateRunsWrong)

/-- 'quietuslaw13.SlatePlays': WHATEVER THE INPUT: true; the input reads as it did. -/
def slatePlaysSpec : ChangeSpec := { name := "slatePlays", fn := fun _ => fun
  | [d] => { results := [.lit (.bool true)], args := [d] }
  | _ => none }
def slatePlaysRow : OpenClaim := { program := "ytalliccdgpfkaaa", sum := "4a52397763cc5cac7a0196920e84360e168c69fa253e87d4c1f847142229c90a", func := "quietus/quietuslaw13.SlatePlays", spec := "slatePlays", inPlace := ["internal/abi.NoEscape", "internal/bytealg.MakeNoZero"], unfollowed := true, recurses := true, apart := false }
def SlatePlaysSaid : Prop := slatePlaysRow.holds Try.pinned (OpenSpec.ofChange slatePlaysSpec)

/-- ITS FALSE NEIGHBOUR: 'it returns false'. Refute it at one input. -/
def slatePlaysWrong : ChangeSpec := { name := "slatePlays", fn := fun _ => fun
  | [d] => { results := [.lit (.bool false)], args := [d] }
  | _ => none }
def SlatePlaysWrongFalsely : Prop := slatePlaysRow.holds Try.pinned (OpenSpec.ofChange slatePlaysWrong)

/-- 'quietuslaw13.SlateReads': WHATEVER THE INPUT: true; the input reads as it did. -/
def slateReadsSpec : ChangeSpec := { name := "slateReads", fn := fun _ => fun
  | [d1, d2, d3] => { results := [.lit (.bool true)], args := [d1, d2, d3] }
  | _ => none }
def slateReadsRow : OpenClaim := { program := "ytalliccdgpfkaaa", sum := "4a52397763cc5cac7a0196920e84360e168c69fa253e87d4c1f847142229c90a", func := "quietus/quietuslaw13.SlateReads", spec := "slateReads", inPlace := ["internal/abi.NoEscape", "internal/bytealg.MakeNoZero"], unfollowed := true, recurses := true, apart := false }
def SlateReadsSaid : Prop := slateReadsRow.holds Try.pinned (OpenSpec.ofChange slateReadsSpec)

/-- ITS FALSE NEIGHBOUR: 'it returns false'. Refute it at one input. -/
def slateReadsWrong : ChangeSpec := { name := "slateReads", fn := fun _ => fun
  | [d1, d2, d3] => { results := [.lit (.bool false)], args := [d1, d2, d3] }
  | _ => none }
def SlateReadsWrongFalsely : Prop := slateReadsRow.holds Try.pinned (OpenSpec.ofChange slateReadsWrong)

/-- 'quietuslaw13.SlateBack': WHATEVER THE INPUT: true; the input reads as it did. -/
def slateBackSpec : ChangeSpec := { name := "slateBack", fn := fun _ => fun
  | [d1, d2] => { results := [.lit (.bool true)], args := [d1, d2] }
  | _ => none }
def slateBackRow : OpenClaim := { program := "ytalliccdgpfkaaa", sum := "4a52397763cc5cac7a0196920e84360e168c69fa253e87d4c1f847142229c90a", func := "quietus/quietuslaw13.SlateBack", spec := "slateBack", inPlace := ["internal/abi.NoEscape", "internal/bytealg.MakeNoZero"], unfollowed := true, recurses := true, apart := false }
def SlateBackSaid : Prop := slateBackRow.holds Try.pinned (OpenSpec.ofChange slateBackSpec)

/-- ITS FALSE NEIGHBOUR: 'it returns false'. Refute it at one input. -/
def slateBackWrong : ChangeSpec := { name := "slateBack", fn := fun _ => fun
  | [d1, d2] => { results := [.lit (.bool false)], args := [d1, d2] }
  | _ => none }
def SlateBackWrongFalsely : Prop := slateBackRow.holds Try.pinned (OpenSpec.ofChange slateBackWrong)

/-- 'quietuslaw13.SlateCopies': WHATEVER THE INPUT: true; the input reads as it did. -/
def slateCopiesSpec : ChangeSpec := { name := "slateCopies", fn := fun _ => fun
  | [d1, d2, d3] => { results := [.lit (.bool true)], args := [d1, d2, d3] }
  | _ => none }
def slateCopiesRow : OpenClaim := { program := "ytalliccdgpfkaaa", sum := "4a52397763cc5cac7a0196920e84360e168c69fa253e87d4c1f847142229c90a", func := "quietus/quietuslaw13.SlateCopies", spec := "slateCopies", inPlace := ["internal/abi.NoEscape", "internal/bytealg.MakeNoZero"], unfollowed := true, recurses := true, apart := false }
def SlateCopiesSaid : Prop := slateCopiesRow.holds Try.pinned (OpenSpec.ofChange slateCopiesSpec)

/-- ITS FALSE NEIGHBOUR: 'it returns false'. Refute it at one input. -/
def slateCopiesWrong : ChangeSpec := { name := "slateCopies", fn := fun _ => fun
  | [d1, d2, d3] => { results := [.lit (.bool false)], args := [d1, d2, d3] }
  | _ => none }
def SlateCopiesWrongFalsely : Prop := slateCopiesRow.holds Try.pinned (OpenSpec.ofChange slateCopiesWrong)

/- THE SECOND FORM. 'bulk': how many values and letters a reading holds, each counted each time it is reached (what is shared counts as often as it is met; a slice's spare places count too). A statement '..UptoSaid' is the law's where the arguments, and the package variables that the reading takes, are together of bulk at most 1048576: NARROWER than '..Said'. Prove '..Said' where nothing that the law and all that it calls make is longer than what came in: it says more and counts as full. Else prove '..UptoSaid'. A law counts once. -/
mutual
def uptoBulk {H : Type} : DataW H → Nat
  | .lit (.string bytes) => bytes.length + 1
  | .lit _ => 1
  | .nil => 1
  | .ptr d => uptoBulk d + 1
  | .slice elems spare => uptoBulkAll elems + uptoBulkAll spare + 1
  | .agg parts => uptoBulkAll parts + 1
  | .iface _ d => uptoBulk d + 1
  | .map entries => uptoBulkEntries entries + 1
  | .held _ => 1
def uptoBulkAll {H : Type} : List (DataW H) → Nat
  | [] => 0
  | d :: r => uptoBulk d + uptoBulkAll r
def uptoBulkEntries {H : Type} : List (Lit × DataW H) → Nat
  | [] => 0
  | x :: r => uptoBulkEntry x + uptoBulkEntries r
def uptoBulkEntry {H : Type} : Lit × DataW H → Nat
  | (.string bytes, d) => bytes.length + uptoBulk d + 1
  | (_, d) => uptoBulk d + 1
 end
def uptoSmall : (H : Type) → List (DataW H) → Bool := fun _ ds => decide (uptoBulkAll ds ≤ 1048576)
def OpenSpec.upto (s : _root_.Go.ChangeSpec) : _root_.Go.OpenSpec := { _root_.Go.OpenSpec.ofChange s with cond := some uptoSmall }

/-- 'quietuslaw13.SlateRuns', WHERE WHAT IT READS IS OF BULK AT MOST 1048576: true; the input reads as it did. -/
def slateRunsUptoRow : OpenClaim := { program := "ytalliccdgpfkaaa", sum := "4a52397763cc5cac7a0196920e84360e168c69fa253e87d4c1f847142229c90a", func := "quietus/quietuslaw13.SlateRuns", spec := "slateRuns", inPlace := ["internal/abi.NoEscape", "internal/bytealg.MakeNoZero"], unfollowed := true, recurses := true, apart := false, narrowed := true }
def SlateRunsUptoSaid : Prop := slateRunsUptoRow.holds Try.pinned (OpenSpec.upto slateRunsSpec)

/-- 'quietuslaw13.SlatePlays', WHERE WHAT IT READS IS OF BULK AT MOST 1048576: true; the input reads as it did. -/
def slatePlaysUptoRow : OpenClaim := { program := "ytalliccdgpfkaaa", sum := "4a52397763cc5cac7a0196920e84360e168c69fa253e87d4c1f847142229c90a", func := "quietus/quietuslaw13.SlatePlays", spec := "slatePlays", inPlace := ["internal/abi.NoEscape", "internal/bytealg.MakeNoZero"], unfollowed := true, recurses := true, apart := false, narrowed := true }
def SlatePlaysUptoSaid : Prop := slatePlaysUptoRow.holds Try.pinned (OpenSpec.upto slatePlaysSpec)

/-- 'quietuslaw13.SlateReads', WHERE WHAT IT READS IS OF BULK AT MOST 1048576: true; the input reads as it did. -/
def slateReadsUptoRow : OpenClaim := { program := "ytalliccdgpfkaaa", sum := "4a52397763cc5cac7a0196920e84360e168c69fa253e87d4c1f847142229c90a", func := "quietus/quietuslaw13.SlateReads", spec := "slateReads", inPlace := ["internal/abi.NoEscape", "internal/bytealg.MakeNoZero"], unfollowed := true, recurses := true, apart := false, narrowed := true }
def SlateReadsUptoSaid : Prop := slateReadsUptoRow.holds Try.pinned (OpenSpec.upto slateReadsSpec)

/-- 'quietuslaw13.SlateBack', WHERE WHAT IT READS IS OF BULK AT MOST 1048576: true; the input reads as it did. -/
def slateBackUptoRow : OpenClaim := { program := "ytalliccdgpfkaaa", sum := "4a52397763cc5cac7a0196920e84360e168c69fa253e87d4c1f847142229c90a", func := "quietus/quietuslaw13.SlateBack", spec := "slateBack", inPlace := ["internal/abi.NoEscape", "internal/bytealg.MakeNoZero"], unfollowed := true, recurses := true, apart := false, narrowed := true }
def SlateBackUptoSaid : Prop := slateBackUptoRow.holds Try.pinned (OpenSpec.upto slateBackSpec)

/-- 'quietuslaw13.SlateCopies', WHERE WHAT IT READS IS OF BULK AT MOST 1048576: true; the input reads as it did. -/
def slateCopiesUptoRow : OpenClaim := { program := "ytalliccdgpfkaaa", sum := "4a52397763cc5cac7a0196920e84360e168c69fa253e87d4c1f847142229c90a", func := "quietus/quietuslaw13.SlateCopies", spec := "slateCopies", inPlace := ["internal/abi.NoEscape", "internal/bytealg.MakeNoZero"], unfollowed := true, recurses := true, apart := false, narrowed := true }
def SlateCopiesUptoSaid : Prop := slateCopiesUptoRow.holds Try.pinned (OpenSpec.upto slateCopiesSpec)

end Rows
end Go.Proofs.Ytalliccdgpfkaaa
