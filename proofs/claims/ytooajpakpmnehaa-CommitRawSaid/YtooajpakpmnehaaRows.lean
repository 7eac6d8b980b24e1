/-
  No cell of these rows narrows 'for every input' (looked for: loops, veiled, ifaces, maps, wideKeys, modest, calm, conditions, laid).
  DERIVED. THE GIVEN ROWS OF THIS SEAT. 4 by the template 'for every input the law returns true; each argument reads behind the call as it read before'; 0 by the template 'total and deterministic' (their statements: YtooajpakpmnehaaTotals.lean).
  GIVEN WITH THE SEED: the statements are not yours to turn. If you find one false, say at which input.
  Laid BY PROGRAM, IN A SANDBOX (cutbox-rows.mjs): the forced cells as the released guide's own fill.sh prints them over the translation 31ee0af850ef8bb2… (all of the seat's roots in one cut). By AI agents, Wed Nov 11 2026. No macro, syntax, notation, axiom, sorry.
-/
import Derived.Test.YtooajpakpmnehaaChecked
import GoSem.Claim
import GoSem.ClaimJoined
import GoSem.ClaimMapViews
import Derived.JoinedTies
import Derived.KernelRfl
namespace Go.Proofs.Ytooajpakpmnehaa
/- THE CELL 'sum', in the pinned program and in every row, IS THE sha256 OF THE DUMP (.gsa) THAT YtooajpakpmnehaaProg.lean LOADS. Nothing in Lean hashes anything: it is a label: what it is worth is what the hold of that sum in a sandbox is worth. -/
noncomputable def Try.pinned : Pinned := { name := "ytooajpakpmnehaa", sum := "31ee0af850ef8bb2df922efe1179ec2c37c612144e439749749f522457825653", checked := Try.checked }
namespace Rows
def none {H : Type} : Left H := { results := [], args := [] }

/-- 'quietuslaw25.CommitRuns': WHATEVER THE INPUT: true; the input reads as it did. -/
def commitRunsSpec : ChangeSpec := { name := "commitRuns", fn := fun _ => fun
  | [] => { results := [.lit (.bool true)], args := [] }
  | _ => none }
def commitRunsRow : OpenClaim := { program := "ytooajpakpmnehaa", sum := "31ee0af850ef8bb2df922efe1179ec2c37c612144e439749749f522457825653", func := "quietus/quietuslaw25.CommitRuns", spec := "commitRuns", apart := false }
def CommitRunsSaid : Prop := commitRunsRow.holds Try.pinned (OpenSpec.ofChange commitRunsSpec)

/-- ITS FALSE NEIGHBOUR: 'it returns false'. Refute it at one input. -/
def commitRunsWrong : ChangeSpec := { name := "commitRuns", fn := fun _ => fun
  | [] => { results := [.lit (.bool false)], args := [] }
  | _ => none }
def CommitRunsWrongFalsely : Prop := commitRunsRow.holds Try.pinned (OpenSpec.ofChange commitRunsWrong)

/-- 'quietuslaw25.CommitRaw': WHATEVER THE INPUT: true; the input reads as it did. -/
def commitRawSpec : ChangeSpec := { name := "commitRaw", fn := fun _ => fun
  | [d1, d2] => { results := [.lit (.bool true)], args := [d1, d2] }
  | _ => none }
def commitRawRow : OpenClaim := { program := "ytooajpakpmnehaa", sum := "31ee0af850ef8bb2df922efe1179ec2c37c612144e439749749f522457825653", func := "quietus/quietuslaw25.CommitRaw", spec := "commitRaw", apart := false }
def CommitRawSaid : Prop := commitRawRow.holds Try.pinned (OpenSpec.ofChange commitRawSpec)

/-- ITS FALSE NEIGHBOUR: 'it returns false'. Refute it at one input. -/
def commitRawWrong : ChangeSpec := { name := "commitRaw", fn := fun _ => fun
  | [d1, d2] => { results := [.lit (.bool false)], args := [d1, d2] }
  | _ => none }
def CommitRawWrongFalsely : Prop := commitRawRow.holds Try.pinned (OpenSpec.ofChange commitRawWrong)

/-- 'quietuslaw25.CommitLets': WHATEVER THE INPUT: true; the input reads as it did. -/
def commitLetsSpec : ChangeSpec := { name := "commitLets", fn := fun _ => fun
  | [d1, d2, d3, d4, d5] => { results := [.lit (.bool true)], args := [d1, d2, d3, d4, d5] }
  | _ => none }
def commitLetsRow : OpenClaim := { program := "ytooajpakpmnehaa", sum := "31ee0af850ef8bb2df922efe1179ec2c37c612144e439749749f522457825653", func := "quietus/quietuslaw25.CommitLets", spec := "commitLets", apart := false }
def CommitLetsSaid : Prop := commitLetsRow.holds Try.pinned (OpenSpec.ofChange commitLetsSpec)

/-- ITS FALSE NEIGHBOUR: 'it returns false'. Refute it at one input. -/
def commitLetsWrong : ChangeSpec := { name := "commitLets", fn := fun _ => fun
  | [d1, d2, d3, d4, d5] => { results := [.lit (.bool false)], args := [d1, d2, d3, d4, d5] }
  | _ => none }
def CommitLetsWrongFalsely : Prop := commitLetsRow.holds Try.pinned (OpenSpec.ofChange commitLetsWrong)

/-- 'quietuslaw25.CommitClock': WHATEVER THE INPUT: true; the input reads as it did. -/
def commitClockSpec : ChangeSpec := { name := "commitClock", fn := fun _ => fun
  | [d1, d2] => { results := [.lit (.bool true)], args := [d1, d2] }
  | _ => none }
def commitClockRow : OpenClaim := { program := "ytooajpakpmnehaa", sum := "31ee0af850ef8bb2df922efe1179ec2c37c612144e439749749f522457825653", func := "quietus/quietuslaw25.CommitClock", spec := "commitClock", apart := false }
def CommitClockSaid : Prop := commitClockRow.holds Try.pinned (OpenSpec.ofChange commitClockSpec)

/-- ITS FALSE NEIGHBOUR: 'it returns false'. Refute it at one input. -/
def commitClockWrong : ChangeSpec := { name := "commitClock", fn := fun _ => fun
  | [d1, d2] => { results := [.lit (.bool false)], args := [d1, d2] }
  | _ => none }
def CommitClockWrongFalsely : Prop := commitClockRow.holds Try.pinned (OpenSpec.ofChange commitClockWrong)

/- THE SECOND FORM. 'bulk': how many values and letters a reading holds, each counted each time it is reached (what is shared counts as often as it is met; a slice's spare places count too). A statement '..UptoSaid' is the law's where the arguments, and the package variables that the reading takes, are together of bulk at most 1048576: NARROWER than '..Said'. Prove '..Said' where nothing that the law and all that it calls make is longer than what came in: it says more and counts as full. Else prove '..UptoSaid'. A law counts once. -/
mutual
def uptoBulk {H : Type} : DataW H → Nat
  | .lit (.string bytes) => bytes.length + 1
  | .lit _ => 1
  | .nil => 1
  | .ptr d => uptoBulk d + 1
  | .slice elems spare => uptoBulkAll elems + uptoBulkAll spare + 1
  | .agg parts => uptoBulkAll parts + 1
  | .iface _ d => uptoBulk d + 1
  | .map entries => uptoBulkEntries entries + 1
  | .held _ => 1
def uptoBulkAll {H : Type} : List (DataW H) → Nat
  | [] => 0
  | d :: r => uptoBulk d + uptoBulkAll r
def uptoBulkEntries {H : Type} : List (Lit × DataW H) → Nat
  | [] => 0
  | x :: r => uptoBulkEntry x + uptoBulkEntries r
def uptoBulkEntry {H : Type} : Lit × DataW H → Nat
  | (.string bytes, d) => bytes.length + uptoBulk d + 1
  | (_, d) => uptoBulk d + 1
 end
def uptoSmall : (H : Type) → List (DataW H) → Bool := fun _ ds => decide (uptoBulkAll ds ≤ 1048576)
def OpenSpec.upto (s : _root_.Go.ChangeSpec) : _root_.Go.OpenSpec := { _root_.Go.OpenSpec.ofChange s with cond := some uptoSmall }

/-- 'quietuslaw25.CommitRuns', WHERE WHAT IT READS IS OF BULK AT MOST 1048576: true; the input reads as it did. -/
def commitRunsUptoRow : OpenClaim := { program := "ytooajpakpmnehaa", sum := "31ee0af850ef8bb2df922efe1179ec2c37c612144e439749749f522457825653", func := "quietus/quietuslaw25.CommitRuns", spec := "commitRuns", apart := false, narrowed := true }
def CommitRunsUptoSaid : Prop := commitRunsUptoRow.holds Try.pinned (OpenSpec.upto commitRunsSpec)

/-- 'quietuslaw25.CommitRaw', WHERE WHAT IT READS IS OF BULK AT MOST 1048576: true; the input reads as it did. -/
def commitRawUptoRow : OpenClaim := { program := "ytooajpakpmnehaa", sum := "31ee0af850ef8bb2df922efe1179ec2c37c612144e439749749f522457825653", func := "quietus/quietuslaw25.CommitRaw", spec := "commitRaw", apart := false, narrowed := true }
def CommitRawUptoSaid : Prop := commitRawUptoRow.holds Try.pinned (OpenSpec.upto commitRawSpec)

/-- 'quietuslaw25.CommitLets', WHERE WHAT IT READS IS OF BULK AT MOST 1048576: true; the input reads as it did. -/
def commitLetsUptoRow : OpenClaim := { program := "ytooajpakpmnehaa", sum := "31ee0af850ef8bb2df922efe1179ec2c37c612144e439749749f522457825653", func := "quietus/quietuslaw25.CommitLets", spec := "commitLets", apart := false, narrowed := true }
def CommitLetsUptoSaid : Prop := commitLetsUptoRow.holds Try.pinned (OpenSpec.upto commitLetsSpec)

/-- 'quietuslaw25.CommitClock', WHERE WHAT IT READS IS OF BULK AT MOST 1048576: true; the input reads as it did. -/
def commitClockUptoRow : OpenClaim := { program := "ytooajpakpmnehaa", sum := "31ee0af850ef8bb2df922efe1179ec2c37c612144e439749749f522457825653", func := "quietus/quietuslaw25.CommitClock", spec := "commitClock", apart := false, narrowed := true }
def CommitClockUptoSaid : Prop := commitClockUptoRow.holds Try.pinned (OpenSpec.upto commitClockSpec)

end Rows
end Go.Proofs.Ytooajpakpmnehaa
