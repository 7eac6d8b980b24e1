/-
  No cell of these rows narrows 'for every input' (looked for: loops, veiled, ifaces, maps, wideKeys, modest, calm, conditions, laid).
  DERIVED. THE GIVEN ROWS OF THIS SEAT. 5 by the template 'for every input the law returns true; each argument reads behind the call as it read before'; 0 by the template 'total and deterministic' (their statements: YtphacbdmhbbilaaTotals.lean).
  GIVEN WITH THE SEED: the statements are not yours to turn. If you find one false, say at which input.
  Laid BY PROGRAM, IN A SANDBOX (cutbox-rows.mjs): the forced cells as the released guide's own fill.sh prints them over the translation b0bf995f3e970f92… (all of the seat's roots in one cut). By AI agents, Wed Nov 11 2026. No macro, syntax, notation, axiom, sorry.
-/
import Derived.Test.YtphacbdmhbbilaaChecked
import GoSem.Claim
import GoSem.ClaimJoined
import GoSem.ClaimMapViews
import Derived.JoinedTies
import Derived.KernelRfl
namespace Go.Proofs.Ytphacbdmhbbilaa
/- THE CELL 'sum', in the pinned program and in every row, IS THE sha256 OF THE DUMP (.gsa) THAT YtphacbdmhbbilaaProg.lean LOADS. Nothing in Lean hashes anything: it is a label: what it is worth is what the hold of that sum in a sandbox is worth. -/
noncomputable def Try.pinned : Pinned := { name := "ytphacbdmhbbilaa", sum := "b0bf995f3e970f92c243ab2a3b8c49681fbf9dc7fb6db8b6ebc7940bf5d346ee", checked := Try.checked }
namespace Rows
def none {H : Type} : Left H := { results := [], args := [] }

/-- 'quietuslaw10.ViewRuns': WHATEVER THE INPUT: true; the input reads as it did. -/
def viewRunsSpec : ChangeSpec := { name := "viewRuns", fn := fun _ => fun
  | [] => { results := [.lit (.bool true)], args := [] }
  | _ => none }
def viewRunsRow : OpenClaim := { program := "ytphacbdmhbbilaa", sum := "b0bf995f3e970f92c243ab2a3b8c49681fbf9dc7fb6db8b6ebc7940bf5d346ee", func := "quietus/quietuslaw10.ViewRuns", spec := "viewRuns", apart := false }
def ViewRunsSaid : Prop := viewRunsRow.holds Try.pinned (OpenSpec.ofChange viewRunsSpec)

/-- ITS FALSE NEIGHBOUR: 'it returns false'. Refute it at one input. -/
def viewRunsWrong : ChangeSpec := { name := "viewRuns", fn := fun _ => fun
  | [] => { results := [.lit (.bool false)], args := [] }
  | _ => none }
def ViewRunsWrongFalsely : Prop := viewRunsRow.holds Try.pinned (OpenSpec.ofChange viewRunsWrong)

/-- 'quietuslaw10.ViewPlays': WHATEVER THE INPUT: true; the input reads as it did. -/
def viewPlaysSpec : ChangeSpec := { name := "viewPlays", fn := fun _ => fun
  | [d1, d2, d3] => { results := [.lit (.bool true)], args := [d1, d2, d3] }
  | _ => none }
def viewPlaysRow : OpenClaim := { program := "ytphacbdmhbbilaa", sum := "b0bf995f3e970f92c243ab2a3b8c49681fbf9dc7fb6db8b6ebc7940bf5d346ee", func := "quietus/quietuslaw10.ViewPlays", spec := "viewPlays", apart := false }
def ViewPlaysSaid : Prop := viewPlaysRow.holds Try.pinned (OpenSpec.ofChange viewPlaysSpec)

/-- ITS FALSE NEIGHBOUR: 'it returns false'. Refute it at one input. -/
def viewPlaysWrong : ChangeSpec := { name := "viewPlays", fn := fun _ => fun
  | [d1, d2, d3] => { results := [.lit (.bool false)], args := [d1, d2, d3] }
  | _ => none }
def ViewPlaysWrongFalsely : Prop := viewPlaysRow.holds Try.pinned (OpenSpec.ofChange viewPlaysWrong)

/-- 'quietuslaw10.ViewWhole': WHATEVER THE INPUT: true; the input reads as it did. -/
def viewWholeSpec : ChangeSpec := { name := "viewWhole", fn := fun _ => fun
  | [d1, d2, d3] => { results := [.lit (.bool true)], args := [d1, d2, d3] }
  | _ => none }
def viewWholeRow : OpenClaim := { program := "ytphacbdmhbbilaa", sum := "b0bf995f3e970f92c243ab2a3b8c49681fbf9dc7fb6db8b6ebc7940bf5d346ee", func := "quietus/quietuslaw10.ViewWhole", spec := "viewWhole", apart := false }
def ViewWholeSaid : Prop := viewWholeRow.holds Try.pinned (OpenSpec.ofChange viewWholeSpec)

/-- ITS FALSE NEIGHBOUR: 'it returns false'. Refute it at one input. -/
def viewWholeWrong : ChangeSpec := { name := "viewWhole", fn := fun _ => fun
  | [d1, d2, d3] => { results := [.lit (.bool false)], args := [d1, d2, d3] }
  | _ => none }
def ViewWholeWrongFalsely : Prop := viewWholeRow.holds Try.pinned (OpenSpec.ofChange viewWholeWrong)

/-- 'quietuslaw10.ViewReads': WHATEVER THE INPUT: true; the input reads as it did. -/
def viewReadsSpec : ChangeSpec := { name := "viewReads", fn := fun _ => fun
  | [d1, d2, d3, d4, d5] => { results := [.lit (.bool true)], args := [d1, d2, d3, d4, d5] }
  | _ => none }
def viewReadsRow : OpenClaim := { program := "ytphacbdmhbbilaa", sum := "b0bf995f3e970f92c243ab2a3b8c49681fbf9dc7fb6db8b6ebc7940bf5d346ee", func := "quietus/quietuslaw10.ViewReads", spec := "viewReads", apart := false }
def ViewReadsSaid : Prop := viewReadsRow.holds Try.pinned (OpenSpec.ofChange viewReadsSpec)

/-- ITS FALSE NEIGHBOUR: 'it returns false'. Refute it at one input. -/
def viewReadsWrong : ChangeSpec := { name := "viewReads", fn := fun _ => fun
  | [d1, d2, d3, d4, d5] => { results := [.lit (.bool false)], args := [d1, d2, d3, d4, d5] }
  | _ => none }
def ViewReadsWrongFalsely : Prop := viewReadsRow.holds Try.pinned (OpenSpec.ofChange viewReadsWrong)

/-- 'quietuslaw10.ViewStale': WHATEVER THE INPUT: true; the input reads as it did. -/
def viewStaleSpec : ChangeSpec := { name := "viewStale", fn := fun _ => fun
  | [d1, d2, d3] => { results := [.lit (.bool true)], args := [d1, d2, d3] }
  | _ => none }
def viewStaleRow : OpenClaim := { program := "ytphacbdmhbbilaa", sum := "b0bf995f3e970f92c243ab2a3b8c49681fbf9dc7fb6db8b6ebc7940bf5d346ee", func := "quietus/quietuslaw10.ViewStale", spec := "viewStale", apart := false }
def ViewStaleSaid : Prop := viewStaleRow.holds Try.pinned (OpenSpec.ofChange viewStaleSpec)

/-- ITS FALSE NEIGHBOUR: 'it returns false'. Refute it at one input. -/
def viewStaleWrong : ChangeSpec := { name := "viewStale", fn := fun _ => fun
  | [d1, d2, d3] => { results := [.lit (.bool false)], args := [d1, d2, d3] }
  | _ => none }
def ViewStaleWrongFalsely : Prop := viewStaleRow.holds Try.pinned (OpenSpec.ofChange viewStaleWrong)

/- THE SECOND FORM. 'bulk': how many values and letters a reading holds, each counted each time it is reached (what is shared counts as often as it is met; a slice's spare places count too). A statement '..UptoSaid' is the law's where the arguments, and the package variables that the reading takes, are together of bulk at most 1048576: NARROWER than '..Said'. Prove '..Said' where nothing that the law and all that it calls make is longer than what came in: it says more and counts as full. Else prove '..UptoSaid'. A law counts once. -/
mutual
def uptoBulk {H : Type} : DataW H → Nat
  | .lit (.string bytes) => bytes.length + 1
  | .lit _ => 1
  | .nil => 1
  | .ptr d => uptoBulk d + 1
  | .slice elems spare => uptoBulkAll elems + uptoBulkAll spare + 1
  | .agg parts => uptoBulkAll parts + 1
  | .iface _ d => uptoBulk d + 1
  | .map entries => uptoBulkEntries entries + 1
  | .held _ => 1
def uptoBulkAll {H : Type} : List (DataW H) → Nat
  | [] => 0
  | d :: r => uptoBulk d + uptoBulkAll r
def uptoBulkEntries {H : Type} : List (Lit × DataW H) → Nat
  | [] => 0
  | x :: r => uptoBulkEntry x + uptoBulkEntries r
def uptoBulkEntry {H : Type} : Lit × DataW H → Nat
  | (.string bytes, d) => bytes.length + uptoBulk d + 1
  | (_, d) => uptoBulk d + 1
 end
def uptoSmall : (H : Type) → List (DataW H) → Bool := fun _ ds => decide (uptoBulkAll ds ≤ 1048576)
def OpenSpec.upto (s : _root_.Go.ChangeSpec) : _root_.Go.OpenSpec := { _root_.Go.OpenSpec.ofChange s with cond := some uptoSmall }

/-- 'quietuslaw10.ViewRuns', WHERE WHAT IT READS IS OF BULK AT MOST 1048576: true; the input reads as it did. -/
def viewRunsUptoRow : OpenClaim := { program := "ytphacbdmhbbilaa", sum := "b0bf995f3e970f92c243ab2a3b8c49681fbf9dc7fb6db8b6ebc7940bf5d346ee", func := "quietus/quietuslaw10.ViewRuns", spec := "viewRuns", apart := false, narrowed := true }
def ViewRunsUptoSaid : Prop := viewRunsUptoRow.holds Try.pinned (OpenSpec.upto viewRunsSpec)

/-- 'quietuslaw10.ViewPlays', WHERE WHAT IT READS IS OF BULK AT MOST 1048576: true; the input reads as it did. -/
def viewPlaysUptoRow : OpenClaim := { program := "ytphacbdmhbbilaa", sum := "b0bf995f3e970f92c243ab2a3b8c49681fbf9dc7fb6db8b6ebc7940bf5d346ee", func := "quietus/quietuslaw10.ViewPlays", spec := "viewPlays", apart := false, narrowed := true }
def ViewPlaysUptoSaid : Prop := viewPlaysUptoRow.holds Try.pinned (OpenSpec.upto viewPlaysSpec)

/-- 'quietuslaw10.ViewWhole', WHERE WHAT IT READS IS OF BULK AT MOST 1048576: true; the input reads as it did. -/
def viewWholeUptoRow : OpenClaim := { program := "ytphacbdmhbbilaa", sum := "b0bf995f3e970f92c243ab2a3b8c49681fbf9dc7fb6db8b6ebc7940bf5d346ee", func := "quietus/quietuslaw10.ViewWhole", spec := "viewWhole", apart := false, narrowed := true }
def ViewWholeUptoSaid : Prop := viewWholeUptoRow.holds Try.pinned (OpenSpec.upto viewWholeSpec)

/-- 'quietuslaw10.ViewReads', WHERE WHAT IT READS IS OF BULK AT MOST 1048576: true; the input reads as it did. -/
def viewReadsUptoRow : OpenClaim := { program := "ytphacbdmhbbilaa", sum := "b0bf995f3e970f92c243ab2a3b8c49681fbf9dc7fb6db8b6ebc7940bf5d346ee", func := "quietus/quietuslaw10.ViewReads", spec := "viewReads", apart := false, narrowed := true }
def ViewReadsUptoSaid : Prop := viewReadsUptoRow.holds Try.pinned (OpenSpec.upto viewReadsSpec)

/-- 'quietuslaw10.ViewStale', WHERE WHAT IT READS IS OF BULK AT MOST 1048576: true; the input reads as it did. -/
def viewStaleUptoRow : OpenClaim := { program := "ytphacbdmhbbilaa", sum := "b0bf995f3e970f92c243ab2a3b8c49681fbf9dc7fb6db8b6ebc7940bf5d346ee", func := "quietus/quietuslaw10.ViewStale", spec := "viewStale", apart := false, narrowed := true }
def ViewStaleUptoSaid : Prop := viewStaleUptoRow.holds Try.pinned (OpenSpec.upto viewStaleSpec)

end Rows
end Go.Proofs.Ytphacbdmhbbilaa
