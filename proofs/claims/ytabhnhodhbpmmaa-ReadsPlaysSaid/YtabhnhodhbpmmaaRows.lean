/-
  No cell of these rows narrows 'for every input' (looked for: loops, veiled, ifaces, maps, wideKeys, modest, calm, conditions, laid).
  DERIVED. THE GIVEN ROWS OF THIS SEAT. 4 by the template 'for every input the law returns true; each argument reads behind the call as it read before'; 0 by the template 'total and deterministic' (their statements: YtabhnhodhbpmmaaTotals.lean).
  GIVEN WITH THE SEED: the statements are not yours to turn. If you find one false, say at which input.
  Laid BY PROGRAM, IN A SANDBOX (cutbox-rows.mjs): the forced cells as the released guide's own fill.sh prints them over the translation 8377adbbacd2d55e… (all of the seat's roots in one cut). By AI agents, Wed Nov 11 2026. No macro, syntax, notation, axiom, sorry.
-/
import Derived.Test.YtabhnhodhbpmmaaChecked
import GoSem.Claim
import GoSem.ClaimJoined
import GoSem.ClaimMapViews
import Derived.JoinedTies
import Derived.KernelRfl
namespace Go.Proofs.Ytabhnhodhbpmmaa
/- THE CELL 'sum', in the pinned program and in every row, IS THE sha256 OF THE DUMP (.gsa) THAT YtabhnhodhbpmmaaProg.lean LOADS. Nothing in Lean hashes anything: it is a label: what it is worth is what the hold of that sum in a sandbox is worth. -/
noncomputable def Try.pinned : Pinned := { name := "ytabhnhodhbpmmaa", sum := "8377adbbacd2d55e9bca98cea19221975ad4aef7088b63ff2ff9e3b84e789387", checked := Try.checked }
namespace Rows
def none {H : Type} : Left H := { results := [], args := [] }

/-- 'quietuslaw7.ReadsRuns': WHATEVER THE INPUT: true; the input reads as it did. -/
def readsRunsSpec : ChangeSpec := { name := "readsRuns", fn := fun _ => fun
  | [] => { results := [.lit (.bool true)], args := [] }
  | _ => none }
def readsRunsRow : OpenClaim := { program := "ytabhnhodhbpmmaa", sum := "8377adbbacd2d55e9bca98cea19221975ad4aef7088b63ff2ff9e3b84e789387", func := "quietus/quietuslaw7.ReadsRuns", spec := "readsRuns", apart := false }
def ReadsRunsSaid : Prop := readsRunsRow.holds Try.pinned (OpenSpec.ofChange readsRunsSpec)

/-- ITS FALSE NEIGHBOUR: 'it returns false'. Refute it at one input. -/
def readsRunsWrong : ChangeSpec := { name := "readsRuns", fn := fun _ => fun
  | [] => { results := [.lit (.bool false)], args := [] }
  | _ => none }
def ReadsRunsWrongFalsely : Prop := readsRunsRow.holds Try.pinned (OpenSpec.ofChange readsRunsWrong)

/-- 'quietuslaw7.ReadsPlays': WHATEVER THE INPUT: true; the input reads as it did. -/
def readsPlaysSpec : ChangeSpec := { name := "readsPlays", fn := fun _ => fun
  | [d1, d2, d3, d4] => { results := [.lit (.bool true)], args := [d1, d2, d3, d4] }
  | _ => none }
def readsPlaysRow : OpenClaim := { program := "ytabhnhodhbpmmaa", sum := "8377adbbacd2d55e9bca98cea19221975ad4aef7088b63ff2ff9e3b84e789387", func := "quietus/quietuslaw7.ReadsPlays", spec := "readsPlays", apart := false }
def ReadsPlaysSaid : Prop := readsPlaysRow.holds Try.pinned (OpenSpec.ofChange readsPlaysSpec)

/-- ITS FALSE NEIGHBOUR: 'it returns false'. Refute it at one input. -/
def readsPlaysWrong : ChangeSpec := { name := "readsPlays", fn := fun _ => fun
  | [d1, d2, d3, d4] => { results := [.lit (.bool false)], args := [d1, d2, d3, d4] }
  | _ => none }
def ReadsPlaysWrongFalsely : Prop := readsPlaysRow.holds Try.pinned (OpenSpec.ofChange readsPlaysWrong)

/-- 'quietuslaw7.ReadsFull': WHATEVER THE INPUT: true; the input reads as it did. -/
def readsFullSpec : ChangeSpec := { name := "readsFull", fn := fun _ => fun
  | [d1, d2] => { results := [.lit (.bool true)], args := [d1, d2] }
  | _ => none }
def readsFullRow : OpenClaim := { program := "ytabhnhodhbpmmaa", sum := "8377adbbacd2d55e9bca98cea19221975ad4aef7088b63ff2ff9e3b84e789387", func := "quietus/quietuslaw7.ReadsFull", spec := "readsFull", apart := false }
def ReadsFullSaid : Prop := readsFullRow.holds Try.pinned (OpenSpec.ofChange readsFullSpec)

/-- ITS FALSE NEIGHBOUR: 'it returns false'. Refute it at one input. -/
def readsFullWrong : ChangeSpec := { name := "readsFull", fn := fun _ => fun
  | [d1, d2] => { results := [.lit (.bool false)], args := [d1, d2] }
  | _ => none }
def ReadsFullWrongFalsely : Prop := readsFullRow.holds Try.pinned (OpenSpec.ofChange readsFullWrong)

/-- 'quietuslaw7.ReadsStands': WHATEVER THE INPUT: true; the input reads as it did. -/
def readsStandsSpec : ChangeSpec := { name := "readsStands", fn := fun _ => fun
  | [d1, d2, d3, d4] => { results := [.lit (.bool true)], args := [d1, d2, d3, d4] }
  | _ => none }
def readsStandsRow : OpenClaim := { program := "ytabhnhodhbpmmaa", sum := "8377adbbacd2d55e9bca98cea19221975ad4aef7088b63ff2ff9e3b84e789387", func := "quietus/quietuslaw7.ReadsStands", spec := "readsStands", apart := false }
def ReadsStandsSaid : Prop := readsStandsRow.holds Try.pinned (OpenSpec.ofChange readsStandsSpec)

/-- ITS FALSE NEIGHBOUR: 'it returns false'. Refute it at one input. -/
def readsStandsWrong : ChangeSpec := { name := "readsStands", fn := fun _ => fun
  | [d1, d2, d3, d4] => { results := [.lit (.bool false)], args := [d1, d2, d3, d4] }
  | _ => none }
def ReadsStandsWrongFalsely : Prop := readsStandsRow.holds Try.pinned (OpenSpec.ofChange readsStandsWrong)

/- THE SECOND FORM. 'bulk': how many values and letters a reading holds, each counted each time it is reached (what is shared counts as often as it is met; a slice's spare places count too). A statement '..UptoSaid' is the law's where the arguments, and the package variables that the reading takes, are together of bulk at most 1048576: NARROWER than '..Said'. Prove '..Said' where nothing that the law and all that it calls make is longer than what came in: it says more and counts as full. Else prove '..UptoSaid'. A law counts once. -/
mutual
def uptoBulk {H : Type} : DataW H → Nat
  | .lit (.string bytes) => bytes.length + 1
  | .lit _ => 1
  | .nil => 1
  | .ptr d => uptoBulk d + 1
  | .slice elems spare => uptoBulkAll elems + uptoBulkAll spare + 1
  | .agg parts => uptoBulkAll parts + 1
  | .iface _ d => uptoBulk d + 1
  | .map entries => uptoBulkEntries entries + 1
  | .held _ => 1
def uptoBulkAll {H : Type} : List (DataW H) → Nat
  | [] => 0
  | d :: r => uptoBulk d + uptoBulkAll r
def uptoBulkEntries {H : Type} : List (Lit × DataW H) → Nat
  | [] => 0
  | x :: r => uptoBulkEntry x + uptoBulkEntries r
def uptoBulkEntry {H : Type} : Lit × DataW H → Nat
  | (.string bytes, d) => bytes.length + uptoBulk d + 1
  | (_, d) => uptoBulk d + 1
 end
def uptoSmall : (H : Type) → List (DataW H) → Bool := fun _ ds => decide (uptoBulkAll ds ≤ 1048576)
def OpenSpec.upto (s : _root_.Go.ChangeSpec) : _root_.Go.OpenSpec := { _root_.Go.OpenSpec.ofChange s with cond := some uptoSmall }

/-- 'quietuslaw7.ReadsRuns', WHERE WHAT IT READS IS OF BULK AT MOST 1048576: true; the input reads as it did. -/
def readsRunsUptoRow : OpenClaim := { program := "ytabhnhodhbpmmaa", sum := "8377adbbacd2d55e9bca98cea19221975ad4aef7088b63ff2ff9e3b84e789387", func := "quietus/quietuslaw7.ReadsRuns", spec := "readsRuns", apart := false, narrowed := true }
def ReadsRunsUptoSaid : Prop := readsRunsUptoRow.holds Try.pinned (OpenSpec.upto readsRunsSpec)

/-- 'quietuslaw7.ReadsPlays', WHERE WHAT IT READS IS OF BULK AT MOST 1048576: true; the input reads as it did. -/
def readsPlaysUptoRow : OpenClaim := { program := "ytabhnhodhbpmmaa", sum := "8377adbbacd2d55e9bca98cea19221975ad4aef7088b63ff2ff9e3b84e789387", func := "quietus/quietuslaw7.ReadsPlays", spec := "readsPlays", apart := false, narrowed := true }
def ReadsPlaysUptoSaid : Prop := readsPlaysUptoRow.holds Try.pinned (OpenSpec.upto readsPlaysSpec)

/-- 'quietuslaw7.ReadsFull', WHERE WHAT IT READS IS OF BULK AT MOST 1048576: true; the input reads as it did. -/
def readsFullUptoRow : OpenClaim := { program := "ytabhnhodhbpmmaa", sum := "8377adbbacd2d55e9bca98cea19221975ad4aef7088b63ff2ff9e3b84e789387", func := "quietus/quietuslaw7.ReadsFull", spec := "readsFull", apart := false, narrowed := true }
def ReadsFullUptoSaid : Prop := readsFullUptoRow.holds Try.pinned (OpenSpec.upto readsFullSpec)

/-- 'quietuslaw7.ReadsStands', WHERE WHAT IT READS IS OF BULK AT MOST 1048576: true; the input reads as it did. -/
def readsStandsUptoRow : OpenClaim := { program := "ytabhnhodhbpmmaa", sum := "8377adbbacd2d55e9bca98cea19221975ad4aef7088b63ff2ff9e3b84e789387", func := "quietus/quietuslaw7.ReadsStands", spec := "readsStands", apart := false, narrowed := true }
def ReadsStandsUptoSaid : Prop := readsStandsUptoRow.holds Try.pinned (OpenSpec.upto readsStandsSpec)

end Rows
end Go.Proofs.Ytabhnhodhbpmmaa
