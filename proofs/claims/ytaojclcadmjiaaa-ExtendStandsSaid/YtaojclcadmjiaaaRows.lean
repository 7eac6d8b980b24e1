/-
  No cell of these rows narrows 'for every input' (looked for: loops, veiled, ifaces, maps, wideKeys, modest, calm, conditions, laid).
  DERIVED. THE GIVEN ROWS OF THIS SEAT. 3 by the template 'for every input the law returns true; each argument reads behind the call as it read before'; 0 by the template 'total and deterministic' (their statements: YtaojclcadmjiaaaTotals.lean).
  GIVEN WITH THE SEED: the statements are not yours to turn. If you find one false, say at which input.
  Laid BY PROGRAM, IN A SANDBOX (cutbox-rows.mjs): the forced cells as the released guide's own fill.sh prints them over the translation 587d4b3c907b5331… (all of the seat's roots in one cut). By AI agents, Wed Nov 11 2026. No macro, syntax, notation, axiom, sorry.
-/
import Derived.Test.YtaojclcadmjiaaaChecked
import GoSem.Claim
import GoSem.ClaimJoined
import GoSem.ClaimMapViews
import Derived.JoinedTies
import Derived.KernelRfl
namespace Go.Proofs.Ytaojclcadmjiaaa
/- THE CELL 'sum', in the pinned program and in every row, IS THE sha256 OF THE DUMP (.gsa) THAT YtaojclcadmjiaaaProg.lean LOADS. Nothing in Lean hashes anything: it is a label: what it is worth is what the hold of that sum in a sandbox is worth. -/
noncomputable def Try.pinned : Pinned := { name := "ytaojclcadmjiaaa", sum := "587d4b3c907b5331f6456f2cd2c2b39bc1ff7d5a3b5c5bdd605b5ffb5718e74c", checked := Try.checked }
namespace Rows
def none {H : Type} : Left H := { results := [], args := [] }

/-- 'quietuslaw24.ExtendRuns': WHATEVER THE INPUT: true; the input reads as it did. -/
def extendRunsSpec : ChangeSpec := { name := "extendRuns", fn := fun _ => fun
  | [] => { results := [.lit (.bool true)], args := [] }
  | _ => none }
def extendRunsRow : OpenClaim := { program := "ytaojclcadmjiaaa", sum := "587d4b3c907b5331f6456f2cd2c2b39bc1ff7d5a3b5c5bdd605b5ffb5718e74c", func := "quietus/quietuslaw24.ExtendRuns", spec := "extendRuns", apart := false }
def ExtendRunsSaid : Prop := extendRunsRow.holds Try.pinned (OpenSpec.ofChange extendRunsSpec)

/-- ITS FALSE NEIGHBOUR: 'it returns false'. Refute it at one input. -/
def extendRunsWrong : ChangeSpec := { name := "extendRuns", fn := fun _ => fun
  | [] => { results := [.lit (.bool false)], args := [] }
  | _ => none }
def ExtendRunsWrongFalsely : Prop := extendRunsRow.holds Try.pinned (OpenSpec.ofChange extendRunsWrong)

/-- 'quietuslaw24.ExtendPlays': WHATEVER THE INPUT: true; the input reads as it did. -/
def extendPlaysSpec : ChangeSpec := { name := "extendPlays", fn := fun _ => fun
  | [d1, d2, d3, d4, d5] => { results := [.lit (.bool true)], args := [d1, d2, d3, d4, d5] }
  | _ => none }
def extendPlaysRow : OpenClaim := { program := "ytaojclcadmjiaaa", sum := "587d4b3c907b5331f6456f2cd2c2b39bc1ff7d5a3b5c5bdd605b5ffb5718e74c", func := "quietus/quietuslaw24.ExtendPlays", spec := "extendPlays", apart := false }
def ExtendPlaysSaid : Prop := extendPlaysRow.holds Try.pinned (OpenSpec.ofChange extendPlaysSpec)

/-- ITS FALSE NEIGHBOUR: 'it returns false'. Refute it at one input. -/
def extendPlaysWrong : ChangeSpec := { name := "extendPlays", fn := fun _ => fun
  | [d1, d2, d3, d4, d5] => { results := [.lit (.bool false)], args := [d1, d2, d3, d4, d5] }
  | _ => none }
def ExtendPlaysWrongFalsely : Prop := extendPlaysRow.holds Try.pinned (OpenSpec.ofChange extendPlaysWrong)

/-- 'quietuslaw24.ExtendStands': WHATEVER THE INPUT: true; the input reads as it did. -/
def extendStandsSpec : ChangeSpec := { name := "extendStands", fn := fun _ => fun
  | [d1, d2, d3, d4, d5] => { results := [.lit (.bool true)], args := [d1, d2, d3, d4, d5] }
  | _ => none }
def extendStandsRow : OpenClaim := { program := "ytaojclcadmjiaaa", sum := "587d4b3c907b5331f6456f2cd2c2b39bc1ff7d5a3b5c5bdd605b5ffb5718e74c", func := "quietus/quietuslaw24.ExtendStands", spec := "extendStands", apart := false }
def ExtendStandsSaid : Prop := extendStandsRow.holds Try.pinned (OpenSpec.ofChange extendStandsSpec)

/-- ITS FALSE NEIGHBOUR: 'it returns false'. Refute it at one input. -/
def extendStandsWrong : ChangeSpec := { name := "extendStands", fn := fun _ => fun
  | [d1, d2, d3, d4, d5] => { results := [.lit (.bool false)], args := [d1, d2, d3, d4, d5] }
  | _ => none }
def ExtendStandsWrongFalsely : Prop := extendStandsRow.holds Try.pinned (OpenSpec.ofChange extendStandsWrong)

/- THE SECOND FORM. 'bulk': how many values and letters a reading holds, each counted each time it is reached (what is shared counts as often as it is met; a slice's spare places count too). A statement '..UptoSaid' is the law's where the arguments, and the package variables that the reading takes, are together of bulk at most 1048576: NARROWER than '..Said'. Prove '..Said' where nothing that the law and all that it calls make is longer than what came in: it says more and counts as full. Else prove '..UptoSaid'. A law counts once. -/
mutual
def uptoBulk {H : Type} : DataW H → Nat
  | .lit (.string bytes) => bytes.length + 1
  | .lit _ => 1
  | .nil => 1
  | .ptr d => uptoBulk d + 1
  | .slice elems spare => uptoBulkAll elems + uptoBulkAll spare + 1
  | .agg parts => uptoBulkAll parts + 1
  | .iface _ d => uptoBulk d + 1
  | .map entries => uptoBulkEntries entries + 1
  | .held _ => 1
def uptoBulkAll {H : Type} : List (DataW H) → Nat
  | [] => 0
  | d :: r => uptoBulk d + uptoBulkAll r
def uptoBulkEntries {H : Type} : List (Lit × DataW H) → Nat
  | [] => 0
  | x :: r => uptoBulkEntry x + uptoBulkEntries r
def uptoBulkEntry {H : Type} : Lit × DataW H → Nat
  | (.string bytes, d) => bytes.length + uptoBulk d + 1
  | (_, d) => uptoBulk d + 1
 end
def uptoSmall : (H : Type) → List (DataW H) → Bool := fun _ ds => decide (uptoBulkAll ds ≤ 1048576)
def OpenSpec.upto (s : _root_.Go.ChangeSpec) : _root_.Go.OpenSpec := { _root_.Go.OpenSpec.ofChange s with cond := some uptoSmall }

/-- 'quietuslaw24.ExtendRuns', WHERE WHAT IT READS IS OF BULK AT MOST 1048576: true; the input reads as it did. -/
def extendRunsUptoRow : OpenClaim := { program := "ytaojclcadmjiaaa", sum := "587d4b3c907b5331f6456f2cd2c2b39bc1ff7d5a3b5c5bdd605b5ffb5718e74c", func := "quietus/quietuslaw24.ExtendRuns", spec := "extendRuns", apart := false, narrowed := true }
def ExtendRunsUptoSaid : Prop := extendRunsUptoRow.holds Try.pinned (OpenSpec.upto extendRunsSpec)

/-- 'quietuslaw24.ExtendPlays', WHERE WHAT IT READS IS OF BULK AT MOST 1048576: true; the input reads as it did. -/
def extendPlaysUptoRow : OpenClaim := { program := "ytaojclcadmjiaaa", sum := "587d4b3c907b5331f6456f2cd2c2b39bc1ff7d5a3b5c5bdd605b5ffb5718e74c", func := "quietus/quietuslaw24.ExtendPlays", spec := "extendPlays", apart := false, narrowed := true }
def ExtendPlaysUptoSaid : Prop := extendPlaysUptoRow.holds Try.pinned (OpenSpec.upto extendPlaysSpec)

/-- 'quietuslaw24.ExtendStands', WHERE WHAT IT READS IS OF BULK AT MOST 1048576: true; the input reads as it did. -/
def extendStandsUptoRow : OpenClaim := { program := "ytaojclcadmjiaaa", sum := "587d4b3c907b5331f6456f2cd2c2b39bc1ff7d5a3b5c5bdd605b5ffb5718e74c", func := "quietus/quietuslaw24.ExtendStands", spec := "extendStands", apart := false, narrowed := true }
def ExtendStandsUptoSaid : Prop := extendStandsUptoRow.holds Try.pinned (OpenSpec.upto extendStandsSpec)

end Rows
end Go.Proofs.Ytaojclcadmjiaaa
