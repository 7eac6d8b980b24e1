/-
  No cell of these rows narrows 'for every input' (looked for: loops, veiled, ifaces, maps, wideKeys, modest, calm, conditions, laid).
  DERIVED. THE GIVEN ROWS OF THIS SEAT. 3 by the template 'for every input the law returns true; each argument reads behind the call as it read before'; 0 by the template 'total and deterministic' (their statements: YtjjmgfclenbgfaaTotals.lean).
  GIVEN WITH THE SEED: the statements are not yours to turn. If you find one false, say at which input.
  Laid BY PROGRAM, IN A SANDBOX (cutbox-rows.mjs): the forced cells as the released guide's own fill.sh prints them over the translation ff2682a43996751c… (all of the seat's roots in one cut). By AI agents, Wed Nov 11 2026. No macro, syntax, notation, axiom, sorry.
-/
import Derived.Test.YtjjmgfclenbgfaaChecked
import GoSem.Claim
import GoSem.ClaimJoined
import GoSem.ClaimMapViews
import Derived.JoinedTies
import Derived.KernelRfl
namespace Go.Proofs.Ytjjmgfclenbgfaa
/- THE CELL 'sum', in the pinned program and in every row, IS THE sha256 OF THE DUMP (.gsa) THAT YtjjmgfclenbgfaaProg.lean LOADS. Nothing in Lean hashes anything: it is a label: what it is worth is what the hold of that sum in a sandbox is worth. -/
noncomputable def Try.pinned : Pinned := { name := "ytjjmgfclenbgfaa", sum := "ff2682a43996751cf872174b37b473fb72e93dcfc3f7010a27aab042613e9ce2", checked := Try.checked }
namespace Rows
def none {H : Type} : Left H := { results := [], args := [] }

/-- 'quietuslaw12.LimboRuns': WHATEVER THE INPUT: true; the input reads as it did. -/
def limboRunsSpec : ChangeSpec := { name := "limboRuns", fn := fun _ => fun
  | [] => { results := [.lit (.bool true)], args := [] }
  | _ => none }
def limboRunsRow : OpenClaim := { program := "ytjjmgfclenbgfaa", sum := "ff2682a43996751cf872174b37b473fb72e93dcfc3f7010a27aab042613e9ce2", func := "quietus/quietuslaw12.LimboRuns", spec := "limboRuns", apart := false }
def LimboRunsSaid : Prop := limboRunsRow.holds Try.pinned (OpenSpec.ofChange limboRunsSpec)

/-- ITS FALSE NEIGHBOUR: 'it returns false'. Refute it at one input. -/
def limboRunsWrong : ChangeSpec := { name := "limboRuns", fn := fun _ => fun
  | [] => { results := [.lit (.bool false)], args := [] }
  | _ => none }
def LimboRunsWrongFalsely : Prop := limboRunsRow.holds Try.pinned (OpenSpec.ofChange limboRunsWrong)

/-- 'quietuslaw12.LimboPlays': WHATEVER THE INPUT: true; the input reads as it did. -/
def limboPlaysSpec : ChangeSpec := { name := "limboPlays", fn := fun _ => fun
  | [d] => { results := [.lit (.bool true)], args := [d] }
  | _ => none }
def limboPlaysRow : OpenClaim := { program := "ytjjmgfclenbgfaa", sum := "ff2682a43996751cf872174b37b473fb72e93dcfc3f7010a27aab042613e9ce2", func := "quietus/quietuslaw12.LimboPlays", spec := "limboPlays", apart := false }
def LimboPlaysSaid : Prop := limboPlaysRow.holds Try.pinned (OpenSpec.ofChange limboPlaysSpec)

/-- ITS FALSE NEIGHBOUR: 'it returns false'. Refute it at one input. -/
def limboPlaysWrong : ChangeSpec := { name := "limboPlays", fn := fun _ => fun
  | [d] => { results := [.lit (.bool false)], args := [d] }
  | _ => none }
def LimboPlaysWrongFalsely : Prop := limboPlaysRow.holds Try.pinned (OpenSpec.ofChange limboPlaysWrong)

/-- 'quietuslaw12.LimboWaits': WHATEVER THE INPUT: true; the input reads as it did. -/
def limboWaitsSpec : ChangeSpec := { name := "limboWaits", fn := fun _ => fun
  | [d1, d2, d3] => { results := [.lit (.bool true)], args := [d1, d2, d3] }
  | _ => none }
def limboWaitsRow : OpenClaim := { program := "ytjjmgfclenbgfaa", sum := "ff2682a43996751cf872174b37b473fb72e93dcfc3f7010a27aab042613e9ce2", func := "quietus/quietuslaw12.LimboWaits", spec := "limboWaits", apart := false }
def LimboWaitsSaid : Prop := limboWaitsRow.holds Try.pinned (OpenSpec.ofChange limboWaitsSpec)

/-- ITS FALSE NEIGHBOUR: 'it returns false'. Refute it at one input. -/
def limboWaitsWrong : ChangeSpec := { name := "limboWaits", fn := fun _ => fun
  | [d1, d2, d3] => { results := [.lit (.bool false)], args := [d1, d2, d3] }
  | _ => none }
def LimboWaitsWrongFalsely : Prop := limboWaitsRow.holds Try.pinned (OpenSpec.ofChange limboWaitsWrong)

/- THE SECOND FORM. 'bulk': how many values and letters a reading holds, each counted each time it is reached (what is shared counts as often as it is met; a slice's spare places count too). A statement '..UptoSaid' is the law's where the arguments, and the package variables that the reading takes, are together of bulk at most 1048576: NARROWER than '..Said'. Prove '..Said' where nothing that the law and all that it calls make is longer than what came in: it says more and counts as full. Else prove '..UptoSaid'. A law counts once. -/
mutual
def uptoBulk {H : Type} : DataW H → Nat
  | .lit (.string bytes) => bytes.length + 1
  | .lit _ => 1
  | .nil => 1
  | .ptr d => uptoBulk d + 1
  | .slice elems spare => uptoBulkAll elems + uptoBulkAll spare + 1
  | .agg parts => uptoBulkAll parts + 1
  | .iface _ d => uptoBulk d + 1
  | .map entries => uptoBulkEntries entries + 1
  | .held _ => 1
def uptoBulkAll {H : Type} : List (DataW H) → Nat
  | [] => 0
  | d :: r => uptoBulk d + uptoBulkAll r
def uptoBulkEntries {H : Type} : List (Lit × DataW H) → Nat
  | [] => 0
  | x :: r => uptoBulkEntry x + uptoBulkEntries r
def uptoBulkEntry {H : Type} : Lit × DataW H → Nat
  | (.string bytes, d) => bytes.length + uptoBulk d + 1
  | (_, d) => uptoBulk d + 1
 end
def uptoSmall : (H : Type) → List (DataW H) → Bool := fun _ ds => decide (uptoBulkAll ds ≤ 1048576)
def OpenSpec.upto (s : _root_.Go.ChangeSpec) : _root_.Go.OpenSpec := { _root_.Go.OpenSpec.ofChange s with cond := some uptoSmall }

/-- 'quietuslaw12.LimboRuns', WHERE WHAT IT READS IS OF BULK AT MOST 1048576: true; the input reads as it did. -/
def limboRunsUptoRow : OpenClaim := { program := "ytjjmgfclenbgfaa", sum := "ff2682a43996751cf872174b37b473fb72e93dcfc3f7010a27aab042613e9ce2", func := "quietus/quietuslaw12.LimboRuns", spec := "limboRuns", apart := false, narrowed := true }
def LimboRunsUptoSaid : Prop := limboRunsUptoRow.holds Try.pinned (OpenSpec.upto limboRunsSpec)

/-- 'quietuslaw12.LimboPlays', WHERE WHAT IT READS IS OF BULK AT MOST 1048576: true; the input reads as it did. -/
def limboPlaysUptoRow : OpenClaim := { program := "ytjjmgfclenbgfaa", sum := "ff2682a43996751cf872174b37b473fb72e93dcfc3f7010a27aab042613e9ce2", func := "quietus/quietuslaw12.LimboPlays", spec := "limboPlays", apart := false, narrowed := true }
def LimboPlaysUptoSaid : Prop := limboPlaysUptoRow.holds Try.pinned (OpenSpec.upto limboPlaysSpec)

/-- 'quietuslaw12.LimboWaits', WHERE WHAT IT READS IS OF BULK AT MOST 1048576: true; the input reads as it did. -/
def limboWaitsUptoRow : OpenClaim := { program := "ytjjmgfclenbgfaa", sum := "ff2682a43996751cf872174b37b473fb72e93dcfc3f7010a27aab042613e9ce2", func := "quietus/quietuslaw12.LimboWaits", spec := "limboWaits", apart := false, narrowed := true }
def LimboWaitsUptoSaid : Prop := limboWaitsUptoRow.holds Try.pinned (OpenSpec.upto limboWaitsSpec)

end Rows
end Go.Proofs.Ytjjmgfclenbgfaa
