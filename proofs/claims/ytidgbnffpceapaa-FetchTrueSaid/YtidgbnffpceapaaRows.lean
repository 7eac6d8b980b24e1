/-
  No cell of these rows narrows 'for every input' (looked for: loops, veiled, ifaces, maps, wideKeys, modest, calm, conditions, laid).
  DERIVED. THE GIVEN ROWS OF THIS SEAT. 4 by the template 'for every input the law returns true; each argument reads behind the call as it read before'; 0 by the template 'total and deterministic' (their statements: YtidgbnffpceapaaTotals.lean).
  GIVEN WITH THE SEED: the statements are not yours to turn. If you find one false, say at which input.
  Laid BY PROGRAM, IN A SANDBOX (cutbox-rows.mjs): the forced cells as the released guide's own fill.sh prints them over the translation 2c94e88733e34cfa… (all of the seat's roots in one cut). By AI agents, Wed Nov 11 2026. No macro, syntax, notation, axiom, sorry.
-/
import Derived.Test.YtidgbnffpceapaaChecked
import GoSem.Claim
import GoSem.ClaimJoined
import GoSem.ClaimMapViews
import Derived.JoinedTies
import Derived.KernelRfl
namespace Go.Proofs.Ytidgbnffpceapaa
/- THE CELL 'sum', in the pinned program and in every row, IS THE sha256 OF THE DUMP (.gsa) THAT YtidgbnffpceapaaProg.lean LOADS. Nothing in Lean hashes anything: it is a label: what it is worth is what the hold of that sum in a sandbox is worth. -/
noncomputable def Try.pinned : Pinned := { name := "ytidgbnffpceapaa", sum := "2c94e88733e34cfa9a1e2dd85987a5ac9efbdc548ad8d69529b3e015754186d5", checked := Try.checked }
namespace Rows
def none {H : Type} : Left H := { results := [], args := [] }

/-- 'quietuslaw23.FetchRuns': WHATEVER THE INPUT: true; the input reads as it did. -/
def fetchRunsSpec : ChangeSpec := { name := "fetchRuns", fn := fun _ => fun
  | [] => { results := [.lit (.bool true)], args := [] }
  | _ => none }
def fetchRunsRow : OpenClaim := { program := "ytidgbnffpceapaa", sum := "2c94e88733e34cfa9a1e2dd85987a5ac9efbdc548ad8d69529b3e015754186d5", func := "quietus/quietuslaw23.FetchRuns", spec := "fetchRuns", apart := false }
def FetchRunsSaid : Prop := fetchRunsRow.holds Try.pinned (OpenSpec.ofChange fetchRunsSpec)

/-- ITS FALSE NEIGHBOUR: 'it returns false'. Refute it at one input. -/
def fetchRunsWrong : ChangeSpec := { name := "fetchRuns", fn := fun _ => fun
  | [] => { results := [.lit (.bool false)], args := [] }
  | _ => none }
def FetchRunsWrongFalsely : Prop := fetchRunsRow.holds Try.pinned (OpenSpec.ofChange fetchRunsWrong)

/-- 'quietuslaw23.FetchPlays': WHATEVER THE INPUT: true; the input reads as it did. -/
def fetchPlaysSpec : ChangeSpec := { name := "fetchPlays", fn := fun _ => fun
  | [d1, d2, d3, d4, d5, d6, d7] => { results := [.lit (.bool true)], args := [d1, d2, d3, d4, d5, d6, d7] }
  | _ => none }
def fetchPlaysRow : OpenClaim := { program := "ytidgbnffpceapaa", sum := "2c94e88733e34cfa9a1e2dd85987a5ac9efbdc548ad8d69529b3e015754186d5", func := "quietus/quietuslaw23.FetchPlays", spec := "fetchPlays", apart := false }
def FetchPlaysSaid : Prop := fetchPlaysRow.holds Try.pinned (OpenSpec.ofChange fetchPlaysSpec)

/-- ITS FALSE NEIGHBOUR: 'it returns false'. Refute it at one input. -/
def fetchPlaysWrong : ChangeSpec := { name := "fetchPlays", fn := fun _ => fun
  | [d1, d2, d3, d4, d5, d6, d7] => { results := [.lit (.bool false)], args := [d1, d2, d3, d4, d5, d6, d7] }
  | _ => none }
def FetchPlaysWrongFalsely : Prop := fetchPlaysRow.holds Try.pinned (OpenSpec.ofChange fetchPlaysWrong)

/-- 'quietuslaw23.FetchTrue': WHATEVER THE INPUT: true; the input reads as it did. -/
def fetchTrueSpec : ChangeSpec := { name := "fetchTrue", fn := fun _ => fun
  | [d1, d2, d3] => { results := [.lit (.bool true)], args := [d1, d2, d3] }
  | _ => none }
def fetchTrueRow : OpenClaim := { program := "ytidgbnffpceapaa", sum := "2c94e88733e34cfa9a1e2dd85987a5ac9efbdc548ad8d69529b3e015754186d5", func := "quietus/quietuslaw23.FetchTrue", spec := "fetchTrue", apart := false }
def FetchTrueSaid : Prop := fetchTrueRow.holds Try.pinned (OpenSpec.ofChange fetchTrueSpec)

/-- ITS FALSE NEIGHBOUR: 'it returns false'. Refute it at one input. -/
def fetchTrueWrong : ChangeSpec := { name := "fetchTrue", fn := fun _ => fun
  | [d1, d2, d3] => { results := [.lit (.bool false)], args := [d1, d2, d3] }
  | _ => none }
def FetchTrueWrongFalsely : Prop := fetchTrueRow.holds Try.pinned (OpenSpec.ofChange fetchTrueWrong)

/-- 'quietuslaw23.FetchWaits': WHATEVER THE INPUT: true; the input reads as it did. -/
def fetchWaitsSpec : ChangeSpec := { name := "fetchWaits", fn := fun _ => fun
  | [d1, d2, d3, d4] => { results := [.lit (.bool true)], args := [d1, d2, d3, d4] }
  | _ => none }
def fetchWaitsRow : OpenClaim := { program := "ytidgbnffpceapaa", sum := "2c94e88733e34cfa9a1e2dd85987a5ac9efbdc548ad8d69529b3e015754186d5", func := "quietus/quietuslaw23.FetchWaits", spec := "fetchWaits", apart := false }
def FetchWaitsSaid : Prop := fetchWaitsRow.holds Try.pinned (OpenSpec.ofChange fetchWaitsSpec)

/-- ITS FALSE NEIGHBOUR: 'it returns false'. Refute it at one input. -/
def fetchWaitsWrong : ChangeSpec := { name := "fetchWaits", fn := fun _ => fun
  | [d1, d2, d3, d4] => { results := [.lit (.bool false)], args := [d1, d2, d3, d4] }
  | _ => none }
def FetchWaitsWrongFalsely : Prop := fetchWaitsRow.holds Try.pinned (OpenSpec.ofChange fetchWaitsWrong)

/- THE SECOND FORM. 'bulk': how many values and letters a reading holds, each counted each time it is reached (what is shared counts as often as it is met; a slice's spare places count too). A statement '..UptoSaid' is the law's where the arguments, and the package variables that the reading takes, are together of bulk at most 1048576: NARROWER than '..Said'. Prove '..Said' where nothing that the law and all that it calls make is longer than what came in: it says more and counts as full. Else prove '..UptoSaid'. A law counts once. -/
mutual
def uptoBulk {H : Type} : DataW H → Nat
  | .lit (.string bytes) => bytes.length + 1
  | .lit _ => 1
  | .nil => 1
  | .ptr d => uptoBulk d + 1
  | .slice elems spare => uptoBulkAll elems + uptoBulkAll spare + 1
  | .agg parts => uptoBulkAll parts + 1
  | .iface _ d => uptoBulk d + 1
  | .map entries => uptoBulkEntries entries + 1
  | .held _ => 1
def uptoBulkAll {H : Type} : List (DataW H) → Nat
  | [] => 0
  | d :: r => uptoBulk d + uptoBulkAll r
def uptoBulkEntries {H : Type} : List (Lit × DataW H) → Nat
  | [] => 0
  | x :: r => uptoBulkEntry x + uptoBulkEntries r
def uptoBulkEntry {H : Type} : Lit × DataW H → Nat
  | (.string bytes, d) => bytes.length + uptoBulk d + 1
  | (_, d) => uptoBulk d + 1
 end
def uptoSmall : (H : Type) → List (DataW H) → Bool := fun _ ds => decide (uptoBulkAll ds ≤ 1048576)
def OpenSpec.upto (s : _root_.Go.ChangeSpec) : _root_.Go.OpenSpec := { _root_.Go.OpenSpec.ofChange s with cond := some uptoSmall }

/-- 'quietuslaw23.FetchRuns', WHERE WHAT IT READS IS OF BULK AT MOST 1048576: true; the input reads as it did. -/
def fetchRunsUptoRow : OpenClaim := { program := "ytidgbnffpceapaa", sum := "2c94e88733e34cfa9a1e2dd85987a5ac9efbdc548ad8d69529b3e015754186d5", func := "quietus/quietuslaw23.FetchRuns", spec := "fetchRuns", apart := false, narrowed := true }
def FetchRunsUptoSaid : Prop := fetchRunsUptoRow.holds Try.pinned (OpenSpec.upto fetchRunsSpec)

/-- 'quietuslaw23.FetchPlays', WHERE WHAT IT READS IS OF BULK AT MOST 1048576: true; the input reads as it did. -/
def fetchPlaysUptoRow : OpenClaim := { program := "ytidgbnffpceapaa", sum := "2c94e88733e34cfa9a1e2dd85987a5ac9efbdc548ad8d69529b3e015754186d5", func := "quietus/quietuslaw23.FetchPlays", spec := "fetchPlays", apart := false, narrowed := true }
def FetchPlaysUptoSaid : Prop := fetchPlaysUptoRow.holds Try.pinned (OpenSpec.upto fetchPlaysSpec)

/-- 'quietuslaw23.FetchTrue', WHERE WHAT IT READS IS OF BULK AT MOST 1048576: true; the input reads as it did. -/
def fetchTrueUptoRow : OpenClaim := { program := "ytidgbnffpceapaa", sum := "2c94e88733e34cfa9a1e2dd85987a5ac9efbdc548ad8d69529b3e015754186d5", func := "quietus/quietuslaw23.FetchTrue", spec := "fetchTrue", apart := false, narrowed := true }
def FetchTrueUptoSaid : Prop := fetchTrueUptoRow.holds Try.pinned (OpenSpec.upto fetchTrueSpec)

/-- 'quietuslaw23.FetchWaits', WHERE WHAT IT READS IS OF BULK AT MOST 1048576: true; the input reads as it did. -/
def fetchWaitsUptoRow : OpenClaim := { program := "ytidgbnffpceapaa", sum := "2c94e88733e34cfa9a1e2dd85987a5ac9efbdc548ad8d69529b3e015754186d5", func := "quietus/quietuslaw23.FetchWaits", spec := "fetchWaits", apart := false, narrowed := true }
def FetchWaitsUptoSaid : Prop := fetchWaitsUptoRow.holds Try.pinned (OpenSpec.upto fetchWaitsSpec)

end Rows
end Go.Proofs.Ytidgbnffpceapaa
