/-
  No cell of these rows narrows 'for every input' (looked for: loops, veiled, ifaces, maps, wideKeys, modest, calm, conditions, laid).
  DERIVED. THE GIVEN ROWS OF THIS SEAT. 6 by the template 'for every input the law returns true; each argument reads behind the call as it read before'; 0 by the template 'total and deterministic' (their statements: YtfigockmbphnfaaTotals.lean).
  GIVEN WITH THE SEED: the statements are not yours to turn. If you find one false, say at which input.
  Laid BY PROGRAM, IN A SANDBOX (cutbox-rows.mjs): the forced cells as the released guide's own fill.sh prints them over the translation e61481a5b5117a6d… (all of the seat's roots in one cut). By AI agents, Wed Nov 11 2026. No macro, syntax, notation, axiom, sorry.
-/
import Derived.Test.YtfigockmbphnfaaChecked
import GoSem.Claim
import GoSem.ClaimJoined
import GoSem.ClaimMapViews
import Derived.JoinedTies
import Derived.KernelRfl
namespace Go.Proofs.Ytfigockmbphnfaa
/- THE CELL 'sum', in the pinned program and in every row, IS THE sha256 OF THE DUMP (.gsa) THAT YtfigockmbphnfaaProg.lean LOADS. Nothing in Lean hashes anything: it is a label: what it is worth is what the hold of that sum in a sandbox is worth. -/
noncomputable def Try.pinned : Pinned := { name := "ytfigockmbphnfaa", sum := "e61481a5b5117a6d519acecfbe19cb2f0748df7bfbf979fcef4801d2b91015d5", checked := Try.checked }
namespace Rows
def none {H : Type} : Left H := { results := [], args := [] }

/-- 'quietuslaw9.LevelsRuns': WHATEVER THE INPUT: true; the input reads as it did. -/
def levelsRunsSpec : ChangeSpec := { name := "levelsRuns", fn := fun _ => fun
  | [] => { results := [.lit (.bool true)], args := [] }
  | _ => none }
def levelsRunsRow : OpenClaim := { program := "ytfigockmbphnfaa", sum := "e61481a5b5117a6d519acecfbe19cb2f0748df7bfbf979fcef4801d2b91015d5", func := "quietus/quietuslaw9.LevelsRuns", spec := "levelsRuns", apart := false }
def LevelsRunsSaid : Prop := levelsRunsRow.holds Try.pinned (OpenSpec.ofChange levelsRunsSpec)

/-- ITS FALSE NEIGHBOUR: 'it returns false'. Refute it at one input. -/
def levelsRunsWrong : ChangeSpec := { name := "levelsRuns", fn := fun _ => fun
  | [] => { results := [.lit (.bool false)], args := [] }
  | _ => none }
def LevelsRunsWrongFalsely : Prop := levelsRunsRow.holds Try.pinned (OpenSpec.ofChange levelsRunsWrong)

/-- 'quietuslaw9.LevelsPlays': WHATEVER THE INPUT: true; the input reads as it did. -/
def levelsPlaysSpec : ChangeSpec := { name := "levelsPlays", fn := fun _ => fun
  | [d1, d2] => { results := [.lit (.bool true)], args := [d1, d2] }
  | _ => none }
def levelsPlaysRow : OpenClaim := { program := "ytfigockmbphnfaa", sum := "e61481a5b5117a6d519acecfbe19cb2f0748df7bfbf979fcef4801d2b91015d5", func := "quietus/quietuslaw9.LevelsPlays", spec := "levelsPlays", apart := false }
def LevelsPlaysSaid : Prop := levelsPlaysRow.holds Try.pinned (OpenSpec.ofChange levelsPlaysSpec)

/-- ITS FALSE NEIGHBOUR: 'it returns false'. Refute it at one input. -/
def levelsPlaysWrong : ChangeSpec := { name := "levelsPlays", fn := fun _ => fun
  | [d1, d2] => { results := [.lit (.bool false)], args := [d1, d2] }
  | _ => none }
def LevelsPlaysWrongFalsely : Prop := levelsPlaysRow.holds Try.pinned (OpenSpec.ofChange levelsPlaysWrong)

/-- 'quietuslaw9.LevelsDrop': WHATEVER THE INPUT: true; the input reads as it did. -/
def levelsDropSpec : ChangeSpec := { name := "levelsDrop", fn := fun _ => fun
  | [d1, d2, d3] => { results := [.lit (.bool true)], args := [d1, d2, d3] }
  | _ => none }
def levelsDropRow : OpenClaim := { program := "ytfigockmbphnfaa", sum := "e61481a5b5117a6d519acecfbe19cb2f0748df7bfbf979fcef4801d2b91015d5", func := "quietus/quietuslaw9.LevelsDrop", spec := "levelsDrop", apart := false }
def LevelsDropSaid : Prop := levelsDropRow.holds Try.pinned (OpenSpec.ofChange levelsDropSpec)

/-- ITS FALSE NEIGHBOUR: 'it returns false'. Refute it at one input. -/
def levelsDropWrong : ChangeSpec := { name := "levelsDrop", fn := fun _ => fun
  | [d1, d2, d3] => { results := [.lit (.bool false)], args := [d1, d2, d3] }
  | _ => none }
def LevelsDropWrongFalsely : Prop := levelsDropRow.holds Try.pinned (OpenSpec.ofChange levelsDropWrong)

/-- 'quietuslaw9.LevelsKeep': WHATEVER THE INPUT: true; the input reads as it did. -/
def levelsKeepSpec : ChangeSpec := { name := "levelsKeep", fn := fun _ => fun
  | [d1, d2, d3] => { results := [.lit (.bool true)], args := [d1, d2, d3] }
  | _ => none }
def levelsKeepRow : OpenClaim := { program := "ytfigockmbphnfaa", sum := "e61481a5b5117a6d519acecfbe19cb2f0748df7bfbf979fcef4801d2b91015d5", func := "quietus/quietuslaw9.LevelsKeep", spec := "levelsKeep", apart := false }
def LevelsKeepSaid : Prop := levelsKeepRow.holds Try.pinned (OpenSpec.ofChange levelsKeepSpec)

/-- ITS FALSE NEIGHBOUR: 'it returns false'. Refute it at one input. -/
def levelsKeepWrong : ChangeSpec := { name := "levelsKeep", fn := fun _ => fun
  | [d1, d2, d3] => { results := [.lit (.bool false)], args := [d1, d2, d3] }
  | _ => none }
def LevelsKeepWrongFalsely : Prop := levelsKeepRow.holds Try.pinned (OpenSpec.ofChange levelsKeepWrong)

/-- 'quietuslaw9.LevelsDeep': WHATEVER THE INPUT: true; the input reads as it did. -/
def levelsDeepSpec : ChangeSpec := { name := "levelsDeep", fn := fun _ => fun
  | [d1, d2] => { results := [.lit (.bool true)], args := [d1, d2] }
  | _ => none }
def levelsDeepRow : OpenClaim := { program := "ytfigockmbphnfaa", sum := "e61481a5b5117a6d519acecfbe19cb2f0748df7bfbf979fcef4801d2b91015d5", func := "quietus/quietuslaw9.LevelsDeep", spec := "levelsDeep", apart := false }
def LevelsDeepSaid : Prop := levelsDeepRow.holds Try.pinned (OpenSpec.ofChange levelsDeepSpec)

/-- ITS FALSE NEIGHBOUR: 'it returns false'. Refute it at one input. -/
def levelsDeepWrong : ChangeSpec := { name := "levelsDeep", fn := fun _ => fun
  | [d1, d2] => { results := [.lit (.bool false)], args := [d1, d2] }
  | _ => none }
def LevelsDeepWrongFalsely : Prop := levelsDeepRow.holds Try.pinned (OpenSpec.ofChange levelsDeepWrong)

/-- 'quietuslaw9.LevelsRoom': WHATEVER THE INPUT: true; the input reads as it did. -/
def levelsRoomSpec : ChangeSpec := { name := "levelsRoom", fn := fun _ => fun
  | [d1, d2] => { results := [.lit (.bool true)], args := [d1, d2] }
  | _ => none }
def levelsRoomRow : OpenClaim := { program := "ytfigockmbphnfaa", sum := "e61481a5b5117a6d519acecfbe19cb2f0748df7bfbf979fcef4801d2b91015d5", func := "quietus/quietuslaw9.LevelsRoom", spec := "levelsRoom", apart := false }
def LevelsRoomSaid : Prop := levelsRoomRow.holds Try.pinned (OpenSpec.ofChange levelsRoomSpec)

/-- ITS FALSE NEIGHBOUR: 'it returns false'. Refute it at one input. -/
def levelsRoomWrong : ChangeSpec := { name := "levelsRoom", fn := fun _ => fun
  | [d1, d2] => { results := [.lit (.bool false)], args := [d1, d2] }
  | _ => none }
def LevelsRoomWrongFalsely : Prop := levelsRoomRow.holds Try.pinned (OpenSpec.ofChange levelsRoomWrong)

/- THE SECOND FORM. 'bulk': how many values and letters a reading holds, each counted each time it is reached (what is shared counts as often as it is met; a slice's spare places count too). A statement '..UptoSaid' is the law's where the arguments, and the package variables that the reading takes, are together of bulk at most 1048576: NARROWER than '..Said'. Prove '..Said' where nothing that the law and all that it calls make is longer than what came in: it says more and counts as full. Else prove '..UptoSaid'. A law counts once. -/
mutual
def uptoBulk {H : Type} : DataW H → Nat
  | .lit (.string bytes) => bytes.length + 1
  | .lit _ => 1
  | .nil => 1
  | .ptr d => uptoBulk d + 1
  | .slice elems spare => uptoBulkAll elems + uptoBulkAll spare + 1
  | .agg parts => uptoBulkAll parts + 1
  | .iface _ d => uptoBulk d + 1
  | .map entries => uptoBulkEntries entries + 1
  | .held _ => 1
def uptoBulkAll {H : Type} : List (DataW H) → Nat
  | [] => 0
  | d :: r => uptoBulk d + uptoBulkAll r
def uptoBulkEntries {H : Type} : List (Lit × DataW H) → Nat
  | [] => 0
  | x :: r => uptoBulkEntry x + uptoBulkEntries r
def uptoBulkEntry {H : Type} : Lit × DataW H → Nat
  | (.string bytes, d) => bytes.length + uptoBulk d + 1
  | (_, d) => uptoBulk d + 1
 end
def uptoSmall : (H : Type) → List (DataW H) → Bool := fun _ ds => decide (uptoBulkAll ds ≤ 1048576)
def OpenSpec.upto (s : _root_.Go.ChangeSpec) : _root_.Go.OpenSpec := { _root_.Go.OpenSpec.ofChange s with cond := some uptoSmall }

/-- 'quietuslaw9.LevelsRuns', WHERE WHAT IT READS IS OF BULK AT MOST 1048576: true; the input reads as it did. -/
def levelsRunsUptoRow : OpenClaim := { program := "ytfigockmbphnfaa", sum := "e61481a5b5117a6d519acecfbe19cb2f0748df7bfbf979fcef4801d2b91015d5", func := "quietus/quietuslaw9.LevelsRuns", spec := "levelsRuns", apart := false, narrowed := true }
def LevelsRunsUptoSaid : Prop := levelsRunsUptoRow.holds Try.pinned (OpenSpec.upto levelsRunsSpec)

/-- 'quietuslaw9.LevelsPlays', WHERE WHAT IT READS IS OF BULK AT MOST 1048576: true; the input reads as it did. -/
def levelsPlaysUptoRow : OpenClaim := { program := "ytfigockmbphnfaa", sum := "e61481a5b5117a6d519acecfbe19cb2f0748df7bfbf979fcef4801d2b91015d5", func := "quietus/quietuslaw9.LevelsPlays", spec := "levelsPlays", apart := false, narrowed := true }
def LevelsPlaysUptoSaid : Prop := levelsPlaysUptoRow.holds Try.pinned (OpenSpec.upto levelsPlaysSpec)

/-- 'quietuslaw9.LevelsDrop', WHERE WHAT IT READS IS OF BULK AT MOST 1048576: true; the input reads as it did. -/
def levelsDropUptoRow : OpenClaim := { program := "ytfigockmbphnfaa", sum := "e61481a5b5117a6d519acecfbe19cb2f0748df7bfbf979fcef4801d2b91015d5", func := "quietus/quietuslaw9.LevelsDrop", spec := "levelsDrop", apart := false, narrowed := true }
def LevelsDropUptoSaid : Prop := levelsDropUptoRow.holds Try.pinned (OpenSpec.upto levelsDropSpec)

/-- 'quietuslaw9.LevelsKeep', WHERE WHAT IT READS IS OF BULK AT MOST 1048576: true; the input reads as it did. -/
def levelsKeepUptoRow : OpenClaim := { program := "ytfigockmbphnfaa", sum := "e61481a5b5117a6d519acecfbe19cb2f0748df7bfbf979fcef4801d2b91015d5", func := "quietus/quietuslaw9.LevelsKeep", spec := "levelsKeep", apart := false, narrowed := true }
def LevelsKeepUptoSaid : Prop := levelsKeepUptoRow.holds Try.pinned (OpenSpec.upto levelsKeepSpec)

/-- 'quietuslaw9.LevelsDeep', WHERE WHAT IT READS IS OF BULK AT MOST 1048576: true; the input reads as it did. -/
def levelsDeepUptoRow : OpenClaim := { program := "ytfigockmbphnfaa", sum := "e61481a5b5117a6d519acecfbe19cb2f0748df7bfbf979fcef4801d2b91015d5", func := "quietus/quietuslaw9.LevelsDeep", spec := "levelsDeep", apart := false, narrowed := true }
def LevelsDeepUptoSaid : Prop := levelsDeepUptoRow.holds Try.pinned (OpenSpec.upto levelsDeepSpec)

/-- 'quietuslaw9.LevelsRoom', WHERE WHAT IT READS IS OF BULK AT MOST 1048576: true; the input reads as it did. -/
def levelsRoomUptoRow : OpenClaim := { program := "ytfigockmbphnfaa", sum := "e61481a5b5117a6d519acecfbe19cb2f0748df7bfbf979fcef4801d2b91015d5", func := "quietus/quietuslaw9.LevelsRoom", spec := "levelsRoom", apart := false, narrowed := true }
def LevelsRoomUptoSaid : Prop := levelsRoomUptoRow.holds Try.pinned (OpenSpec.upto levelsRoomSpec)

end Rows
end Go.Proofs.Ytfigockmbphnfaa
