/-
  DERIVED. GIVEN WITH THE SEED: THE CARDS: each row of YtbbhmhcamchmcaaGreatDoorRows.lean that lists a variable, with what it lists TIED to the program's text (the seventh form; the later family's looks); each row that meets fmt, with fmt's text TOLD by the authors' own Lean function (tested against real Go, not proved from fmt's source: count such statements apart). THE CARD IS WHAT COUNTS. Prove the row's statement (the work); the ties are given (YtbbhmhcamchmcaaGreatDoorTie.lean); close each card by the builder's one call (the guide's Derived/Test/ToyasCard.lean, 'card_holds'). Laid BY PROGRAM, IN A SANDBOX (cutbox-door.mjs). By AI agents, Wed Nov 11 2026. No macro, syntax, notation, axiom, sorry.
-/
import Derived.Test.YtbbhmhcamchmcaaGreatDoorRows
import GoSem.ClaimSeven
namespace Go.Proofs.YtbbhmhcamchmcaaGreatDoor
namespace Rows

/-- THE TIED CARD OF 'quietuslaw30.JudgeRuns'. -/
def judgeRunsCard : Claim7 := { stood := { row := judgeRunsRow, standIns := [], harness := (true, "00d4087528815542fe5f8d1ff6640f92548f581d07cf5d5e6c859dfb5bf63db1"), looks := true }, kinds := [], alts := [], laidByText := true, laidKinds := [.data], laidTests := true, laidLooks := .later }
def JudgeRunsCardSaid : Prop := Claim7.holds Tryz.pinned (.plain (OpenSpec.ofChange judgeRunsSpec)) judgeRunsCard

/-- THE SECOND FORM's CARD OF 'quietuslaw30.JudgeRuns'. -/
def judgeRunsUptoCard : Claim7 := { stood := { row := judgeRunsUptoRow, standIns := [], harness := (true, "00d4087528815542fe5f8d1ff6640f92548f581d07cf5d5e6c859dfb5bf63db1"), looks := true }, kinds := [], alts := [], laidByText := true, laidKinds := [.data], laidTests := true, laidLooks := .later }
def JudgeRunsUptoCardSaid : Prop := Claim7.holds Tryz.pinned (.plain (OpenSpec.upto judgeRunsSpec)) judgeRunsUptoCard
end Rows
end Go.Proofs.YtbbhmhcamchmcaaGreatDoor
