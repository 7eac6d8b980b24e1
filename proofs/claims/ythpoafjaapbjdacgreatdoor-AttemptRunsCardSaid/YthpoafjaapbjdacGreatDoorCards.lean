/-
  DERIVED. GIVEN WITH THE SEED: THE CARDS: each row of YthpoafjaapbjdacGreatDoorRows.lean that lists a variable, with what it lists TIED to the program's text (the seventh form; the later family's looks); each row that meets fmt, with fmt's text TOLD by the authors' own Lean function (tested against real Go, not proved from fmt's source: count such statements apart). THE CARD IS WHAT COUNTS. Prove the row's statement (the work); the ties are given (YthpoafjaapbjdacGreatDoorTie.lean); close each card by the builder's one call (the guide's Derived/Test/ToyasCard.lean, 'card_holds'). Laid BY PROGRAM, IN A SANDBOX (cutbox-door.mjs). By AI agents, Wed Nov 11 2026. No macro, syntax, notation, axiom, sorry.
-/
import Derived.Test.YthpoafjaapbjdacGreatDoorRows
import GoSem.ClaimSeven
namespace Go.Proofs.YthpoafjaapbjdacGreatDoor
namespace Rows

/-- THE TIED CARD OF 'quietuslaw26.AttemptRuns'. -/
def attemptRunsCard : Claim7 := { stood := { row := attemptRunsRow, standIns := [], harness := (true, "a4ca918d027c6a5c070a31760a6e5cb4892eaf9ba87bfddde9fe9ca998294c08"), looks := true }, kinds := [], alts := [], laidByText := true, laidKinds := [.data], laidTests := true, laidLooks := .later }
def AttemptRunsCardSaid : Prop := Claim7.holds Tryz.pinned (.plain (OpenSpec.ofChange attemptRunsSpec)) attemptRunsCard

/-- THE SECOND FORM's CARD OF 'quietuslaw26.AttemptRuns'. -/
def attemptRunsUptoCard : Claim7 := { stood := { row := attemptRunsUptoRow, standIns := [], harness := (true, "a4ca918d027c6a5c070a31760a6e5cb4892eaf9ba87bfddde9fe9ca998294c08"), looks := true }, kinds := [], alts := [], laidByText := true, laidKinds := [.data], laidTests := true, laidLooks := .later }
def AttemptRunsUptoCardSaid : Prop := Claim7.holds Tryz.pinned (.plain (OpenSpec.upto attemptRunsSpec)) attemptRunsUptoCard
end Rows
end Go.Proofs.YthpoafjaapbjdacGreatDoor
