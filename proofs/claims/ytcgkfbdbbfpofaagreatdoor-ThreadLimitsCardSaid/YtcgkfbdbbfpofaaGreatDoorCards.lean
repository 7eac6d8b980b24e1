/-
  DERIVED. GIVEN WITH THE SEED: THE CARDS: each row of YtcgkfbdbbfpofaaGreatDoorRows.lean that lists a variable, with what it lists TIED to the program's text (the seventh form; the later family's looks); each row that meets fmt, with fmt's text TOLD by the authors' own Lean function (tested against real Go, not proved from fmt's source: count such statements apart). THE CARD IS WHAT COUNTS. Prove the row's statement (the work); the ties are given (YtcgkfbdbbfpofaaGreatDoorTie.lean); close each card by the builder's one call (the guide's Derived/Test/ToyasCard.lean, 'card_holds'). Laid BY PROGRAM, IN A SANDBOX (cutbox-door.mjs). By AI agents, Wed Nov 11 2026. No macro, syntax, notation, axiom, sorry.
-/
import Derived.Test.YtcgkfbdbbfpofaaGreatDoorRows
import GoSem.ClaimSeven
namespace Go.Proofs.YtcgkfbdbbfpofaaGreatDoor
namespace Rows

/-- THE TIED CARD OF 'quietuslaw27.ThreadLimits'. -/
def threadLimitsCard : Claim7 := { stood := { row := threadLimitsRow, standIns := [], harness := (true, "a8366d53352f2d3da897a2d7188d67e6549dd20c2de2aedff86523303b22750d"), looks := true }, kinds := [], alts := [], laidByText := true, laidKinds := [.data], laidTests := true, laidLooks := .later }
def ThreadLimitsCardSaid : Prop := Claim7.holds Tryz.pinned (.plain (OpenSpec.ofChange threadLimitsSpec)) threadLimitsCard

/-- THE SECOND FORM's CARD OF 'quietuslaw27.ThreadLimits'. -/
def threadLimitsUptoCard : Claim7 := { stood := { row := threadLimitsUptoRow, standIns := [], harness := (true, "a8366d53352f2d3da897a2d7188d67e6549dd20c2de2aedff86523303b22750d"), looks := true }, kinds := [], alts := [], laidByText := true, laidKinds := [.data], laidTests := true, laidLooks := .later }
def ThreadLimitsUptoCardSaid : Prop := Claim7.holds Tryz.pinned (.plain (OpenSpec.upto threadLimitsSpec)) threadLimitsUptoCard
end Rows
end Go.Proofs.YtcgkfbdbbfpofaaGreatDoor
