/-
  DERIVED. GIVEN WITH THE SEED: THE CARDS: each row of YtmhbamjlnanmlaaGreatDoorRows.lean that lists a variable, with what it lists TIED to the program's text (the seventh form; the later family's looks); each row that meets fmt, with fmt's text TOLD by the authors' own Lean function (tested against real Go, not proved from fmt's source: count such statements apart). THE CARD IS WHAT COUNTS. Prove the row's statement (the work); the ties are given (YtmhbamjlnanmlaaGreatDoorTie.lean); close each card by the builder's one call (the guide's Derived/Test/ToyasCard.lean, 'card_holds'). Laid BY PROGRAM, IN A SANDBOX (cutbox-door.mjs). By AI agents, Wed Nov 11 2026. No macro, syntax, notation, axiom, sorry.
-/
import Derived.Test.YtmhbamjlnanmlaaGreatDoorRows
import GoSem.ClaimSeven
namespace Go.Proofs.YtmhbamjlnanmlaaGreatDoor
namespace Rows

/-- THE TIED CARD OF 'quietuslaw21.InterpRefused'. -/
def interpRefusedCard : Claim7 := { stood := { row := interpRefusedRow, standIns := [], harness := (true, "01a2ed1e985d4f2de9e50c8f5f6e78202a6d28665fd433bcbd55b82f675582cf"), looks := true }, kinds := [], alts := [], laidByText := true, laidKinds := [.data], laidTests := true, laidLooks := .later }
def InterpRefusedCardSaid : Prop := Claim7.holds Tryz.pinned (.plain (OpenSpec.ofChange interpRefusedSpec)) interpRefusedCard

/-- THE SECOND FORM's CARD OF 'quietuslaw21.InterpRefused'. -/
def interpRefusedUptoCard : Claim7 := { stood := { row := interpRefusedUptoRow, standIns := [], harness := (true, "01a2ed1e985d4f2de9e50c8f5f6e78202a6d28665fd433bcbd55b82f675582cf"), looks := true }, kinds := [], alts := [], laidByText := true, laidKinds := [.data], laidTests := true, laidLooks := .later }
def InterpRefusedUptoCardSaid : Prop := Claim7.holds Tryz.pinned (.plain (OpenSpec.upto interpRefusedSpec)) interpRefusedUptoCard
end Rows
end Go.Proofs.YtmhbamjlnanmlaaGreatDoor
