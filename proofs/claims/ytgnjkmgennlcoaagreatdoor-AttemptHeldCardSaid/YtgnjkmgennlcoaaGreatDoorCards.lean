/-
  DERIVED. GIVEN WITH THE SEED: THE CARDS: each row of YtgnjkmgennlcoaaGreatDoorRows.lean that lists a variable, with what it lists TIED to the program's text (the seventh form; the later family's looks); each row that meets fmt, with fmt's text TOLD by the authors' own Lean function (tested against real Go, not proved from fmt's source: count such statements apart). THE CARD IS WHAT COUNTS. Prove the row's statement (the work); the ties are given (YtgnjkmgennlcoaaGreatDoorTie.lean); close each card by the builder's one call (the guide's Derived/Test/ToyasCard.lean, 'card_holds'). Laid BY PROGRAM, IN A SANDBOX (cutbox-door.mjs). By AI agents, Wed Nov 11 2026. No macro, syntax, notation, axiom, sorry.
-/
import Derived.Test.YtgnjkmgennlcoaaGreatDoorRows
import GoSem.ClaimSeven
namespace Go.Proofs.YtgnjkmgennlcoaaGreatDoor
namespace Rows

/-- THE TIED CARD OF 'quietuslaw26.AttemptHeld'. -/
def attemptHeldCard : Claim7 := { stood := { row := attemptHeldRow, standIns := [], harness := (true, "7ccc4e75614e54d962edcf707cc075c965cf2616fe2f2d37da86f54790ed0e99"), looks := true }, kinds := [], alts := [], laidByText := true, laidKinds := [.data], laidTests := true, laidLooks := .later }
def AttemptHeldCardSaid : Prop := Claim7.holds Tryz.pinned (.plain (OpenSpec.ofChange attemptHeldSpec)) attemptHeldCard

/-- THE SECOND FORM's CARD OF 'quietuslaw26.AttemptHeld'. -/
def attemptHeldUptoCard : Claim7 := { stood := { row := attemptHeldUptoRow, standIns := [], harness := (true, "7ccc4e75614e54d962edcf707cc075c965cf2616fe2f2d37da86f54790ed0e99"), looks := true }, kinds := [], alts := [], laidByText := true, laidKinds := [.data], laidTests := true, laidLooks := .later }
def AttemptHeldUptoCardSaid : Prop := Claim7.holds Tryz.pinned (.plain (OpenSpec.upto attemptHeldSpec)) attemptHeldUptoCard
end Rows
end Go.Proofs.YtgnjkmgennlcoaaGreatDoor
