/-
  DERIVED. GIVEN WITH THE SEED: THE CARDS: each row of YtmakccdgbkcbaaaGreatDoorRows.lean that lists a variable, with what it lists TIED to the program's text (the seventh form; the later family's looks); each row that meets fmt, with fmt's text TOLD by the authors' own Lean function (tested against real Go, not proved from fmt's source: count such statements apart). THE CARD IS WHAT COUNTS. Prove the row's statement (the work); the ties are given (YtmakccdgbkcbaaaGreatDoorTie.lean); close each card by the builder's one call (the guide's Derived/Test/ToyasCard.lean, 'card_holds'). Laid BY PROGRAM, IN A SANDBOX (cutbox-door.mjs). By AI agents, Wed Nov 11 2026. No macro, syntax, notation, axiom, sorry.
-/
import Derived.Test.YtmakccdgbkcbaaaGreatDoorRows
import GoSem.ClaimSeven
namespace Go.Proofs.YtmakccdgbkcbaaaGreatDoor
namespace Rows

/-- THE TIED CARD OF 'quietuslaw22.ModelApply'. -/
def modelApplyCard : Claim7 := { stood := { row := modelApplyRow, standIns := [], harness := (true, "865bb91691e28a6166d10cf49e2c31e79ea9da2c22299cb00241179b70eb3846"), looks := true }, kinds := [], alts := [], laidByText := true, laidKinds := [.data], laidTests := true, laidLooks := .later }
def ModelApplyCardSaid : Prop := Claim7.holds Tryz.pinned (.plain (OpenSpec.ofChange modelApplySpec)) modelApplyCard

/-- THE SECOND FORM's CARD OF 'quietuslaw22.ModelApply'. -/
def modelApplyUptoCard : Claim7 := { stood := { row := modelApplyUptoRow, standIns := [], harness := (true, "865bb91691e28a6166d10cf49e2c31e79ea9da2c22299cb00241179b70eb3846"), looks := true }, kinds := [], alts := [], laidByText := true, laidKinds := [.data], laidTests := true, laidLooks := .later }
def ModelApplyUptoCardSaid : Prop := Claim7.holds Tryz.pinned (.plain (OpenSpec.upto modelApplySpec)) modelApplyUptoCard
end Rows
end Go.Proofs.YtmakccdgbkcbaaaGreatDoor
