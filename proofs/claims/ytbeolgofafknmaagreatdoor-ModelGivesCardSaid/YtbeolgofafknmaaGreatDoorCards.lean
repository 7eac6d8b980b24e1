/-
  DERIVED. GIVEN WITH THE SEED: THE CARDS: each row of YtbeolgofafknmaaGreatDoorRows.lean that lists a variable, with what it lists TIED to the program's text (the seventh form; the later family's looks); each row that meets fmt, with fmt's text TOLD by the authors' own Lean function (tested against real Go, not proved from fmt's source: count such statements apart). THE CARD IS WHAT COUNTS. Prove the row's statement (the work); the ties are given (YtbeolgofafknmaaGreatDoorTie.lean); close each card by the builder's one call (the guide's Derived/Test/ToyasCard.lean, 'card_holds'). Laid BY PROGRAM, IN A SANDBOX (cutbox-door.mjs). By AI agents, Wed Nov 11 2026. No macro, syntax, notation, axiom, sorry.
-/
import Derived.Test.YtbeolgofafknmaaGreatDoorRows
import GoSem.ClaimSeven
namespace Go.Proofs.YtbeolgofafknmaaGreatDoor
namespace Rows

/-- THE TIED CARD OF 'quietuslaw22.ModelGives'. -/
def modelGivesCard : Claim7 := { stood := { row := modelGivesRow, standIns := [], harness := (true, "3186f44f4f2ec304b40933ed9a2ffe2981ef7b40aa30f61a9941b5c0a276cefe"), looks := true }, kinds := [], alts := [], laidByText := true, laidKinds := [.data], laidTests := true, laidLooks := .later }
def ModelGivesCardSaid : Prop := Claim7.holds Tryz.pinned (.plain (OpenSpec.ofChange modelGivesSpec)) modelGivesCard

/-- THE TIED CARD OF 'quietuslaw22.ModelFails'. -/
def modelFailsCard : Claim7 := { stood := { row := modelFailsRow, standIns := [], harness := (true, "3186f44f4f2ec304b40933ed9a2ffe2981ef7b40aa30f61a9941b5c0a276cefe"), looks := true }, kinds := [], alts := [], laidByText := true, laidKinds := [.data], laidTests := true, laidLooks := .later }
def ModelFailsCardSaid : Prop := Claim7.holds Tryz.pinned (.plain (OpenSpec.ofChange modelFailsSpec)) modelFailsCard

/-- THE SECOND FORM's CARD OF 'quietuslaw22.ModelGives'. -/
def modelGivesUptoCard : Claim7 := { stood := { row := modelGivesUptoRow, standIns := [], harness := (true, "3186f44f4f2ec304b40933ed9a2ffe2981ef7b40aa30f61a9941b5c0a276cefe"), looks := true }, kinds := [], alts := [], laidByText := true, laidKinds := [.data], laidTests := true, laidLooks := .later }
def ModelGivesUptoCardSaid : Prop := Claim7.holds Tryz.pinned (.plain (OpenSpec.upto modelGivesSpec)) modelGivesUptoCard

/-- THE SECOND FORM's CARD OF 'quietuslaw22.ModelFails'. -/
def modelFailsUptoCard : Claim7 := { stood := { row := modelFailsUptoRow, standIns := [], harness := (true, "3186f44f4f2ec304b40933ed9a2ffe2981ef7b40aa30f61a9941b5c0a276cefe"), looks := true }, kinds := [], alts := [], laidByText := true, laidKinds := [.data], laidTests := true, laidLooks := .later }
def ModelFailsUptoCardSaid : Prop := Claim7.holds Tryz.pinned (.plain (OpenSpec.upto modelFailsSpec)) modelFailsUptoCard
end Rows
end Go.Proofs.YtbeolgofafknmaaGreatDoor
