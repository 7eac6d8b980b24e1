/-
  DERIVED. GIVEN WITH THE SEED: THE CARDS: each row of YticekakedhinkaaDoorRows.lean that lists a variable, with what it lists TIED to the program's text (the seventh form; the later family's looks); each row that meets fmt, with fmt's text TOLD by the authors' own Lean function (tested against real Go, not proved from fmt's source: count such statements apart). THE CARD IS WHAT COUNTS. Prove the row's statement (the work); the ties are given (YticekakedhinkaaDoorTie.lean); close each card by the builder's one call (the guide's Derived/Test/ToyasCard.lean, 'card_holds'). Laid BY PROGRAM, IN A SANDBOX (cutbox-door.mjs). By AI agents, Wed Nov 11 2026. No macro, syntax, notation, axiom, sorry.
-/
import Derived.Test.YticekakedhinkaaDoorRows
import GoSem.ClaimSeven
namespace Go.Proofs.YticekakedhinkaaDoor
namespace Rows

/-- THE TIED CARD OF 'quietuslaw16.TextRuns'. -/
def textRunsCard : Claim7 := { stood := { row := textRunsRow, standIns := [], harness := (true, "71d21e019e307ac750140acf810c5b46b33216fedaec94fa15b6f3588ec2ac72"), looks := false }, kinds := [], alts := [], laidByText := true, laidKinds := [.data, .data, .data, .data, .data], laidTests := true, laidLooks := .later }
def TextRunsCardSaid : Prop := Claim7.holds Tryd.pinned (.plain (OpenSpec.ofChange textRunsSpec)) textRunsCard

/-- THE TIED CARD OF 'quietuslaw16.TextPrints'. -/
def textPrintsCard : Claim7 := { stood := { row := textPrintsRow, standIns := [], harness := (true, "71d21e019e307ac750140acf810c5b46b33216fedaec94fa15b6f3588ec2ac72"), looks := false }, kinds := [], alts := [], laidByText := true, laidKinds := [.data, .data, .data, .data, .data, .data], laidTests := true, laidLooks := .later }
def TextPrintsCardSaid : Prop := Claim7.holds Tryd.pinned (.plain (OpenSpec.ofChange textPrintsSpec)) textPrintsCard

/-- THE SECOND FORM's CARD OF 'quietuslaw16.TextRuns'. -/
def textRunsUptoCard : Claim7 := { stood := { row := textRunsUptoRow, standIns := [], harness := (true, "71d21e019e307ac750140acf810c5b46b33216fedaec94fa15b6f3588ec2ac72"), looks := false }, kinds := [], alts := [], laidByText := true, laidKinds := [.data, .data, .data, .data, .data], laidTests := true, laidLooks := .later }
def TextRunsUptoCardSaid : Prop := Claim7.holds Tryd.pinned (.plain (OpenSpec.upto textRunsSpec)) textRunsUptoCard

/-- THE SECOND FORM's CARD OF 'quietuslaw16.TextPrints'. -/
def textPrintsUptoCard : Claim7 := { stood := { row := textPrintsUptoRow, standIns := [], harness := (true, "71d21e019e307ac750140acf810c5b46b33216fedaec94fa15b6f3588ec2ac72"), looks := false }, kinds := [], alts := [], laidByText := true, laidKinds := [.data, .data, .data, .data, .data, .data], laidTests := true, laidLooks := .later }
def TextPrintsUptoCardSaid : Prop := Claim7.holds Tryd.pinned (.plain (OpenSpec.upto textPrintsSpec)) textPrintsUptoCard
end Rows
end Go.Proofs.YticekakedhinkaaDoor
