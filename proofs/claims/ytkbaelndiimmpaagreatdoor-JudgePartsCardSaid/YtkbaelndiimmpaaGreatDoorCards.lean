/-
  DERIVED. GIVEN WITH THE SEED: THE CARDS: each row of YtkbaelndiimmpaaGreatDoorRows.lean that lists a variable, with what it lists TIED to the program's text (the seventh form; the later family's looks); each row that meets fmt, with fmt's text TOLD by the authors' own Lean function (tested against real Go, not proved from fmt's source: count such statements apart). THE CARD IS WHAT COUNTS. Prove the row's statement (the work); the ties are given (YtkbaelndiimmpaaGreatDoorTie.lean); close each card by the builder's one call (the guide's Derived/Test/ToyasCard.lean, 'card_holds'). Laid BY PROGRAM, IN A SANDBOX (cutbox-door.mjs). By AI agents, Wed Nov 11 2026. No macro, syntax, notation, axiom, sorry.
-/
import Derived.Test.YtkbaelndiimmpaaGreatDoorRows
import GoSem.ClaimSeven
namespace Go.Proofs.YtkbaelndiimmpaaGreatDoor
namespace Rows

/-- THE TIED CARD OF 'quietuslaw30.JudgeSafe'. -/
def judgeSafeCard : Claim7 := { stood := { row := judgeSafeRow, standIns := [], harness := (true, "37f4718e3848e65fc1bd38d2448c5868ad15ee268dc60c081bb6917ac686b9b4"), looks := true }, kinds := [], alts := [], laidByText := true, laidKinds := [.data], laidTests := true, laidLooks := .later }
def JudgeSafeCardSaid : Prop := Claim7.holds Tryz.pinned (.plain (OpenSpec.ofChange judgeSafeSpec)) judgeSafeCard

/-- THE TIED CARD OF 'quietuslaw30.JudgeParts'. -/
def judgePartsCard : Claim7 := { stood := { row := judgePartsRow, standIns := [], harness := (true, "37f4718e3848e65fc1bd38d2448c5868ad15ee268dc60c081bb6917ac686b9b4"), looks := true }, kinds := [], alts := [], laidByText := true, laidKinds := [.data], laidTests := true, laidLooks := .later }
def JudgePartsCardSaid : Prop := Claim7.holds Tryz.pinned (.plain (OpenSpec.ofChange judgePartsSpec)) judgePartsCard

/-- THE SECOND FORM's CARD OF 'quietuslaw30.JudgeSafe'. -/
def judgeSafeUptoCard : Claim7 := { stood := { row := judgeSafeUptoRow, standIns := [], harness := (true, "37f4718e3848e65fc1bd38d2448c5868ad15ee268dc60c081bb6917ac686b9b4"), looks := true }, kinds := [], alts := [], laidByText := true, laidKinds := [.data], laidTests := true, laidLooks := .later }
def JudgeSafeUptoCardSaid : Prop := Claim7.holds Tryz.pinned (.plain (OpenSpec.upto judgeSafeSpec)) judgeSafeUptoCard

/-- THE SECOND FORM's CARD OF 'quietuslaw30.JudgeParts'. -/
def judgePartsUptoCard : Claim7 := { stood := { row := judgePartsUptoRow, standIns := [], harness := (true, "37f4718e3848e65fc1bd38d2448c5868ad15ee268dc60c081bb6917ac686b9b4"), looks := true }, kinds := [], alts := [], laidByText := true, laidKinds := [.data], laidTests := true, laidLooks := .later }
def JudgePartsUptoCardSaid : Prop := Claim7.holds Tryz.pinned (.plain (OpenSpec.upto judgePartsSpec)) judgePartsUptoCard
end Rows
end Go.Proofs.YtkbaelndiimmpaaGreatDoor
