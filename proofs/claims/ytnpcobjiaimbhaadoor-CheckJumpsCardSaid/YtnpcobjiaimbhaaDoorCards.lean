/-
  DERIVED. GIVEN WITH THE SEED: THE CARDS: each row of YtnpcobjiaimbhaaDoorRows.lean that lists a variable, with what it lists TIED to the program's text (the seventh form; the later family's looks); each row that meets fmt, with fmt's text TOLD by the authors' own Lean function (tested against real Go, not proved from fmt's source: count such statements apart). THE CARD IS WHAT COUNTS. Prove the row's statement (the work); the ties are given (YtnpcobjiaimbhaaDoorTie.lean); close each card by the builder's one call (the guide's Derived/Test/ToyasCard.lean, 'card_holds'). Laid BY PROGRAM, IN A SANDBOX (cutbox-door.mjs). By AI agents, Wed Nov 11 2026. No macro, syntax, notation, axiom, sorry.
-/
import Derived.Test.YtnpcobjiaimbhaaDoorRows
import GoSem.ClaimSeven
namespace Go.Proofs.YtnpcobjiaimbhaaDoor
namespace Rows

/-- THE TIED CARD OF 'quietuslaw15.CheckRuns'. -/
def checkRunsCard : Claim7 := { stood := { row := checkRunsRow, standIns := [], harness := (true, "63622d6a51d7e0dac47fd2b07d6297a98042a8e5dcee8a741ab80c3323613ffd"), looks := false }, kinds := [], alts := [], laidByText := true, laidKinds := [.data], laidTests := true, laidLooks := .later }
def CheckRunsCardSaid : Prop := Claim7.holds Tryd.pinned (.plain (OpenSpec.ofChange checkRunsSpec)) checkRunsCard

/-- THE TIED CARD OF 'quietuslaw15.CheckTells'. -/
def checkTellsCard : Claim7 := { stood := { row := checkTellsRow, standIns := [], harness := (true, "63622d6a51d7e0dac47fd2b07d6297a98042a8e5dcee8a741ab80c3323613ffd"), looks := false }, kinds := [], alts := [], laidByText := true, laidKinds := [.data], laidTests := true, laidLooks := .later }
def CheckTellsCardSaid : Prop := Claim7.holds Tryd.pinned (.plain (OpenSpec.ofChange checkTellsSpec)) checkTellsCard

/-- THE TIED CARD OF 'quietuslaw15.CheckSpoilt'. -/
def checkSpoiltCard : Claim7 := { stood := { row := checkSpoiltRow, standIns := [], harness := (true, "63622d6a51d7e0dac47fd2b07d6297a98042a8e5dcee8a741ab80c3323613ffd"), looks := false }, kinds := [], alts := [], laidByText := true, laidKinds := [.data], laidTests := true, laidLooks := .later }
def CheckSpoiltCardSaid : Prop := Claim7.holds Tryd.pinned (.plain (OpenSpec.ofChange checkSpoiltSpec)) checkSpoiltCard

/-- THE TIED CARD OF 'quietuslaw15.CheckMakes'. -/
def checkMakesCard : Claim7 := { stood := { row := checkMakesRow, standIns := [], harness := (true, "63622d6a51d7e0dac47fd2b07d6297a98042a8e5dcee8a741ab80c3323613ffd"), looks := false }, kinds := [], alts := [], laidByText := true, laidKinds := [.data], laidTests := true, laidLooks := .later }
def CheckMakesCardSaid : Prop := Claim7.holds Tryd.pinned (.plain (OpenSpec.ofChange checkMakesSpec)) checkMakesCard

/-- THE TIED CARD OF 'quietuslaw15.CheckJumps'. -/
def checkJumpsCard : Claim7 := { stood := { row := checkJumpsRow, standIns := [], harness := (true, "63622d6a51d7e0dac47fd2b07d6297a98042a8e5dcee8a741ab80c3323613ffd"), looks := false }, kinds := [], alts := [], laidByText := true, laidKinds := [.data], laidTests := true, laidLooks := .later }
def CheckJumpsCardSaid : Prop := Claim7.holds Tryd.pinned (.plain (OpenSpec.ofChange checkJumpsSpec)) checkJumpsCard

/-- THE SECOND FORM's CARD OF 'quietuslaw15.CheckRuns'. -/
def checkRunsUptoCard : Claim7 := { stood := { row := checkRunsUptoRow, standIns := [], harness := (true, "63622d6a51d7e0dac47fd2b07d6297a98042a8e5dcee8a741ab80c3323613ffd"), looks := false }, kinds := [], alts := [], laidByText := true, laidKinds := [.data], laidTests := true, laidLooks := .later }
def CheckRunsUptoCardSaid : Prop := Claim7.holds Tryd.pinned (.plain (OpenSpec.upto checkRunsSpec)) checkRunsUptoCard

/-- THE SECOND FORM's CARD OF 'quietuslaw15.CheckTells'. -/
def checkTellsUptoCard : Claim7 := { stood := { row := checkTellsUptoRow, standIns := [], harness := (true, "63622d6a51d7e0dac47fd2b07d6297a98042a8e5dcee8a741ab80c3323613ffd"), looks := false }, kinds := [], alts := [], laidByText := true, laidKinds := [.data], laidTests := true, laidLooks := .later }
def CheckTellsUptoCardSaid : Prop := Claim7.holds Tryd.pinned (.plain (OpenSpec.upto checkTellsSpec)) checkTellsUptoCard

/-- THE SECOND FORM's CARD OF 'quietuslaw15.CheckSpoilt'. -/
def checkSpoiltUptoCard : Claim7 := { stood := { row := checkSpoiltUptoRow, standIns := [], harness := (true, "63622d6a51d7e0dac47fd2b07d6297a98042a8e5dcee8a741ab80c3323613ffd"), looks := false }, kinds := [], alts := [], laidByText := true, laidKinds := [.data], laidTests := true, laidLooks := .later }
def CheckSpoiltUptoCardSaid : Prop := Claim7.holds Tryd.pinned (.plain (OpenSpec.upto checkSpoiltSpec)) checkSpoiltUptoCard

/-- THE SECOND FORM's CARD OF 'quietuslaw15.CheckMakes'. -/
def checkMakesUptoCard : Claim7 := { stood := { row := checkMakesUptoRow, standIns := [], harness := (true, "63622d6a51d7e0dac47fd2b07d6297a98042a8e5dcee8a741ab80c3323613ffd"), looks := false }, kinds := [], alts := [], laidByText := true, laidKinds := [.data], laidTests := true, laidLooks := .later }
def CheckMakesUptoCardSaid : Prop := Claim7.holds Tryd.pinned (.plain (OpenSpec.upto checkMakesSpec)) checkMakesUptoCard

/-- THE SECOND FORM's CARD OF 'quietuslaw15.CheckJumps'. -/
def checkJumpsUptoCard : Claim7 := { stood := { row := checkJumpsUptoRow, standIns := [], harness := (true, "63622d6a51d7e0dac47fd2b07d6297a98042a8e5dcee8a741ab80c3323613ffd"), looks := false }, kinds := [], alts := [], laidByText := true, laidKinds := [.data], laidTests := true, laidLooks := .later }
def CheckJumpsUptoCardSaid : Prop := Claim7.holds Tryd.pinned (.plain (OpenSpec.upto checkJumpsSpec)) checkJumpsUptoCard
end Rows
end Go.Proofs.YtnpcobjiaimbhaaDoor
