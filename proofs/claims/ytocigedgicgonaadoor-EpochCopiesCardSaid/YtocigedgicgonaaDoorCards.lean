/-
  DERIVED. GIVEN WITH THE SEED: THE CARDS: each row of YtocigedgicgonaaDoorRows.lean that lists a variable, with what it lists TIED to the program's text (the seventh form; the later family's looks); each row that meets fmt, with fmt's text TOLD by the authors' own Lean function (tested against real Go, not proved from fmt's source: count such statements apart). THE CARD IS WHAT COUNTS. Prove the row's statement (the work); the ties are given (YtocigedgicgonaaDoorTie.lean); close each card by the builder's one call (the guide's Derived/Test/ToyasCard.lean, 'card_holds'). Laid BY PROGRAM, IN A SANDBOX (cutbox-door.mjs). By AI agents, Wed Nov 11 2026. No macro, syntax, notation, axiom, sorry.
-/
import Derived.Test.YtocigedgicgonaaDoorRows
import GoSem.ClaimSeven
namespace Go.Proofs.YtocigedgicgonaaDoor
namespace Rows

/-- THE TIED CARD OF 'rowlocklaw06.EpochPlays'. -/
def epochPlaysCard : Claim7 := { stood := { row := epochPlaysRow, standIns := [], harness := (true, "3620198df4f75b510696578d8706b553311b4a070aea3d239a9736ac3e67b6b1"), looks := true }, kinds := [], alts := [], laidByText := true, laidKinds := [.handle], laidTests := true, laidLooks := .later }
def EpochPlaysCardSaid : Prop := Claim7.holds Tryd.pinned (.plain (OpenSpec.ofChange epochPlaysSpec)) epochPlaysCard

/-- THE TIED CARD OF 'rowlocklaw06.EpochGuards'. -/
def epochGuardsCard : Claim7 := { stood := { row := epochGuardsRow, standIns := [], harness := (true, "3620198df4f75b510696578d8706b553311b4a070aea3d239a9736ac3e67b6b1"), looks := true }, kinds := [], alts := [], laidByText := true, laidKinds := [.handle], laidTests := true, laidLooks := .later }
def EpochGuardsCardSaid : Prop := Claim7.holds Tryd.pinned (.plain (OpenSpec.ofChange epochGuardsSpec)) epochGuardsCard

/-- THE TIED CARD OF 'rowlocklaw06.EpochCopies'. -/
def epochCopiesCard : Claim7 := { stood := { row := epochCopiesRow, standIns := [], harness := (true, "3620198df4f75b510696578d8706b553311b4a070aea3d239a9736ac3e67b6b1"), looks := true }, kinds := [], alts := [], laidByText := true, laidKinds := [.handle], laidTests := true, laidLooks := .later }
def EpochCopiesCardSaid : Prop := Claim7.holds Tryd.pinned (.plain (OpenSpec.ofChange epochCopiesSpec)) epochCopiesCard

/-- THE TIED CARD OF 'rowlocklaw06.EpochRises'. -/
def epochRisesCard : Claim7 := { stood := { row := epochRisesRow, standIns := [], harness := (true, "3620198df4f75b510696578d8706b553311b4a070aea3d239a9736ac3e67b6b1"), looks := true }, kinds := [], alts := [], laidByText := true, laidKinds := [.handle], laidTests := true, laidLooks := .later }
def EpochRisesCardSaid : Prop := Claim7.holds Tryd.pinned (.plain (OpenSpec.ofChange epochRisesSpec)) epochRisesCard

/-- THE TIED CARD OF 'rowlocklaw06.EpochEmpty'. -/
def epochEmptyCard : Claim7 := { stood := { row := epochEmptyRow, standIns := [], harness := (true, "3620198df4f75b510696578d8706b553311b4a070aea3d239a9736ac3e67b6b1"), looks := true }, kinds := [], alts := [], laidByText := true, laidKinds := [.handle], laidTests := true, laidLooks := .later }
def EpochEmptyCardSaid : Prop := Claim7.holds Tryd.pinned (.plain (OpenSpec.ofChange epochEmptySpec)) epochEmptyCard

/-- THE TIED CARD OF 'rowlocklaw06.EpochLeast'. -/
def epochLeastCard : Claim7 := { stood := { row := epochLeastRow, standIns := [], harness := (true, "3620198df4f75b510696578d8706b553311b4a070aea3d239a9736ac3e67b6b1"), looks := true }, kinds := [], alts := [], laidByText := true, laidKinds := [.handle], laidTests := true, laidLooks := .later }
def EpochLeastCardSaid : Prop := Claim7.holds Tryd.pinned (.plain (OpenSpec.ofChange epochLeastSpec)) epochLeastCard

/-- THE SECOND FORM's CARD OF 'rowlocklaw06.EpochPlays'. -/
def epochPlaysUptoCard : Claim7 := { stood := { row := epochPlaysUptoRow, standIns := [], harness := (true, "3620198df4f75b510696578d8706b553311b4a070aea3d239a9736ac3e67b6b1"), looks := true }, kinds := [], alts := [], laidByText := true, laidKinds := [.handle], laidTests := true, laidLooks := .later }
def EpochPlaysUptoCardSaid : Prop := Claim7.holds Tryd.pinned (.plain (OpenSpec.upto epochPlaysSpec)) epochPlaysUptoCard

/-- THE SECOND FORM's CARD OF 'rowlocklaw06.EpochGuards'. -/
def epochGuardsUptoCard : Claim7 := { stood := { row := epochGuardsUptoRow, standIns := [], harness := (true, "3620198df4f75b510696578d8706b553311b4a070aea3d239a9736ac3e67b6b1"), looks := true }, kinds := [], alts := [], laidByText := true, laidKinds := [.handle], laidTests := true, laidLooks := .later }
def EpochGuardsUptoCardSaid : Prop := Claim7.holds Tryd.pinned (.plain (OpenSpec.upto epochGuardsSpec)) epochGuardsUptoCard

/-- THE SECOND FORM's CARD OF 'rowlocklaw06.EpochCopies'. -/
def epochCopiesUptoCard : Claim7 := { stood := { row := epochCopiesUptoRow, standIns := [], harness := (true, "3620198df4f75b510696578d8706b553311b4a070aea3d239a9736ac3e67b6b1"), looks := true }, kinds := [], alts := [], laidByText := true, laidKinds := [.handle], laidTests := true, laidLooks := .later }
def EpochCopiesUptoCardSaid : Prop := Claim7.holds Tryd.pinned (.plain (OpenSpec.upto epochCopiesSpec)) epochCopiesUptoCard

/-- THE SECOND FORM's CARD OF 'rowlocklaw06.EpochRises'. -/
def epochRisesUptoCard : Claim7 := { stood := { row := epochRisesUptoRow, standIns := [], harness := (true, "3620198df4f75b510696578d8706b553311b4a070aea3d239a9736ac3e67b6b1"), looks := true }, kinds := [], alts := [], laidByText := true, laidKinds := [.handle], laidTests := true, laidLooks := .later }
def EpochRisesUptoCardSaid : Prop := Claim7.holds Tryd.pinned (.plain (OpenSpec.upto epochRisesSpec)) epochRisesUptoCard

/-- THE SECOND FORM's CARD OF 'rowlocklaw06.EpochEmpty'. -/
def epochEmptyUptoCard : Claim7 := { stood := { row := epochEmptyUptoRow, standIns := [], harness := (true, "3620198df4f75b510696578d8706b553311b4a070aea3d239a9736ac3e67b6b1"), looks := true }, kinds := [], alts := [], laidByText := true, laidKinds := [.handle], laidTests := true, laidLooks := .later }
def EpochEmptyUptoCardSaid : Prop := Claim7.holds Tryd.pinned (.plain (OpenSpec.upto epochEmptySpec)) epochEmptyUptoCard

/-- THE SECOND FORM's CARD OF 'rowlocklaw06.EpochLeast'. -/
def epochLeastUptoCard : Claim7 := { stood := { row := epochLeastUptoRow, standIns := [], harness := (true, "3620198df4f75b510696578d8706b553311b4a070aea3d239a9736ac3e67b6b1"), looks := true }, kinds := [], alts := [], laidByText := true, laidKinds := [.handle], laidTests := true, laidLooks := .later }
def EpochLeastUptoCardSaid : Prop := Claim7.holds Tryd.pinned (.plain (OpenSpec.upto epochLeastSpec)) epochLeastUptoCard
end Rows
end Go.Proofs.YtocigedgicgonaaDoor
