/-
  DERIVED. GIVEN WITH THE SEED: THE CARDS: each row of YtfdgfonffocenaaDoorRows.lean that lists a variable, with what it lists TIED to the program's text (the seventh form; the later family's looks); each row that meets fmt, with fmt's text TOLD by the authors' own Lean function (tested against real Go, not proved from fmt's source: count such statements apart). THE CARD IS WHAT COUNTS. Prove the row's statement (the work); the ties are given (YtfdgfonffocenaaDoorTie.lean); close each card by the builder's one call (the guide's Derived/Test/ToyasCard.lean, 'card_holds'). Laid BY PROGRAM, IN A SANDBOX (cutbox-door.mjs). By AI agents, Wed Nov 11 2026. No macro, syntax, notation, axiom, sorry.
-/
import Derived.Test.YtfdgfonffocenaaDoorRows
import GoSem.ClaimSeven
namespace Go.Proofs.YtfdgfonffocenaaDoor
namespace Rows

/-- THE TIED CARD OF 'rowlocklaw05.MappingPlays'. -/
def mappingPlaysCard : Claim7 := { stood := { row := mappingPlaysRow, standIns := [], harness := (true, "dd306b78007812cfc8fd5eb448c3979761c21c923e3c6cd3116bf1c877280051"), looks := true }, kinds := [], alts := [], laidByText := true, laidKinds := [.handle], laidTests := true, laidLooks := .later }
def MappingPlaysCardSaid : Prop := Claim7.holds Tryd.pinned (.plain (OpenSpec.ofChange mappingPlaysSpec)) mappingPlaysCard

/-- THE TIED CARD OF 'rowlocklaw05.MappingCopies'. -/
def mappingCopiesCard : Claim7 := { stood := { row := mappingCopiesRow, standIns := [], harness := (true, "dd306b78007812cfc8fd5eb448c3979761c21c923e3c6cd3116bf1c877280051"), looks := true }, kinds := [], alts := [], laidByText := true, laidKinds := [.handle], laidTests := true, laidLooks := .later }
def MappingCopiesCardSaid : Prop := Claim7.holds Tryd.pinned (.plain (OpenSpec.ofChange mappingCopiesSpec)) mappingCopiesCard

/-- THE TIED CARD OF 'rowlocklaw05.MappingBack'. -/
def mappingBackCard : Claim7 := { stood := { row := mappingBackRow, standIns := [], harness := (true, "dd306b78007812cfc8fd5eb448c3979761c21c923e3c6cd3116bf1c877280051"), looks := true }, kinds := [], alts := [], laidByText := true, laidKinds := [.handle], laidTests := true, laidLooks := .later }
def MappingBackCardSaid : Prop := Claim7.holds Tryd.pinned (.plain (OpenSpec.ofChange mappingBackSpec)) mappingBackCard

/-- THE SECOND FORM's CARD OF 'rowlocklaw05.MappingPlays'. -/
def mappingPlaysUptoCard : Claim7 := { stood := { row := mappingPlaysUptoRow, standIns := [], harness := (true, "dd306b78007812cfc8fd5eb448c3979761c21c923e3c6cd3116bf1c877280051"), looks := true }, kinds := [], alts := [], laidByText := true, laidKinds := [.handle], laidTests := true, laidLooks := .later }
def MappingPlaysUptoCardSaid : Prop := Claim7.holds Tryd.pinned (.plain (OpenSpec.upto mappingPlaysSpec)) mappingPlaysUptoCard

/-- THE SECOND FORM's CARD OF 'rowlocklaw05.MappingCopies'. -/
def mappingCopiesUptoCard : Claim7 := { stood := { row := mappingCopiesUptoRow, standIns := [], harness := (true, "dd306b78007812cfc8fd5eb448c3979761c21c923e3c6cd3116bf1c877280051"), looks := true }, kinds := [], alts := [], laidByText := true, laidKinds := [.handle], laidTests := true, laidLooks := .later }
def MappingCopiesUptoCardSaid : Prop := Claim7.holds Tryd.pinned (.plain (OpenSpec.upto mappingCopiesSpec)) mappingCopiesUptoCard

/-- THE SECOND FORM's CARD OF 'rowlocklaw05.MappingBack'. -/
def mappingBackUptoCard : Claim7 := { stood := { row := mappingBackUptoRow, standIns := [], harness := (true, "dd306b78007812cfc8fd5eb448c3979761c21c923e3c6cd3116bf1c877280051"), looks := true }, kinds := [], alts := [], laidByText := true, laidKinds := [.handle], laidTests := true, laidLooks := .later }
def MappingBackUptoCardSaid : Prop := Claim7.holds Tryd.pinned (.plain (OpenSpec.upto mappingBackSpec)) mappingBackUptoCard
end Rows
end Go.Proofs.YtfdgfonffocenaaDoor
