/-
  DERIVED. GIVEN WITH THE SEED: THE CARDS: each row of YtkbfhpgcjljbbaaDoorRows.lean that lists a variable, with what it lists TIED to the program's text (the seventh form; the later family's looks); each row that meets fmt, with fmt's text TOLD by the authors' own Lean function (tested against real Go, not proved from fmt's source: count such statements apart). THE CARD IS WHAT COUNTS. Prove the row's statement (the work); the ties are given (YtkbfhpgcjljbbaaDoorTie.lean); close each card by the builder's one call (the guide's Derived/Test/ToyasCard.lean, 'card_holds'). Laid BY PROGRAM, IN A SANDBOX (cutbox-door.mjs). By AI agents, Wed Nov 11 2026. No macro, syntax, notation, axiom, sorry.
-/
import Derived.Test.YtkbfhpgcjljbbaaDoorRows
import GoSem.ClaimSeven
namespace Go.Proofs.YtkbfhpgcjljbbaaDoor
namespace Rows

/-- THE TIED CARD OF 'rowlocklaw16.CommitsPlays'. -/
def commitsPlaysCard : Claim7 := { stood := { row := commitsPlaysRow, standIns := [], harness := (true, "314af6b96079252c432344fe2fc95e5aec54a8325a01123d84555f6c7e7deef6"), looks := true }, kinds := [], alts := [], laidByText := true, laidKinds := [.handle], laidTests := true, laidLooks := .later }
def CommitsPlaysCardSaid : Prop := Claim7.holds Tryd.pinned (.plain (OpenSpec.ofChange commitsPlaysSpec)) commitsPlaysCard

/-- THE TIED CARD OF 'rowlocklaw16.CommitsCopies'. -/
def commitsCopiesCard : Claim7 := { stood := { row := commitsCopiesRow, standIns := [], harness := (true, "314af6b96079252c432344fe2fc95e5aec54a8325a01123d84555f6c7e7deef6"), looks := true }, kinds := [], alts := [], laidByText := true, laidKinds := [.handle], laidTests := true, laidLooks := .later }
def CommitsCopiesCardSaid : Prop := Claim7.holds Tryd.pinned (.plain (OpenSpec.ofChange commitsCopiesSpec)) commitsCopiesCard

/-- THE TIED CARD OF 'rowlocklaw16.CommitsMonotone'. -/
def commitsMonotoneCard : Claim7 := { stood := { row := commitsMonotoneRow, standIns := [], harness := (true, "314af6b96079252c432344fe2fc95e5aec54a8325a01123d84555f6c7e7deef6"), looks := true }, kinds := [], alts := [], laidByText := true, laidKinds := [.handle], laidTests := true, laidLooks := .later }
def CommitsMonotoneCardSaid : Prop := Claim7.holds Tryd.pinned (.plain (OpenSpec.ofChange commitsMonotoneSpec)) commitsMonotoneCard

/-- THE SECOND FORM's CARD OF 'rowlocklaw16.CommitsPlays'. -/
def commitsPlaysUptoCard : Claim7 := { stood := { row := commitsPlaysUptoRow, standIns := [], harness := (true, "314af6b96079252c432344fe2fc95e5aec54a8325a01123d84555f6c7e7deef6"), looks := true }, kinds := [], alts := [], laidByText := true, laidKinds := [.handle], laidTests := true, laidLooks := .later }
def CommitsPlaysUptoCardSaid : Prop := Claim7.holds Tryd.pinned (.plain (OpenSpec.upto commitsPlaysSpec)) commitsPlaysUptoCard

/-- THE SECOND FORM's CARD OF 'rowlocklaw16.CommitsCopies'. -/
def commitsCopiesUptoCard : Claim7 := { stood := { row := commitsCopiesUptoRow, standIns := [], harness := (true, "314af6b96079252c432344fe2fc95e5aec54a8325a01123d84555f6c7e7deef6"), looks := true }, kinds := [], alts := [], laidByText := true, laidKinds := [.handle], laidTests := true, laidLooks := .later }
def CommitsCopiesUptoCardSaid : Prop := Claim7.holds Tryd.pinned (.plain (OpenSpec.upto commitsCopiesSpec)) commitsCopiesUptoCard

/-- THE SECOND FORM's CARD OF 'rowlocklaw16.CommitsMonotone'. -/
def commitsMonotoneUptoCard : Claim7 := { stood := { row := commitsMonotoneUptoRow, standIns := [], harness := (true, "314af6b96079252c432344fe2fc95e5aec54a8325a01123d84555f6c7e7deef6"), looks := true }, kinds := [], alts := [], laidByText := true, laidKinds := [.handle], laidTests := true, laidLooks := .later }
def CommitsMonotoneUptoCardSaid : Prop := Claim7.holds Tryd.pinned (.plain (OpenSpec.upto commitsMonotoneSpec)) commitsMonotoneUptoCard
end Rows
end Go.Proofs.YtkbfhpgcjljbbaaDoor
