/-
  DERIVED. GIVEN WITH THE SEED: THE CARDS: each row of YtfdgfonffocenabDoorRows.lean that lists a variable, with what it lists TIED to the program's text (the seventh form; the later family's looks); each row that meets fmt, with fmt's text TOLD by the authors' own Lean function (tested against real Go, not proved from fmt's source: count such statements apart). THE CARD IS WHAT COUNTS. Prove the row's statement (the work); the ties are given (YtfdgfonffocenabDoorTie.lean); close each card by the builder's one call (the guide's Derived/Test/ToyasCard.lean, 'card_holds'). Laid BY PROGRAM, IN A SANDBOX (cutbox-door.mjs). By AI agents, Wed Nov 11 2026. No macro, syntax, notation, axiom, sorry.
-/
import Derived.Test.YtfdgfonffocenabDoorRows
import GoSem.ClaimSeven
namespace Go.Proofs.YtfdgfonffocenabDoor
namespace Rows

/-- THE TIED CARD OF 'rowlocklaw05.MappingAlone'. -/
def mappingAloneCard : Claim7 := { stood := { row := mappingAloneRow, standIns := [], harness := (true, "c587ae9b2a1afe9b71999c15ccbec44da8eff5129a096a14a023d0cfc1d1d6a0"), looks := true }, kinds := [], alts := [], laidByText := true, laidKinds := [.handle], laidTests := true, laidLooks := .later }
def MappingAloneCardSaid : Prop := Claim7.holds Tryd.pinned (.plain (OpenSpec.ofChange mappingAloneSpec)) mappingAloneCard

/-- THE SECOND FORM's CARD OF 'rowlocklaw05.MappingAlone'. -/
def mappingAloneUptoCard : Claim7 := { stood := { row := mappingAloneUptoRow, standIns := [], harness := (true, "c587ae9b2a1afe9b71999c15ccbec44da8eff5129a096a14a023d0cfc1d1d6a0"), looks := true }, kinds := [], alts := [], laidByText := true, laidKinds := [.handle], laidTests := true, laidLooks := .later }
def MappingAloneUptoCardSaid : Prop := Claim7.holds Tryd.pinned (.plain (OpenSpec.upto mappingAloneSpec)) mappingAloneUptoCard
end Rows
end Go.Proofs.YtfdgfonffocenabDoor
