/-
  DERIVED. GIVEN WITH THE SEED: THE CARDS: each row of YtkkmfacngmginaaDoorRows.lean that lists a variable, with what it lists TIED to the program's text (the seventh form; the later family's looks); each row that meets fmt, with fmt's text TOLD by the authors' own Lean function (tested against real Go, not proved from fmt's source: count such statements apart). THE CARD IS WHAT COUNTS. Prove the row's statement (the work); the ties are given (YtkkmfacngmginaaDoorTie.lean); close each card by the builder's one call (the guide's Derived/Test/ToyasCard.lean, 'card_holds'). Laid BY PROGRAM, IN A SANDBOX (cutbox-door.mjs). By AI agents, Wed Nov 11 2026. No macro, syntax, notation, axiom, sorry.
-/
import Derived.Test.YtkkmfacngmginaaDoorRows
import GoSem.ClaimSeven
namespace Go.Proofs.YtkkmfacngmginaaDoor
namespace Rows

/-- THE TIED CARD OF 'rowlocklaw08.InnerAsks'. -/
def innerAsksCard : Claim7 := { stood := { row := innerAsksRow, standIns := [], harness := (true, "f69da8922550a6b7a1fa908c7ef26ecedbcb6b95592ebc8ad682a0bca2bb4415"), looks := true }, kinds := [], alts := [], laidByText := true, laidKinds := [.handle], laidTests := true, laidLooks := .later }
def InnerAsksCardSaid : Prop := Claim7.holds Tryd.pinned (.plain (OpenSpec.ofChange innerAsksSpec)) innerAsksCard

/-- THE TIED CARD OF 'rowlocklaw08.InnerBuilds'. -/
def innerBuildsCard : Claim7 := { stood := { row := innerBuildsRow, standIns := [], harness := (true, "f69da8922550a6b7a1fa908c7ef26ecedbcb6b95592ebc8ad682a0bca2bb4415"), looks := true }, kinds := [], alts := [], laidByText := true, laidKinds := [.handle], laidTests := true, laidLooks := .later }
def InnerBuildsCardSaid : Prop := Claim7.holds Tryd.pinned (.plain (OpenSpec.ofChange innerBuildsSpec)) innerBuildsCard

/-- THE TIED CARD OF 'rowlocklaw09.MemChains'. -/
def memChainsCard : Claim7 := { stood := { row := memChainsRow, standIns := [], harness := (true, "f69da8922550a6b7a1fa908c7ef26ecedbcb6b95592ebc8ad682a0bca2bb4415"), looks := true }, kinds := [], alts := [], laidByText := true, laidKinds := [.handle], laidTests := true, laidLooks := .later }
def MemChainsCardSaid : Prop := Claim7.holds Tryd.pinned (.plain (OpenSpec.ofChange memChainsSpec)) memChainsCard

/-- THE SECOND FORM's CARD OF 'rowlocklaw08.InnerAsks'. -/
def innerAsksUptoCard : Claim7 := { stood := { row := innerAsksUptoRow, standIns := [], harness := (true, "f69da8922550a6b7a1fa908c7ef26ecedbcb6b95592ebc8ad682a0bca2bb4415"), looks := true }, kinds := [], alts := [], laidByText := true, laidKinds := [.handle], laidTests := true, laidLooks := .later }
def InnerAsksUptoCardSaid : Prop := Claim7.holds Tryd.pinned (.plain (OpenSpec.upto innerAsksSpec)) innerAsksUptoCard

/-- THE SECOND FORM's CARD OF 'rowlocklaw08.InnerBuilds'. -/
def innerBuildsUptoCard : Claim7 := { stood := { row := innerBuildsUptoRow, standIns := [], harness := (true, "f69da8922550a6b7a1fa908c7ef26ecedbcb6b95592ebc8ad682a0bca2bb4415"), looks := true }, kinds := [], alts := [], laidByText := true, laidKinds := [.handle], laidTests := true, laidLooks := .later }
def InnerBuildsUptoCardSaid : Prop := Claim7.holds Tryd.pinned (.plain (OpenSpec.upto innerBuildsSpec)) innerBuildsUptoCard

/-- THE SECOND FORM's CARD OF 'rowlocklaw09.MemChains'. -/
def memChainsUptoCard : Claim7 := { stood := { row := memChainsUptoRow, standIns := [], harness := (true, "f69da8922550a6b7a1fa908c7ef26ecedbcb6b95592ebc8ad682a0bca2bb4415"), looks := true }, kinds := [], alts := [], laidByText := true, laidKinds := [.handle], laidTests := true, laidLooks := .later }
def MemChainsUptoCardSaid : Prop := Claim7.holds Tryd.pinned (.plain (OpenSpec.upto memChainsSpec)) memChainsUptoCard
end Rows
end Go.Proofs.YtkkmfacngmginaaDoor
