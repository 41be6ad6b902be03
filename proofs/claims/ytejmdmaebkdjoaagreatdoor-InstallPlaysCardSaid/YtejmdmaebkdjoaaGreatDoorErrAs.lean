/- errors.As of nil and of a code at *api.Code; fault.Code of both; by contracts. No package of the program but fault is named here. -/
import Derived.Test.YtejmdmaebkdjoaaGreatDoorProg
import Derived.Test.YtejmdmaebkdjoaaGreatDoorKit
import Derived.WalkKit
import Derived.LaidEql
import Derived.Stop.Asserts
import Derived.RowKitTokens
import Derived.Deep.LoopGhost
import Derived.WalkSmall
import Derived.Defers
import Derived.Recover
namespace Go.Proofs.YtejmdmaebkdjoaaGreatDoor.Ea
set_option linter.unusedVariables false
set_option linter.unusedSimpArgs false
open Go.RowKit Go.Extern.Stop Go.Stop Go.Extern
def Glob (w : World) : Prop := w.cell? ⟨0, 0, none⟩ = some (.iface 208 (.agg #[.pointer (some ⟨1, 30, none⟩)]))
end Go.Proofs.YtejmdmaebkdjoaaGreatDoor.Ea
