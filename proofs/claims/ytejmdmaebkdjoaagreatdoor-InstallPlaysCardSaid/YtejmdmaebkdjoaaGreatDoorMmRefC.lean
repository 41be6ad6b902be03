/- The document's own Chain (layer 9), by a contract. -/
import Derived.Test.YtejmdmaebkdjoaaGreatDoorMmRefN
namespace Go.Proofs.YtejmdmaebkdjoaaGreatDoor
set_option linter.unusedVariables false
set_option linter.unusedSimpArgs false
open Go.RowKit
end Go.Proofs.YtejmdmaebkdjoaaGreatDoor
