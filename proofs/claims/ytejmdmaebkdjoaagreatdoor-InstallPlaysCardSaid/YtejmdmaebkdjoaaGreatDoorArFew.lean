/- The laws' own few, by a contract. -/
import Derived.Test.YtejmdmaebkdjoaaGreatDoorMm
import Derived.Test.YtejmdmaebkdjoaaGreatDoorArVal
import Derived.Deep.MidRow
import Derived.Lib.LazyBuf
namespace Go.Proofs.YtejmdmaebkdjoaaGreatDoor
set_option linter.unusedVariables false
set_option linter.unusedSimpArgs false
open Go.RowKit
/-! ### Steps that came in -/
open Go.RowKit
end Go.Proofs.YtejmdmaebkdjoaaGreatDoor
