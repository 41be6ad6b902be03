/- Plain: texts as lists of bytes: their order, what two begin with alike. No program is named here. -/
import Derived.WalkKit
namespace Go.Proofs.YtejmdmaebkdjoaaGreatDoor
set_option linter.unusedVariables false
set_option linter.unusedSimpArgs false
end Go.Proofs.YtejmdmaebkdjoaaGreatDoor
