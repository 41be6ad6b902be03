/- Writing into slices of a call's own: one element after the other. -/
import Derived.Test.YtkkmfacngmginaaMm
import Derived.Test.YtkkmfacngmginaaArDo
namespace Go.Proofs.Ytkkmfacngmginaa
open Go.RowKit
variable {α : Type}

end Go.Proofs.Ytkkmfacngmginaa
