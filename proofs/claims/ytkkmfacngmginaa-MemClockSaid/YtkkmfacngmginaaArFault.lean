/- fault.Is at a code, of a code and of nil, by contracts. -/
import Derived.Test.YtkkmfacngmginaaMm
import Derived.Test.YtkkmfacngmginaaErrIs
import Derived.Test.YtkkmfacngmginaaArSame
import Derived.Defers
import Derived.Recover
namespace Go.Proofs.Ytkkmfacngmginaa
open Go.RowKit Go.Extern.Stop Go.Stop Go.Extern

end Go.Proofs.Ytkkmfacngmginaa
