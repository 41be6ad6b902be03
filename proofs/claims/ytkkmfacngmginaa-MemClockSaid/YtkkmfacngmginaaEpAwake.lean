/- Package epoch: what layer 6's laws ask ahead of all: awake is true. -/
import Derived.Test.YtkkmfacngmginaaMm
import Derived.Test.YtkkmfacngmginaaEpMore
namespace Go.Proofs.Ytkkmfacngmginaa
open Go.RowKit Go.Maps

theorem cs_low {n cb mb : Nat} (h1 : n ≤ cb) (h2 : n ≤ mb) : ∀ k, CS cb mb k → n ≤ k := fun k e => by
  rcases e with rfl | rfl
  · exact h1
  · exact h2
end Go.Proofs.Ytkkmfacngmginaa
