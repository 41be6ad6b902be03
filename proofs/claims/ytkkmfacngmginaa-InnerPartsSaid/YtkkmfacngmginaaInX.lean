/- What package inner owes (layer 8), shown of the landed code. -/
import Derived.Test.YtkkmfacngmginaaInFold
import Derived.Test.YtkkmfacngmginaaInChild
import Derived.Test.YtkkmfacngmginaaInHold4
import Derived.Test.YtkkmfacngmginaaInSplit
import Derived.Test.YtkkmfacngmginaaInGrow
namespace Go.Proofs.Ytkkmfacngmginaa
open Go.RowKit

theorem inc : InC where
  fold base u ds w h hl hs := foldI_any base u ds w h hl hs
  child _ v en key w h hr hl _ _ := childI_any v en key w h.sv hr (Nat.le_trans hl (by decide))
  has _ v en key w h hr hl _ _ := hasI_any v en key w h.sv hr (Nat.le_trans hl (by decide))
  base _ v en w h hl hz := baseI_any v en w h.sv hl hz
  split _ v en p w h hl hz hw := split_yes v en p w h.sv hw hl hz
  splitNo _ v en p w h hl _ hw := split_no v en p w h.sv hw (Nat.le_trans hl (by decide))
  grow _ v en l r w h hl hz hw := grow_yes v en l r w h.sv hw hl hz
  growNo _ v en l r w h hl _ hw := grow_no v en l r w h.sv hw (Nat.le_trans hl (by decide))
end Go.Proofs.Ytkkmfacngmginaa
