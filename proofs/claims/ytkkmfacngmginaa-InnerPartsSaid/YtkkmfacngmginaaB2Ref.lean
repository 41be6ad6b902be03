/- The document's own functions on texts (layer 2), by contracts: Before, Right, In, Between give what the plain functions on lists of bytes give. -/
import Derived.Test.YtkkmfacngmginaaBkMath
import Derived.Test.YtkkmfacngmginaaProg
import Derived.Deep.LoopGhost
import Derived.Deep.QuietTactic
import Derived.BigQuiet
import Derived.WalkSmall
import Derived.Lib.Hide
import Derived.RegionTactic
namespace Go.Proofs.Ytkkmfacngmginaa
open Go.RowKit

theorem retB {a b : Bool} (h : a = b) : Ending.returned (.bool a) = .returned (.bool b) := by rw [h]
theorem retI {k : IntKind} {a b : Int} (h : a = b) : Ending.returned (.int k a) = .returned (.int k b) := by rw [h]

/-- may a text of n bytes be a key? -/
def rgt (n : Nat) : Bool := decide (0 < n) && decide (n < 17)
/-- is key in the span? -/
def inn (low high : List UInt8) (unb : Bool) (key : List UInt8) : Bool := !bef key low && (unb || bef key high)
/-- the least beginning of b that is behind a -/
def btw (a b : ByteArray) : ByteArray := b.extract 0 (com a.data.toList b.data.toList + 1)
theorem ext_take (b : ByteArray) (k : Nat) : (b.extract 0 k).data.toList = b.data.toList.take k := by simp
theorem ext_size (b : ByteArray) (k : Nat) (h : k ≤ b.size) : (b.extract 0 k).size = k := by simp; omega
end Go.Proofs.Ytkkmfacngmginaa
