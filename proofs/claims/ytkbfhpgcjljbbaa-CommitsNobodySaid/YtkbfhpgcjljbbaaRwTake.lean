/- The document's own functions on rows (layer 3), by contracts: Take. -/
import Derived.Test.YtkbfhpgcjljbbaaRwHalve
namespace Go.Proofs.Ytkbfhpgcjljbbaa
open Go.RowKit

/-- is a row's key in the span? -/
def inR (low high : ByteArray) (unb : Bool) (r : Rw) : Bool := inn low.data.toList high.data.toList unb r.1.data.toList
/-- those of rows that are in a span, rising or falling, with no limit; and with one -/
def accR (low high : ByteArray) (unb rev : Bool) (rs : List Rw) : List Rw := if rev then (rs.filter (inR low high unb)).reverse else rs.filter (inR low high unb)
def takeR (low high : ByteArray) (unb rev : Bool) (limit : Int) (rs : List Rw) : List Rw := if 1 ≤ limit then (accR low high unb rev rs).take limit.toNat else accR low high unb rev rs
theorem accR_small {low high : ByteArray} {unb rev : Bool} {rs : List Rw} (h : Small rs) : Small (accR low high unb rev rs) := by
  unfold accR
  split
  · exact (h.filter _).reverse
  · exact h.filter _
theorem accR_len (low high : ByteArray) (unb rev : Bool) (rs : List Rw) : (accR low high unb rev rs).length ≤ rs.length := by
  unfold accR
  split
  · rw [List.length_reverse]; exact List.length_filter_le _ _
  · exact List.length_filter_le _ _
theorem accR_no {low high : ByteArray} {unb rev : Bool} {rs : List Rw} {k : Nat} (hk : k < rs.length) (h : inR low high unb (rs.getD k r0) = false) : accR low high unb rev (rs.take (k + 1)) = accR low high unb rev (rs.take k) := by
  have e : (rs.take (k + 1)).filter (inR low high unb) = (rs.take k).filter (inR low high unb) := by
    rw [take_at hk, List.filter_append, List.filter_cons, if_neg (by rw [h]; simp), List.filter_nil, List.append_nil]
  unfold accR
  rw [e]
theorem accR_up {low high : ByteArray} {unb : Bool} {rs : List Rw} {k : Nat} (hk : k < rs.length) (h : inR low high unb (rs.getD k r0) = true) : accR low high unb false (rs.take (k + 1)) = accR low high unb false (rs.take k) ++ [rs.getD k r0] := by
  unfold accR
  rw [take_at hk, List.filter_append, List.filter_cons, if_pos h, List.filter_nil]
  rfl
theorem accR_down {low high : ByteArray} {unb : Bool} {rs : List Rw} {k : Nat} (hk : k < rs.length) (h : inR low high unb (rs.getD k r0) = true) : accR low high unb true (rs.take (k + 1)) = [rs.getD k r0] ++ accR low high unb true (rs.take k) := by
  unfold accR
  rw [take_at hk, List.filter_append, List.filter_cons, if_pos h, List.filter_nil]
  show (List.filter _ _ ++ [_]).reverse = _
  rw [List.reverse_append]
  rfl
end Go.Proofs.Ytkbfhpgcjljbbaa
