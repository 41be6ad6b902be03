/- The document's own functions on rows (layer 3), by contracts: Drop, Put. -/
import Derived.Test.YtkbfhpgcjljbbaaDoorRwFew
import Derived.Deep.RegionHeldLaw
namespace Go.Proofs.YtkbfhpgcjljbbaaDoor
open Go.RowKit

def dropR (rs : List Rw) (key : ByteArray) : List Rw := if (fnd rs key).2 then rs.take (fnd rs key).1 ++ rs.drop ((fnd rs key).1 + 1) else rs
def putR (rs : List Rw) (r : Rw) : List Rw := rs.take (fnd rs r.1).1 ++ [r] ++ rs.drop ((fnd rs r.1).1 + if (fnd rs r.1).2 then 1 else 0)
theorem put_hold {n B : Nat} {w w' : World} {k x : ByteArray} {v : Value} {rs : List Rw} (h : Below n w w' ∧ n ≤ w'.heap.size ∧ w'.cell? ⟨B, 0, none⟩ = some (.string k) ∧ w'.cell? ⟨B, 1, none⟩ = some (.string x) ∧ RowsV w' v rs) (o : Obj) :
    Below n w (w'.alloc o) ∧ n ≤ (w'.alloc o).heap.size ∧ (w'.alloc o).cell? ⟨B, 0, none⟩ = some (.string k) ∧ (w'.alloc o).cell? ⟨B, 1, none⟩ = some (.string x) ∧ RowsV (w'.alloc o) v rs :=
  ⟨h.1.trans ((alloc_below0 w' o).mono h.2.1), by simp; omega, ((alloc_below0 w' o).cell (p := ⟨B, 0, none⟩) (lt_of_cell h.2.2.1)).trans h.2.2.1, ((alloc_below0 w' o).cell (p := ⟨B, 1, none⟩) (lt_of_cell h.2.2.2.1)).trans h.2.2.2.1, h.2.2.2.2.alloc o⟩
end Go.Proofs.YtkbfhpgcjljbbaaDoor
