/- A block that holds a span. -/
import Derived.Test.YtkbfhpgcjljbbaaDoorKit
namespace Go.Proofs.YtkbfhpgcjljbbaaDoor
open Go.RowKit

theorem cell_step {w w' : World} {b o : Nat} {v : Value} (h : w.cell? ⟨b, o, none⟩ = some v) (hs : Below w.heap.size w w') : w'.cell? ⟨b, o, none⟩ = some v := (hs.cell (p := ⟨b, o, none⟩) (lt_of_cell h)).trans h
/-- block n holds a span -/
structure SB (n : Nat) (l h : ByteArray) (u : Bool) (w : World) : Prop where
  c0 : w.cell? ⟨n, 0, none⟩ = some (.string l)
  c1 : w.cell? ⟨n, 1, none⟩ = some (.string h)
  c2 : w.cell? ⟨n, 2, none⟩ = some (.bool u)
theorem SB.step {n : Nat} {l h : ByteArray} {u : Bool} {w w' : World} (s : SB n l h u w) (hs : Below w.heap.size w w') : SB n l h u w' :=
  ⟨(hs.cell (p := ⟨n, 0, none⟩) (lt_of_cell s.c0)).trans s.c0, (hs.cell (p := ⟨n, 1, none⟩) (lt_of_cell s.c1)).trans s.c1, (hs.cell (p := ⟨n, 2, none⟩) (lt_of_cell s.c2)).trans s.c2⟩
theorem SB.new (l h : ByteArray) (u : Bool) (w : World) (t : TypeId) : SB w.heap.size l h u (w.alloc (.cells #[.string l, .string h, .bool u] t)) :=
  ⟨by rw [World.cell?_alloc_at _ _ _ _ rfl]; rfl, by rw [World.cell?_alloc_at _ _ _ _ rfl]; rfl, by rw [World.cell?_alloc_at _ _ _ _ rfl]; rfl⟩
/-- block n holds a key and a value -/
structure PB (n : Nat) (k x : ByteArray) (w : World) : Prop where
  c0 : w.cell? ⟨n, 0, none⟩ = some (.string k)
  c1 : w.cell? ⟨n, 1, none⟩ = some (.string x)
theorem PB.step {n : Nat} {k x : ByteArray} {w w' : World} (s : PB n k x w) (hs : Below w.heap.size w w') : PB n k x w' :=
  ⟨(hs.cell (p := ⟨n, 0, none⟩) (lt_of_cell s.c0)).trans s.c0, (hs.cell (p := ⟨n, 1, none⟩) (lt_of_cell s.c1)).trans s.c1⟩
theorem PB.new (k x : ByteArray) (w : World) (t : TypeId) : PB w.heap.size k x (w.alloc (.cells #[.string k, .string x] t)) :=
  ⟨by rw [World.cell?_alloc_at _ _ _ _ rfl]; rfl, by rw [World.cell?_alloc_at _ _ _ _ rfl]; rfl⟩
end Go.Proofs.YtkbfhpgcjljbbaaDoor
