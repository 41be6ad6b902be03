/- A step of layer 6's laws: its value, and a block that holds it. -/
import Derived.Test.YtkkmfacngmginaaMm
import Derived.Test.YtkkmfacngmginaaEpAwake
namespace Go.Proofs.Ytkkmfacngmginaa
open Go.RowKit

def ep_doVal (v t a : Int) : Value := .agg #[.int .i64 v, .int .i64 t, .int .i64 a]
structure DoAt (w : World) (b : Nat) (v t a : Int) : Prop where
  c0 : w.cell? ⟨b, 0, none⟩ = some (.int .i64 v)
  c1 : w.cell? ⟨b, 1, none⟩ = some (.int .i64 t)
  c2 : w.cell? ⟨b, 2, none⟩ = some (.int .i64 a)
theorem DoAt.step {w w' : World} {b : Nat} {v t a : Int} (h : DoAt w b v t a) (hs : Below w.heap.size w w') : DoAt w' b v t a := ⟨cell_step h.c0 hs, cell_step h.c1 hs, cell_step h.c2 hs⟩
theorem DoAt.keep {w w' : World} {b : Nat} {v t a : Int} (h : DoAt w b v t a) {S : Nat → Prop} (hk : Kept S w w') (hn : ¬ S b) : DoAt w' b v t a := ⟨hk.cell hn h.c0, hk.cell hn h.c1, hk.cell hn h.c2⟩
end Go.Proofs.Ytkkmfacngmginaa
