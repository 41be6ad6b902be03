/- A step of layer 5's laws: its value, and a block that holds it. -/
import Derived.Test.YtfdgfonffocenaaDoorMpAwake
namespace Go.Proofs.YtfdgfonffocenaaDoor
open Go.RowKit

def doVal (v x : Int) (r : Bool) (os og ns ng : Int) : Value := .agg #[.int .i64 v, .int .i64 x, .bool r, .int .i64 os, .int .i64 og, .int .i64 ns, .int .i64 ng]
def doObj (v x : Int) (r : Bool) (os og ns ng : Int) : Obj := .cells #[.int .i64 v, .int .i64 x, .bool r, .int .i64 os, .int .i64 og, .int .i64 ns, .int .i64 ng] 34
structure DoAt (w : World) (b : Nat) (v x : Int) (r : Bool) (os og ns ng : Int) : Prop where
  c0 : w.cell? ⟨b, 0, none⟩ = some (.int .i64 v)
  c1 : w.cell? ⟨b, 1, none⟩ = some (.int .i64 x)
  c2 : w.cell? ⟨b, 2, none⟩ = some (.bool r)
  c3 : w.cell? ⟨b, 3, none⟩ = some (.int .i64 os)
  c4 : w.cell? ⟨b, 4, none⟩ = some (.int .i64 og)
  c5 : w.cell? ⟨b, 5, none⟩ = some (.int .i64 ns)
  c6 : w.cell? ⟨b, 6, none⟩ = some (.int .i64 ng)
theorem DoAt.of {w : World} {b : Nat} {v x : Int} {r : Bool} {os og ns ng : Int} (h : w.heap[b]? = some (doObj v x r os og ns ng)) : DoAt w b v x r os og ns ng :=
  ⟨blk_cell h 0, blk_cell h 1, blk_cell h 2, blk_cell h 3, blk_cell h 4, blk_cell h 5, blk_cell h 6⟩
theorem DoAt.new (v x : Int) (r : Bool) (os og ns ng : Int) (w : World) : DoAt (w.alloc (doObj v x r os og ns ng)) w.heap.size v x r os og ns ng := DoAt.of (blk_new w _)
theorem DoAt.step {w w' : World} {b : Nat} {v x : Int} {r : Bool} {os og ns ng : Int} (h : DoAt w b v x r os og ns ng) (hs : Below w.heap.size w w') : DoAt w' b v x r os og ns ng :=
  ⟨cell_step h.c0 hs, cell_step h.c1 hs, cell_step h.c2 hs, cell_step h.c3 hs, cell_step h.c4 hs, cell_step h.c5 hs, cell_step h.c6 hs⟩
theorem DoAt.keep {w w' : World} {b : Nat} {v x : Int} {r : Bool} {os og ns ng : Int} (h : DoAt w b v x r os og ns ng) {S : Nat → Prop} (hk : Kept S w w') (hn : ¬ S b) : DoAt w' b v x r os og ns ng :=
  ⟨hk.cell hn h.c0, hk.cell hn h.c1, hk.cell hn h.c2, hk.cell hn h.c3, hk.cell hn h.c4, hk.cell hn h.c5, hk.cell hn h.c6⟩
/-- a block of a ref -/
structure RfAt (w : World) (b : Nat) (s g : Int) : Prop where
  c0 : w.cell? ⟨b, 0, none⟩ = some (.int .i64 s)
  c1 : w.cell? ⟨b, 1, none⟩ = some (.int .i64 g)
theorem RfAt.of {w : World} {b : Nat} {s g : Int} {T : TypeId} (h : w.heap[b]? = some (.cells #[.int .i64 s, .int .i64 g] T)) : RfAt w b s g := ⟨blk_cell h 0, blk_cell h 1⟩
theorem RfAt.new (w : World) (s g : Int) (T : TypeId) : RfAt (w.alloc (.cells #[.int .i64 s, .int .i64 g] T)) w.heap.size s g := RfAt.of (blk_new w _)
theorem RfAt.step {w w' : World} {b : Nat} {s g : Int} (h : RfAt w b s g) (hs : Below w.heap.size w w') : RfAt w' b s g := ⟨cell_step h.c0 hs, cell_step h.c1 hs⟩
theorem RfAt.keep {w w' : World} {b : Nat} {s g : Int} (h : RfAt w b s g) {S : Nat → Prop} (hk : Kept S w w') (hn : ¬ S b) : RfAt w' b s g := ⟨hk.cell hn h.c0, hk.cell hn h.c1⟩
end Go.Proofs.YtfdgfonffocenaaDoor
