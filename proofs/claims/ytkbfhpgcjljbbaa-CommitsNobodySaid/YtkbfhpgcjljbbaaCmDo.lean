/- A step of the laws' (layer 16): its value, and what a law reads of it. -/
import Derived.Test.YtkbfhpgcjljbbaaCmMem
namespace Go.Proofs.Ytkbfhpgcjljbbaa
set_option linter.unusedVariables false
set_option linter.unusedSimpArgs false
open Go.RowKit

def doV (verb n th : Int) (r : Bool) (L : Value) : Value := .agg #[.int .i64 verb, .int .i64 n, .int .i64 th, .bool r, L]
def doO (verb n th : Int) (r : Bool) (L : Value) : Obj := .cells #[.int .i64 verb, .int .i64 n, .int .i64 th, .bool r, L] 59
/-- what a law reads of a step that lies in block b -/
structure DoAt (b : Nat) (verb n th : Int) (r : Bool) (L : Value) (w : World) : Prop where
  c0 : w.cell? ⟨b, 0, none⟩ = some (.int .i64 verb)
  c1 : w.cell? ⟨b, 1, none⟩ = some (.int .i64 n)
  c2 : w.cell? ⟨b, 2, none⟩ = some (.int .i64 th)
  c3 : w.cell? ⟨b, 3, none⟩ = some (.bool r)
  c4 : w.cell? ⟨b, 4, none⟩ = some L
theorem DoAt.new (verb n th : Int) (r : Bool) (L : Value) (w : World) : DoAt w.heap.size verb n th r L (w.alloc (doO verb n th r L)) := by
  unfold doO
  exact ⟨by rw [World.cell?_alloc_at _ _ _ _ rfl]; rfl, by rw [World.cell?_alloc_at _ _ _ _ rfl]; rfl, by rw [World.cell?_alloc_at _ _ _ _ rfl]; rfl, by rw [World.cell?_alloc_at _ _ _ _ rfl]; rfl, by rw [World.cell?_alloc_at _ _ _ _ rfl]; rfl⟩
theorem DoAt.step {b : Nat} {verb n th : Int} {r : Bool} {L : Value} {w w' : World} (h : DoAt b verb n th r L w) (hs : Below w.heap.size w w') : DoAt b verb n th r L w' :=
  ⟨cell_step h.c0 hs, cell_step h.c1 hs, cell_step h.c2 hs, cell_step h.c3 hs, cell_step h.c4 hs⟩
theorem DoAt.keep {S : Nat → Prop} {b : Nat} {verb n th : Int} {r : Bool} {L : Value} {w w' : World} (h : DoAt b verb n th r L w) (hk : Kept S w w') (hn : ¬ S b) : DoAt b verb n th r L w' :=
  ⟨hk.cell hn h.c0, hk.cell hn h.c1, hk.cell hn h.c2, hk.cell hn h.c3, hk.cell hn h.c4⟩
end Go.Proofs.Ytkbfhpgcjljbbaa
