/- A block that holds a record; the document's own Same of two records that read the same. -/
import Derived.Test.YtkkmfacngmginaaLfRec
import Derived.Test.YtkkmfacngmginaaRwSB
import Derived.Test.YtkkmfacngmginaaB2Ref
import Derived.Deep.LoopGhost
import Derived.Deep.QuietTactic
import Derived.BigQuiet
import Derived.WalkSmall
import Derived.RegionTactic
import Derived.Deep.RegionHeld3
import Derived.WalkSpells
namespace Go.Proofs.Ytkkmfacngmginaa
open Go.RowKit

def recObj (s : Sc) (rv ev : Value) : Obj := .cells #[.int .i64 s.kind, .string s.low, .string s.high, .bool s.unb, .int .i64 s.right, rv, ev, .string s.key, .string s.value, .int .i64 s.page, .int .i64 s.hp, .int .i64 s.hl, .string s.hk, .int .i64 s.ns, .int .i64 s.ng] 39
structure RB (n : Nat) (s : Sc) (rv ev : Value) (w : World) : Prop where
  c0 : w.cell? ⟨n, 0, none⟩ = some (.int .i64 s.kind)
  c1 : w.cell? ⟨n, 1, none⟩ = some (.string s.low)
  c2 : w.cell? ⟨n, 2, none⟩ = some (.string s.high)
  c3 : w.cell? ⟨n, 3, none⟩ = some (.bool s.unb)
  c4 : w.cell? ⟨n, 4, none⟩ = some (.int .i64 s.right)
  c5 : w.cell? ⟨n, 5, none⟩ = some rv
  c6 : w.cell? ⟨n, 6, none⟩ = some ev
  c7 : w.cell? ⟨n, 7, none⟩ = some (.string s.key)
  c8 : w.cell? ⟨n, 8, none⟩ = some (.string s.value)
  c9 : w.cell? ⟨n, 9, none⟩ = some (.int .i64 s.page)
  c10 : w.cell? ⟨n, 10, none⟩ = some (.int .i64 s.hp)
  c11 : w.cell? ⟨n, 11, none⟩ = some (.int .i64 s.hl)
  c12 : w.cell? ⟨n, 12, none⟩ = some (.string s.hk)
  c13 : w.cell? ⟨n, 13, none⟩ = some (.int .i64 s.ns)
  c14 : w.cell? ⟨n, 14, none⟩ = some (.int .i64 s.ng)
theorem RB.step {n : Nat} {s : Sc} {rv ev : Value} {w w' : World} (h : RB n s rv ev w) (hs : Below w.heap.size w w') : RB n s rv ev w' :=
  ⟨cell_step h.c0 hs, cell_step h.c1 hs, cell_step h.c2 hs, cell_step h.c3 hs, cell_step h.c4 hs, cell_step h.c5 hs, cell_step h.c6 hs, cell_step h.c7 hs, cell_step h.c8 hs, cell_step h.c9 hs, cell_step h.c10 hs, cell_step h.c11 hs, cell_step h.c12 hs, cell_step h.c13 hs, cell_step h.c14 hs⟩
theorem RB.kept {S : Nat → Prop} {n : Nat} {s : Sc} {rv ev : Value} {w w' : World} (h : RB n s rv ev w) (hk : Kept S w w') (hn : ¬ S n) : RB n s rv ev w' :=
  ⟨hk.cell hn h.c0, hk.cell hn h.c1, hk.cell hn h.c2, hk.cell hn h.c3, hk.cell hn h.c4, hk.cell hn h.c5, hk.cell hn h.c6, hk.cell hn h.c7, hk.cell hn h.c8, hk.cell hn h.c9, hk.cell hn h.c10, hk.cell hn h.c11, hk.cell hn h.c12, hk.cell hn h.c13, hk.cell hn h.c14⟩
theorem RB.new (s : Sc) (rv ev : Value) (w : World) : RB w.heap.size s rv ev (w.alloc (recObj s rv ev)) :=
  ⟨by rw [recObj, World.cell?_alloc_at _ _ _ _ rfl]; rfl, by rw [recObj, World.cell?_alloc_at _ _ _ _ rfl]; rfl, by rw [recObj, World.cell?_alloc_at _ _ _ _ rfl]; rfl, by rw [recObj, World.cell?_alloc_at _ _ _ _ rfl]; rfl, by rw [recObj, World.cell?_alloc_at _ _ _ _ rfl]; rfl, by rw [recObj, World.cell?_alloc_at _ _ _ _ rfl]; rfl, by rw [recObj, World.cell?_alloc_at _ _ _ _ rfl]; rfl, by rw [recObj, World.cell?_alloc_at _ _ _ _ rfl]; rfl, by rw [recObj, World.cell?_alloc_at _ _ _ _ rfl]; rfl, by rw [recObj, World.cell?_alloc_at _ _ _ _ rfl]; rfl, by rw [recObj, World.cell?_alloc_at _ _ _ _ rfl]; rfl, by rw [recObj, World.cell?_alloc_at _ _ _ _ rfl]; rfl, by rw [recObj, World.cell?_alloc_at _ _ _ _ rfl]; rfl, by rw [recObj, World.cell?_alloc_at _ _ _ _ rfl]; rfl, by rw [recObj, World.cell?_alloc_at _ _ _ _ rfl]; rfl⟩
end Go.Proofs.Ytkkmfacngmginaa
