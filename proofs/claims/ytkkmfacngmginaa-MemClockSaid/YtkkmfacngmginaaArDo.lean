/- A step: its value, and a block that holds it. -/
import Derived.Test.YtkkmfacngmginaaMm
import Derived.Test.YtkkmfacngmginaaArC
namespace Go.Proofs.Ytkkmfacngmginaa
open Go.RowKit

def ar_doVal (verb : Int) (s : Sc) (rv en : Value) (x y : Int) (last : Bool) (nn : Int) : Value := .agg #[.int .i64 verb, .int .i64 s.kind, .string s.low, .string s.high, .bool s.unb, .int .i64 s.right, rv, en, .string s.key, .string s.value, .int .i64 s.page, .int .i64 s.hp, .int .i64 s.hl, .string s.hk, .int .i64 s.ns, .int .i64 s.ng, .int .i64 x, .int .i64 y, .bool last, .int .u8 nn]
structure DB (n : Nat) (verb : Int) (s : Sc) (rv en : Value) (x y : Int) (last : Bool) (nn : Int) (w : World) : Prop where
  c0 : w.cell? ⟨n, 0, none⟩ = some (.int .i64 verb)
  c1 : w.cell? ⟨n, 1, none⟩ = some (.int .i64 s.kind)
  c2 : w.cell? ⟨n, 2, none⟩ = some (.string s.low)
  c3 : w.cell? ⟨n, 3, none⟩ = some (.string s.high)
  c4 : w.cell? ⟨n, 4, none⟩ = some (.bool s.unb)
  c5 : w.cell? ⟨n, 5, none⟩ = some (.int .i64 s.right)
  c6 : w.cell? ⟨n, 6, none⟩ = some rv
  c7 : w.cell? ⟨n, 7, none⟩ = some en
  c8 : w.cell? ⟨n, 8, none⟩ = some (.string s.key)
  c9 : w.cell? ⟨n, 9, none⟩ = some (.string s.value)
  c10 : w.cell? ⟨n, 10, none⟩ = some (.int .i64 s.page)
  c11 : w.cell? ⟨n, 11, none⟩ = some (.int .i64 s.hp)
  c12 : w.cell? ⟨n, 12, none⟩ = some (.int .i64 s.hl)
  c13 : w.cell? ⟨n, 13, none⟩ = some (.string s.hk)
  c14 : w.cell? ⟨n, 14, none⟩ = some (.int .i64 s.ns)
  c15 : w.cell? ⟨n, 15, none⟩ = some (.int .i64 s.ng)
  c16 : w.cell? ⟨n, 16, none⟩ = some (.int .i64 x)
  c17 : w.cell? ⟨n, 17, none⟩ = some (.int .i64 y)
  c18 : w.cell? ⟨n, 18, none⟩ = some (.bool last)
  c19 : w.cell? ⟨n, 19, none⟩ = some (.int .u8 nn)
theorem DB.step {n : Nat} {verb : Int} {s : Sc} {rv en : Value} {x y : Int} {last : Bool} {nn : Int} {w w' : World} (h : DB n verb s rv en x y last nn w) (hs : Below w.heap.size w w') : DB n verb s rv en x y last nn w' :=
  ⟨cell_step h.c0 hs, cell_step h.c1 hs, cell_step h.c2 hs, cell_step h.c3 hs, cell_step h.c4 hs, cell_step h.c5 hs, cell_step h.c6 hs, cell_step h.c7 hs, cell_step h.c8 hs, cell_step h.c9 hs, cell_step h.c10 hs, cell_step h.c11 hs, cell_step h.c12 hs, cell_step h.c13 hs, cell_step h.c14 hs, cell_step h.c15 hs, cell_step h.c16 hs, cell_step h.c17 hs, cell_step h.c18 hs, cell_step h.c19 hs⟩
theorem DB.kept {n : Nat} {verb : Int} {s : Sc} {rv en : Value} {x y : Int} {last : Bool} {nn : Int} {S : Nat → Prop} {w w' : World} (h : DB n verb s rv en x y last nn w) (hk : Kept S w w') (hn : ¬ S n) : DB n verb s rv en x y last nn w' :=
  ⟨hk.cell hn h.c0, hk.cell hn h.c1, hk.cell hn h.c2, hk.cell hn h.c3, hk.cell hn h.c4, hk.cell hn h.c5, hk.cell hn h.c6, hk.cell hn h.c7, hk.cell hn h.c8, hk.cell hn h.c9, hk.cell hn h.c10, hk.cell hn h.c11, hk.cell hn h.c12, hk.cell hn h.c13, hk.cell hn h.c14, hk.cell hn h.c15, hk.cell hn h.c16, hk.cell hn h.c17, hk.cell hn h.c18, hk.cell hn h.c19⟩
/-- a block of two numbers -/
structure XB (n : Nat) (x y : Int) (w : World) : Prop where
  c0 : w.cell? ⟨n, 0, none⟩ = some (.int .i64 x)
  c1 : w.cell? ⟨n, 1, none⟩ = some (.int .i64 y)
theorem XB.step {n : Nat} {x y : Int} {w w' : World} (h : XB n x y w) (hs : Below w.heap.size w w') : XB n x y w' := ⟨cell_step h.c0 hs, cell_step h.c1 hs⟩
theorem XB.kept {S : Nat → Prop} {n : Nat} {x y : Int} {w w' : World} (h : XB n x y w) (hk : Kept S w w') (hn : ¬ S n) : XB n x y w' := ⟨hk.cell hn h.c0, hk.cell hn h.c1⟩
theorem XB.new (x y : Int) (w : World) (t : TypeId) : XB w.heap.size x y (w.alloc (.cells #[.int .i64 x, .int .i64 y] t)) := ⟨by rw [World.cell?_alloc_at _ _ _ _ rfl]; rfl, by rw [World.cell?_alloc_at _ _ _ _ rfl]; rfl⟩
end Go.Proofs.Ytkkmfacngmginaa
