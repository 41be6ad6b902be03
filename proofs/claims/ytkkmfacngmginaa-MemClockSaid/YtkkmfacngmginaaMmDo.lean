/- A step of layer 9's laws in memory. -/
import Derived.Test.YtkkmfacngmginaaMmAwake
namespace Go.Proofs.Ytkkmfacngmginaa
open Go.RowKit

structure DM where
  verb : Int
  n : Int
  at_ : Int
  right : Bool
  xs : Int
  xg : Int
  ys : Int
  yg : Int
  r : RcL
def DM.cells (d : DM) : List Value := .int .i64 d.verb :: .int .i64 d.n :: .int .i64 d.at_ :: .bool d.right :: .int .i64 d.xs :: .int .i64 d.xg :: .int .i64 d.ys :: .int .i64 d.yg :: d.r.cells
def dmVal (d : DM) : Value := .agg #[.int .i64 d.verb, .int .i64 d.n, .int .i64 d.at_, .bool d.right, .int .i64 d.xs, .int .i64 d.xg, .int .i64 d.ys, .int .i64 d.yg, .int .i64 d.r.sc.kind, .string d.r.sc.low, .string d.r.sc.high, .bool d.r.sc.unb, .int .i64 d.r.sc.right, .slice d.r.ra d.r.rn d.r.rc, .slice d.r.ea d.r.en d.r.ec, .string d.r.sc.key, .string d.r.sc.value, .int .i64 d.r.sc.page, .int .i64 d.r.sc.hp, .int .i64 d.r.sc.hl, .string d.r.sc.hk, .int .i64 d.r.sc.ns, .int .i64 d.r.sc.ng]
def dmObj (d : DM) : Obj := .cells #[.int .i64 d.verb, .int .i64 d.n, .int .i64 d.at_, .bool d.right, .int .i64 d.xs, .int .i64 d.xg, .int .i64 d.ys, .int .i64 d.yg, .int .i64 d.r.sc.kind, .string d.r.sc.low, .string d.r.sc.high, .bool d.r.sc.unb, .int .i64 d.r.sc.right, .slice d.r.ra d.r.rn d.r.rc, .slice d.r.ea d.r.en d.r.ec, .string d.r.sc.key, .string d.r.sc.value, .int .i64 d.r.sc.page, .int .i64 d.r.sc.hp, .int .i64 d.r.sc.hl, .string d.r.sc.hk, .int .i64 d.r.sc.ns, .int .i64 d.r.sc.ng] 52
/-- a step in a block -/
structure DmAt (w : World) (b : Nat) (d : DM) : Prop where
  blk : w.heap[b]? = some (dmObj d)
theorem DmAt.step {w w' : World} {b : Nat} {d : DM} (h : DmAt w b d) (hs : Below w.heap.size w w') : DmAt w' b d := ⟨blk_step h.blk hs⟩
theorem DmAt.new (d : DM) (w : World) : DmAt (w.alloc (dmObj d)) w.heap.size d := ⟨blk_new w _⟩
theorem DmAt.lt {w : World} {b : Nat} {d : DM} (h : DmAt w b d) : b < w.heap.size := (Array.getElem?_eq_some_iff.1 h.blk).1
theorem DmAt.keep {w w' : World} {b : Nat} {d : DM} (h : DmAt w b d) {S : Nat → Prop} (hk : Kept S w w') (hn : ¬ S b) : DmAt w' b d := ⟨(hk.block b h.lt hn).trans h.blk⟩
theorem DmAt.c0 {w : World} {b : Nat} {d : DM} (h : DmAt w b d) : w.cell? ⟨b, 0, none⟩ = some (.int .i64 d.verb) := blk_cell h.blk 0
theorem DmAt.c1 {w : World} {b : Nat} {d : DM} (h : DmAt w b d) : w.cell? ⟨b, 1, none⟩ = some (.int .i64 d.n) := blk_cell h.blk 1
theorem DmAt.c2 {w : World} {b : Nat} {d : DM} (h : DmAt w b d) : w.cell? ⟨b, 2, none⟩ = some (.int .i64 d.at_) := blk_cell h.blk 2
theorem DmAt.c4 {w : World} {b : Nat} {d : DM} (h : DmAt w b d) : w.cell? ⟨b, 4, none⟩ = some (.int .i64 d.xs) := blk_cell h.blk 4
theorem DmAt.c5 {w : World} {b : Nat} {d : DM} (h : DmAt w b d) : w.cell? ⟨b, 5, none⟩ = some (.int .i64 d.xg) := blk_cell h.blk 5
theorem DmAt.c6 {w : World} {b : Nat} {d : DM} (h : DmAt w b d) : w.cell? ⟨b, 6, none⟩ = some (.int .i64 d.ys) := blk_cell h.blk 6
theorem DmAt.c7 {w : World} {b : Nat} {d : DM} (h : DmAt w b d) : w.cell? ⟨b, 7, none⟩ = some (.int .i64 d.yg) := blk_cell h.blk 7
theorem DmAt.c13 {w : World} {b : Nat} {d : DM} (h : DmAt w b d) : w.cell? ⟨b, 13, none⟩ = some (.slice d.r.ra d.r.rn d.r.rc) := blk_cell h.blk 13
theorem DmAt.c14 {w : World} {b : Nat} {d : DM} (h : DmAt w b d) : w.cell? ⟨b, 14, none⟩ = some (.slice d.r.ea d.r.en d.r.ec) := blk_cell h.blk 14
theorem DmAt.rng {w : World} {b : Nat} {d : DM} (h : DmAt w b d) : w.rangeAt b 8 [.int .i64 d.r.sc.kind, .string d.r.sc.low, .string d.r.sc.high, .bool d.r.sc.unb, .int .i64 d.r.sc.right, .slice d.r.ra d.r.rn d.r.rc, .slice d.r.ea d.r.en d.r.ec, .string d.r.sc.key, .string d.r.sc.value, .int .i64 d.r.sc.page, .int .i64 d.r.sc.hp, .int .i64 d.r.sc.hl, .string d.r.sc.hk, .int .i64 d.r.sc.ns, .int .i64 d.r.sc.ng] := fun j u hj => by
  rw [blk_cell h.blk]
  rw [← hj]
  rcases j with _ | _ | _ | _ | _ | _ | _ | _ | _ | _ | _ | _ | _ | _ | _ | j
  all_goals first | rfl | simp at hj
end Go.Proofs.Ytkkmfacngmginaa
