/- Package install's settle, by contract. -/
import Derived.Test.YtaiaaljahnackaaMmOpsB
import Derived.Deep.LoopGhost
import Derived.Deep.MidRow
namespace Go.Proofs.Ytaiaaljahnackaa
open Go.RowKit

structure Ins where
  page : Int
  os : Int
  og : Int
  news : Nat
  fn : Value
  st : Nat
  pg : Nat → Int
  rc : Nat → Nat → Value
  rf : Nat → Rf
  tk : Nat
  pt : Nat
  sw : Nat
  dn : Bool
  er : Value
def Ins.list (i : Ins) : List Value := [.int .i64 i.page, .int .i64 i.os, .int .i64 i.og, .int .i64 (i.news : Int), i.fn, .int .i64 (i.st : Int), .int .i64 (i.pg 0), .int .i64 (i.pg 1), .int .i64 (i.pg 2), .int .i64 (i.pg 3), i.rc 0 0, i.rc 0 1, i.rc 0 2, i.rc 0 3, i.rc 0 4, i.rc 0 5, i.rc 0 6, i.rc 0 7, i.rc 0 8, i.rc 0 9, i.rc 0 10, i.rc 0 11, i.rc 0 12, i.rc 0 13, i.rc 0 14, i.rc 1 0, i.rc 1 1, i.rc 1 2, i.rc 1 3, i.rc 1 4, i.rc 1 5, i.rc 1 6, i.rc 1 7, i.rc 1 8, i.rc 1 9, i.rc 1 10, i.rc 1 11, i.rc 1 12, i.rc 1 13, i.rc 1 14, i.rc 2 0, i.rc 2 1, i.rc 2 2, i.rc 2 3, i.rc 2 4, i.rc 2 5, i.rc 2 6, i.rc 2 7, i.rc 2 8, i.rc 2 9, i.rc 2 10, i.rc 2 11, i.rc 2 12, i.rc 2 13, i.rc 2 14, i.rc 3 0, i.rc 3 1, i.rc 3 2, i.rc 3 3, i.rc 3 4, i.rc 3 5, i.rc 3 6, i.rc 3 7, i.rc 3 8, i.rc 3 9, i.rc 3 10, i.rc 3 11, i.rc 3 12, i.rc 3 13, i.rc 3 14, i.rc 4 0, i.rc 4 1, i.rc 4 2, i.rc 4 3, i.rc 4 4, i.rc 4 5, i.rc 4 6, i.rc 4 7, i.rc 4 8, i.rc 4 9, i.rc 4 10, i.rc 4 11, i.rc 4 12, i.rc 4 13, i.rc 4 14, .int .i64 (i.rf 0).1, .int .i64 (i.rf 0).2, .int .i64 (i.rf 1).1, .int .i64 (i.rf 1).2, .int .i64 (i.rf 2).1, .int .i64 (i.rf 2).2, .int .i64 (i.rf 3).1, .int .i64 (i.rf 3).2, .int .i64 (i.rf 4).1, .int .i64 (i.rf 4).2, .int .i64 (i.tk : Int), .int .i64 (i.pt : Int), .int .i64 (i.sw : Int), .bool i.dn, i.er]
def Ins.cells (i : Ins) : Array Value := i.list.toArray
structure InsAt (w : World) (b : Nat) (i : Ins) : Prop where
  blk : w.heap[b]? = some (.cells i.cells 89 (0, 0))
theorem InsAt.lt {w : World} {b : Nat} {i : Ins} (h : InsAt w b i) : b < w.heap.size := (Array.getElem?_eq_some_iff.1 h.blk).1
theorem InsAt.step {w w' : World} {b : Nat} {i : Ins} (h : InsAt w b i) (hs : Below w.heap.size w w') : InsAt w' b i := ⟨blk_step h.blk hs⟩
theorem InsAt.keep {w w' : World} {b : Nat} {i : Ins} (h : InsAt w b i) {S : Nat → Prop} (hk : Kept S w w') (hn : ¬ S b) : InsAt w' b i := ⟨(hk.block b h.lt hn).trans h.blk⟩
theorem InsAt.free {w : World} {b : Nat} {i : Ins} (h : InsAt w b i) (o : Nat) : w.frozen? ⟨b, o, none⟩ = false := blk_free h.blk o
theorem InsAt.cPage {w : World} {b : Nat} {i : Ins} (h : InsAt w b i) : w.cell? ⟨b, 0, none⟩ = some (.int .i64 i.page) := blk_cell h.blk 0
theorem InsAt.cOs {w : World} {b : Nat} {i : Ins} (h : InsAt w b i) : w.cell? ⟨b, 1, none⟩ = some (.int .i64 i.os) := blk_cell h.blk 1
theorem InsAt.cOg {w : World} {b : Nat} {i : Ins} (h : InsAt w b i) : w.cell? ⟨b, 2, none⟩ = some (.int .i64 i.og) := blk_cell h.blk 2
theorem InsAt.cNews {w : World} {b : Nat} {i : Ins} (h : InsAt w b i) : w.cell? ⟨b, 3, none⟩ = some (.int .i64 (i.news : Int)) := blk_cell h.blk 3
theorem InsAt.cFn {w : World} {b : Nat} {i : Ins} (h : InsAt w b i) : w.cell? ⟨b, 4, none⟩ = some (i.fn) := blk_cell h.blk 4
theorem InsAt.cSt {w : World} {b : Nat} {i : Ins} (h : InsAt w b i) : w.cell? ⟨b, 5, none⟩ = some (.int .i64 (i.st : Int)) := blk_cell h.blk 5
theorem InsAt.cTk {w : World} {b : Nat} {i : Ins} (h : InsAt w b i) : w.cell? ⟨b, 95, none⟩ = some (.int .i64 (i.tk : Int)) := blk_cell h.blk 95
theorem InsAt.cPt {w : World} {b : Nat} {i : Ins} (h : InsAt w b i) : w.cell? ⟨b, 96, none⟩ = some (.int .i64 (i.pt : Int)) := blk_cell h.blk 96
theorem InsAt.cSw {w : World} {b : Nat} {i : Ins} (h : InsAt w b i) : w.cell? ⟨b, 97, none⟩ = some (.int .i64 (i.sw : Int)) := blk_cell h.blk 97
theorem InsAt.cDn {w : World} {b : Nat} {i : Ins} (h : InsAt w b i) : w.cell? ⟨b, 98, none⟩ = some (.bool i.dn) := blk_cell h.blk 98
theorem InsAt.cEr {w : World} {b : Nat} {i : Ins} (h : InsAt w b i) : w.cell? ⟨b, 99, none⟩ = some (i.er) := blk_cell h.blk 99
theorem InsAt.cPg {w : World} {b : Nat} {i : Ins} (h : InsAt w b i) : ∀ {k : Nat}, k < 4 → w.cell? ⟨b, 6 + k, none⟩ = some (.int .i64 (i.pg k))
  | 0, _ => blk_cell h.blk 6 | 1, _ => blk_cell h.blk 7 | 2, _ => blk_cell h.blk 8 | 3, _ => blk_cell h.blk 9 | _ + 4, hk => absurd hk (by omega)
theorem InsAt.cRf1 {w : World} {b : Nat} {i : Ins} (h : InsAt w b i) : ∀ {k : Nat}, k < 5 → w.cell? ⟨b, 85 + k * 2, none⟩ = some (.int .i64 (i.rf k).1)
  | 0, _ => blk_cell h.blk 85 | 1, _ => blk_cell h.blk 87 | 2, _ => blk_cell h.blk 89 | 3, _ => blk_cell h.blk 91 | 4, _ => blk_cell h.blk 93 | _ + 5, hk => absurd hk (by omega)
theorem InsAt.cRf2 {w : World} {b : Nat} {i : Ins} (h : InsAt w b i) : ∀ {k : Nat}, k < 5 → w.cell? ⟨b, 85 + k * 2 + 1, none⟩ = some (.int .i64 (i.rf k).2)
  | 0, _ => blk_cell h.blk 86 | 1, _ => blk_cell h.blk 88 | 2, _ => blk_cell h.blk 90 | 3, _ => blk_cell h.blk 92 | 4, _ => blk_cell h.blk 94 | _ + 5, hk => absurd hk (by omega)
def Ins.rcL (i : Ins) (k : Nat) : List Value := [i.rc k 0, i.rc k 1, i.rc k 2, i.rc k 3, i.rc k 4, i.rc k 5, i.rc k 6, i.rc k 7, i.rc k 8, i.rc k 9, i.rc k 10, i.rc k 11, i.rc k 12, i.rc k 13, i.rc k 14]
theorem InsAt.rRec {w : World} {b : Nat} {i : Ins} (h : InsAt w b i) {k : Nat} (hk : k < 5) : w.rangeAt b (10 + k * 15) (i.rcL k) := fun j u hj => by
  rw [blk_cell h.blk]
  have hl : j < 15 := (List.getElem?_eq_some_iff.1 hj).1
  have hr : k = 0 ∨ k = 1 ∨ k = 2 ∨ k = 3 ∨ k = 4 := by omega
  rcases hr with rfl | rfl | rfl | rfl | rfl <;> (match j, hl, hj with
    | 0, _, hj => exact hj
    | 1, _, hj => exact hj
    | 2, _, hj => exact hj
    | 3, _, hj => exact hj
    | 4, _, hj => exact hj
    | 5, _, hj => exact hj
    | 6, _, hj => exact hj
    | 7, _, hj => exact hj
    | 8, _, hj => exact hj
    | 9, _, hj => exact hj
    | 10, _, hj => exact hj
    | 11, _, hj => exact hj
    | 12, _, hj => exact hj
    | 13, _, hj => exact hj
    | 14, _, hj => exact hj)
def upd {α : Type} (f : Nat → α) (k : Nat) (x : α) : Nat → α := fun j => if j = k then x else f j
theorem upd_at {α : Type} (f : Nat → α) (k : Nat) (x : α) : upd f k x k = x := if_pos rfl
theorem upd_ne {α : Type} (f : Nat → α) {k j : Nat} (x : α) (h : j ≠ k) : upd f k x j = f j := if_neg h
theorem InsAt.sFn {w : World} {b : Nat} {i : Ins} (h : InsAt w b i) (x : Value) : InsAt (w.setCell ⟨b, 4, none⟩ (x)) b { i with fn := x } := ⟨blk_set h.blk 4 _⟩
theorem InsAt.sSt {w : World} {b : Nat} {i : Ins} (h : InsAt w b i) (x : Nat) : InsAt (w.setCell ⟨b, 5, none⟩ (.int .i64 (x : Int))) b { i with st := x } := ⟨blk_set h.blk 5 _⟩
theorem InsAt.sTk {w : World} {b : Nat} {i : Ins} (h : InsAt w b i) (x : Nat) : InsAt (w.setCell ⟨b, 95, none⟩ (.int .i64 (x : Int))) b { i with tk := x } := ⟨blk_set h.blk 95 _⟩
theorem InsAt.sPt {w : World} {b : Nat} {i : Ins} (h : InsAt w b i) (x : Nat) : InsAt (w.setCell ⟨b, 96, none⟩ (.int .i64 (x : Int))) b { i with pt := x } := ⟨blk_set h.blk 96 _⟩
theorem InsAt.sSw {w : World} {b : Nat} {i : Ins} (h : InsAt w b i) (x : Nat) : InsAt (w.setCell ⟨b, 97, none⟩ (.int .i64 (x : Int))) b { i with sw := x } := ⟨blk_set h.blk 97 _⟩
theorem InsAt.sPg {w : World} {b : Nat} {i : Ins} (h : InsAt w b i) (x : Int) : ∀ {k : Nat}, k < 4 → InsAt (w.setCell ⟨b, 6 + k, none⟩ (.int .i64 x)) b { i with pg := upd i.pg k x }
  | 0, _ => ⟨blk_set h.blk 6 _⟩ | 1, _ => ⟨blk_set h.blk 7 _⟩ | 2, _ => ⟨blk_set h.blk 8 _⟩ | 3, _ => ⟨blk_set h.blk 9 _⟩ | _ + 4, hk => absurd hk (by omega)
theorem blk_set_two {w : World} {b : Nat} {cs : Array Value} {T : TypeId} (h : w.heap[b]? = some (.cells cs T (0, 0))) (o : Nat) (x y : Value) : ((w.setCell ⟨b, o, none⟩ x).setCell ⟨b, o + 1, none⟩ y).heap[b]? = some (.cells ((cs.setIfInBounds o x).setIfInBounds (o + 1) y) T (0, 0)) := blk_set (blk_set h o x) (o + 1) y
theorem InsAt.sRf {w : World} {b : Nat} {i : Ins} (h : InsAt w b i) (x y : Int) : ∀ {k : Nat}, k < 5 → InsAt ((w.setCell ⟨b, 85 + k * 2, none⟩ (.int .i64 x)).setCell ⟨b, 85 + k * 2 + 1, none⟩ (.int .i64 y)) b { i with rf := upd i.rf k (x, y) }
  | 0, _ => ⟨blk_set_two h.blk 85 _ _⟩ | 1, _ => ⟨blk_set_two h.blk 87 _ _⟩ | 2, _ => ⟨blk_set_two h.blk 89 _ _⟩ | 3, _ => ⟨blk_set_two h.blk 91 _ _⟩ | 4, _ => ⟨blk_set_two h.blk 93 _ _⟩ | _ + 5, hk => absurd hk (by omega)
theorem blk_set15 {w : World} {b : Nat} {cs : Array Value} {T : TypeId} (h : w.heap[b]? = some (.cells cs T (0, 0))) (o : Nat) (v : Nat → Value) : (w.setCells b o [v 0, v 1, v 2, v 3, v 4, v 5, v 6, v 7, v 8, v 9, v 10, v 11, v 12, v 13, v 14]).heap[b]? = some (.cells ((((((((((((((((cs).setIfInBounds (o) (v 0)).setIfInBounds (o + 1) (v 1)).setIfInBounds (o + 1 + 1) (v 2)).setIfInBounds (o + 1 + 1 + 1) (v 3)).setIfInBounds (o + 1 + 1 + 1 + 1) (v 4)).setIfInBounds (o + 1 + 1 + 1 + 1 + 1) (v 5)).setIfInBounds (o + 1 + 1 + 1 + 1 + 1 + 1) (v 6)).setIfInBounds (o + 1 + 1 + 1 + 1 + 1 + 1 + 1) (v 7)).setIfInBounds (o + 1 + 1 + 1 + 1 + 1 + 1 + 1 + 1) (v 8)).setIfInBounds (o + 1 + 1 + 1 + 1 + 1 + 1 + 1 + 1 + 1) (v 9)).setIfInBounds (o + 1 + 1 + 1 + 1 + 1 + 1 + 1 + 1 + 1 + 1) (v 10)).setIfInBounds (o + 1 + 1 + 1 + 1 + 1 + 1 + 1 + 1 + 1 + 1 + 1) (v 11)).setIfInBounds (o + 1 + 1 + 1 + 1 + 1 + 1 + 1 + 1 + 1 + 1 + 1 + 1) (v 12)).setIfInBounds (o + 1 + 1 + 1 + 1 + 1 + 1 + 1 + 1 + 1 + 1 + 1 + 1 + 1) (v 13)).setIfInBounds (o + 1 + 1 + 1 + 1 + 1 + 1 + 1 + 1 + 1 + 1 + 1 + 1 + 1 + 1) (v 14)) T (0, 0)) :=
  (blk_set (blk_set (blk_set (blk_set (blk_set (blk_set (blk_set (blk_set (blk_set (blk_set (blk_set (blk_set (blk_set (blk_set (blk_set h (o) (v 0)) (o + 1) (v 1)) (o + 1 + 1) (v 2)) (o + 1 + 1 + 1) (v 3)) (o + 1 + 1 + 1 + 1) (v 4)) (o + 1 + 1 + 1 + 1 + 1) (v 5)) (o + 1 + 1 + 1 + 1 + 1 + 1) (v 6)) (o + 1 + 1 + 1 + 1 + 1 + 1 + 1) (v 7)) (o + 1 + 1 + 1 + 1 + 1 + 1 + 1 + 1) (v 8)) (o + 1 + 1 + 1 + 1 + 1 + 1 + 1 + 1 + 1) (v 9)) (o + 1 + 1 + 1 + 1 + 1 + 1 + 1 + 1 + 1 + 1) (v 10)) (o + 1 + 1 + 1 + 1 + 1 + 1 + 1 + 1 + 1 + 1 + 1) (v 11)) (o + 1 + 1 + 1 + 1 + 1 + 1 + 1 + 1 + 1 + 1 + 1 + 1) (v 12)) (o + 1 + 1 + 1 + 1 + 1 + 1 + 1 + 1 + 1 + 1 + 1 + 1 + 1) (v 13)) (o + 1 + 1 + 1 + 1 + 1 + 1 + 1 + 1 + 1 + 1 + 1 + 1 + 1 + 1) (v 14))
set_option maxRecDepth 100000
set_option maxHeartbeats 1000000
theorem Ins.set0 (i : Ins) (v : Nat → Value) : (((((((((((((((i.cells).setIfInBounds (10) (v 0)).setIfInBounds (10 + 1) (v 1)).setIfInBounds (10 + 1 + 1) (v 2)).setIfInBounds (10 + 1 + 1 + 1) (v 3)).setIfInBounds (10 + 1 + 1 + 1 + 1) (v 4)).setIfInBounds (10 + 1 + 1 + 1 + 1 + 1) (v 5)).setIfInBounds (10 + 1 + 1 + 1 + 1 + 1 + 1) (v 6)).setIfInBounds (10 + 1 + 1 + 1 + 1 + 1 + 1 + 1) (v 7)).setIfInBounds (10 + 1 + 1 + 1 + 1 + 1 + 1 + 1 + 1) (v 8)).setIfInBounds (10 + 1 + 1 + 1 + 1 + 1 + 1 + 1 + 1 + 1) (v 9)).setIfInBounds (10 + 1 + 1 + 1 + 1 + 1 + 1 + 1 + 1 + 1 + 1) (v 10)).setIfInBounds (10 + 1 + 1 + 1 + 1 + 1 + 1 + 1 + 1 + 1 + 1 + 1) (v 11)).setIfInBounds (10 + 1 + 1 + 1 + 1 + 1 + 1 + 1 + 1 + 1 + 1 + 1 + 1) (v 12)).setIfInBounds (10 + 1 + 1 + 1 + 1 + 1 + 1 + 1 + 1 + 1 + 1 + 1 + 1 + 1) (v 13)).setIfInBounds (10 + 1 + 1 + 1 + 1 + 1 + 1 + 1 + 1 + 1 + 1 + 1 + 1 + 1 + 1) (v 14) = ({ i with rc := upd i.rc 0 v } : Ins).cells := by
  simp only [Ins.cells, Ins.list, List.setIfInBounds_toArray, List.set_cons_succ, List.set_cons_zero, Nat.reduceAdd]
  rfl
theorem Ins.set1 (i : Ins) (v : Nat → Value) : (((((((((((((((i.cells).setIfInBounds (25) (v 0)).setIfInBounds (25 + 1) (v 1)).setIfInBounds (25 + 1 + 1) (v 2)).setIfInBounds (25 + 1 + 1 + 1) (v 3)).setIfInBounds (25 + 1 + 1 + 1 + 1) (v 4)).setIfInBounds (25 + 1 + 1 + 1 + 1 + 1) (v 5)).setIfInBounds (25 + 1 + 1 + 1 + 1 + 1 + 1) (v 6)).setIfInBounds (25 + 1 + 1 + 1 + 1 + 1 + 1 + 1) (v 7)).setIfInBounds (25 + 1 + 1 + 1 + 1 + 1 + 1 + 1 + 1) (v 8)).setIfInBounds (25 + 1 + 1 + 1 + 1 + 1 + 1 + 1 + 1 + 1) (v 9)).setIfInBounds (25 + 1 + 1 + 1 + 1 + 1 + 1 + 1 + 1 + 1 + 1) (v 10)).setIfInBounds (25 + 1 + 1 + 1 + 1 + 1 + 1 + 1 + 1 + 1 + 1 + 1) (v 11)).setIfInBounds (25 + 1 + 1 + 1 + 1 + 1 + 1 + 1 + 1 + 1 + 1 + 1 + 1) (v 12)).setIfInBounds (25 + 1 + 1 + 1 + 1 + 1 + 1 + 1 + 1 + 1 + 1 + 1 + 1 + 1) (v 13)).setIfInBounds (25 + 1 + 1 + 1 + 1 + 1 + 1 + 1 + 1 + 1 + 1 + 1 + 1 + 1 + 1) (v 14) = ({ i with rc := upd i.rc 1 v } : Ins).cells := by
  simp only [Ins.cells, Ins.list, List.setIfInBounds_toArray, List.set_cons_succ, List.set_cons_zero, Nat.reduceAdd]
  rfl
theorem Ins.set2 (i : Ins) (v : Nat → Value) : (((((((((((((((i.cells).setIfInBounds (40) (v 0)).setIfInBounds (40 + 1) (v 1)).setIfInBounds (40 + 1 + 1) (v 2)).setIfInBounds (40 + 1 + 1 + 1) (v 3)).setIfInBounds (40 + 1 + 1 + 1 + 1) (v 4)).setIfInBounds (40 + 1 + 1 + 1 + 1 + 1) (v 5)).setIfInBounds (40 + 1 + 1 + 1 + 1 + 1 + 1) (v 6)).setIfInBounds (40 + 1 + 1 + 1 + 1 + 1 + 1 + 1) (v 7)).setIfInBounds (40 + 1 + 1 + 1 + 1 + 1 + 1 + 1 + 1) (v 8)).setIfInBounds (40 + 1 + 1 + 1 + 1 + 1 + 1 + 1 + 1 + 1) (v 9)).setIfInBounds (40 + 1 + 1 + 1 + 1 + 1 + 1 + 1 + 1 + 1 + 1) (v 10)).setIfInBounds (40 + 1 + 1 + 1 + 1 + 1 + 1 + 1 + 1 + 1 + 1 + 1) (v 11)).setIfInBounds (40 + 1 + 1 + 1 + 1 + 1 + 1 + 1 + 1 + 1 + 1 + 1 + 1) (v 12)).setIfInBounds (40 + 1 + 1 + 1 + 1 + 1 + 1 + 1 + 1 + 1 + 1 + 1 + 1 + 1) (v 13)).setIfInBounds (40 + 1 + 1 + 1 + 1 + 1 + 1 + 1 + 1 + 1 + 1 + 1 + 1 + 1 + 1) (v 14) = ({ i with rc := upd i.rc 2 v } : Ins).cells := by
  simp only [Ins.cells, Ins.list, List.setIfInBounds_toArray, List.set_cons_succ, List.set_cons_zero, Nat.reduceAdd]
  rfl
theorem Ins.set3 (i : Ins) (v : Nat → Value) : (((((((((((((((i.cells).setIfInBounds (55) (v 0)).setIfInBounds (55 + 1) (v 1)).setIfInBounds (55 + 1 + 1) (v 2)).setIfInBounds (55 + 1 + 1 + 1) (v 3)).setIfInBounds (55 + 1 + 1 + 1 + 1) (v 4)).setIfInBounds (55 + 1 + 1 + 1 + 1 + 1) (v 5)).setIfInBounds (55 + 1 + 1 + 1 + 1 + 1 + 1) (v 6)).setIfInBounds (55 + 1 + 1 + 1 + 1 + 1 + 1 + 1) (v 7)).setIfInBounds (55 + 1 + 1 + 1 + 1 + 1 + 1 + 1 + 1) (v 8)).setIfInBounds (55 + 1 + 1 + 1 + 1 + 1 + 1 + 1 + 1 + 1) (v 9)).setIfInBounds (55 + 1 + 1 + 1 + 1 + 1 + 1 + 1 + 1 + 1 + 1) (v 10)).setIfInBounds (55 + 1 + 1 + 1 + 1 + 1 + 1 + 1 + 1 + 1 + 1 + 1) (v 11)).setIfInBounds (55 + 1 + 1 + 1 + 1 + 1 + 1 + 1 + 1 + 1 + 1 + 1 + 1) (v 12)).setIfInBounds (55 + 1 + 1 + 1 + 1 + 1 + 1 + 1 + 1 + 1 + 1 + 1 + 1 + 1) (v 13)).setIfInBounds (55 + 1 + 1 + 1 + 1 + 1 + 1 + 1 + 1 + 1 + 1 + 1 + 1 + 1 + 1) (v 14) = ({ i with rc := upd i.rc 3 v } : Ins).cells := by
  simp only [Ins.cells, Ins.list, List.setIfInBounds_toArray, List.set_cons_succ, List.set_cons_zero, Nat.reduceAdd]
  rfl
theorem Ins.set4 (i : Ins) (v : Nat → Value) : (((((((((((((((i.cells).setIfInBounds (70) (v 0)).setIfInBounds (70 + 1) (v 1)).setIfInBounds (70 + 1 + 1) (v 2)).setIfInBounds (70 + 1 + 1 + 1) (v 3)).setIfInBounds (70 + 1 + 1 + 1 + 1) (v 4)).setIfInBounds (70 + 1 + 1 + 1 + 1 + 1) (v 5)).setIfInBounds (70 + 1 + 1 + 1 + 1 + 1 + 1) (v 6)).setIfInBounds (70 + 1 + 1 + 1 + 1 + 1 + 1 + 1) (v 7)).setIfInBounds (70 + 1 + 1 + 1 + 1 + 1 + 1 + 1 + 1) (v 8)).setIfInBounds (70 + 1 + 1 + 1 + 1 + 1 + 1 + 1 + 1 + 1) (v 9)).setIfInBounds (70 + 1 + 1 + 1 + 1 + 1 + 1 + 1 + 1 + 1 + 1) (v 10)).setIfInBounds (70 + 1 + 1 + 1 + 1 + 1 + 1 + 1 + 1 + 1 + 1 + 1) (v 11)).setIfInBounds (70 + 1 + 1 + 1 + 1 + 1 + 1 + 1 + 1 + 1 + 1 + 1 + 1) (v 12)).setIfInBounds (70 + 1 + 1 + 1 + 1 + 1 + 1 + 1 + 1 + 1 + 1 + 1 + 1 + 1) (v 13)).setIfInBounds (70 + 1 + 1 + 1 + 1 + 1 + 1 + 1 + 1 + 1 + 1 + 1 + 1 + 1 + 1) (v 14) = ({ i with rc := upd i.rc 4 v } : Ins).cells := by
  simp only [Ins.cells, Ins.list, List.setIfInBounds_toArray, List.set_cons_succ, List.set_cons_zero, Nat.reduceAdd]
  rfl
theorem InsAt.sRec {w : World} {b : Nat} {i : Ins} (h : InsAt w b i) (v : Nat → Value) : ∀ {k : Nat}, k < 5 → InsAt (w.setCells b (10 + k * 15) [v 0, v 1, v 2, v 3, v 4, v 5, v 6, v 7, v 8, v 9, v 10, v 11, v 12, v 13, v 14]) b { i with rc := upd i.rc k v }
  | 0, _ => ⟨(blk_set15 h.blk 10 v).trans (congrArg (fun c => some (Obj.cells c 89 (0, 0))) (Ins.set0 i v))⟩
  | 1, _ => ⟨(blk_set15 h.blk 25 v).trans (congrArg (fun c => some (Obj.cells c 89 (0, 0))) (Ins.set1 i v))⟩
  | 2, _ => ⟨(blk_set15 h.blk 40 v).trans (congrArg (fun c => some (Obj.cells c 89 (0, 0))) (Ins.set2 i v))⟩
  | 3, _ => ⟨(blk_set15 h.blk 55 v).trans (congrArg (fun c => some (Obj.cells c 89 (0, 0))) (Ins.set3 i v))⟩
  | 4, _ => ⟨(blk_set15 h.blk 70 v).trans (congrArg (fun c => some (Obj.cells c 89 (0, 0))) (Ins.set4 i v))⟩
  | _ + 5, hk => absurd hk (by omega)

open Go.RowKit

set_option maxRecDepth 100000 in
set_option maxHeartbeats 4000000 in
theorem nOver_nil (w : World) : Calls Try.prog 37 #[.pointer none] w fun ev w' => ev = .returned (.bool true) ∧ w = w' := by
  go_enter Try.func37, Try.ntmps37
  go_wp2
  go_ret
  exact ⟨rfl, rfl⟩
set_option maxRecDepth 100000 in
set_option maxHeartbeats 4000000 in
theorem nOver_any (w : World) (b : Nat) (i : Ins) (h : InsAt w b i) : Calls Try.prog 37 #[.pointer (some ⟨b, 0, none⟩)] w fun ev w' => ev = .returned (.bool ((i.st : Int) == 0)) ∧ w = w' := by
  have x := h.cSt
  clear h
  go_enter Try.func37, Try.ntmps37
  go_wp2
  go_ret
  exact ⟨rfl, rfl⟩
theorem funcNe (f : Fn) (a c : Array Value) (w : World) : (binOp .neq 49 (.func f a c) .nilFunc).run Try.prog w = .ok (.bool true) w := by
  have h : ∀ d : Nat, (Op.equalIn (d + 1) 49 (.func f a c) .nilFunc).run Try.prog w = .ok false w := fun d => by
    rw [Op.equalIn]
    simp [run_underlying Try.underlying49]
  simp only [binOp]
  simp [Op.equal, Op.maxDepth, h 9999]
theorem funcNil (w : World) : (binOp .neq 49 .nilFunc .nilFunc).run Try.prog w = .ok (.bool false) w := by kernel_rfl
/-- a function is there, or not -/
def Ins.hasF (i : Ins) : Bool := match i.fn with | .nilFunc => false | _ => true
def FnOk (v : Value) : Prop := v = .nilFunc ∨ ∃ f a c, v = .func f a c
def Ins.busyB (i : Ins) : Bool :=
  match i.st with
  | 1 => decide (i.tk < i.news)
  | 2 => i.hasF
  | 3 => decide (i.pt < i.news)
  | 4 => decide (i.sw < i.news)
  | 5 => decide (i.pt ≤ i.news)
  | 7 => decide (0 < i.pt)
  | 8 => decide (0 < i.tk)
  | _ => true
set_option maxRecDepth 100000 in
set_option maxHeartbeats 4000000 in
theorem busy_0 (w : World) (b : Nat) (i : Ins) (h : InsAt w b i) (hs : i.st = 0) : Calls Try.prog 55 #[.pointer (some ⟨b, 0, none⟩)] w fun ev w' => ev = .returned (.bool true) ∧ Below w.heap.size w w' := by
  have x5 := h.cSt
  rw [hs] at x5
  clear h hs
  go_enter Try.func55, Try.ntmps55
  go_wp2
  go_ret
  exact ⟨rfl, Below.refl _ _⟩
set_option maxRecDepth 100000 in
set_option maxHeartbeats 4000000 in
theorem busy_1 (w : World) (b : Nat) (i : Ins) (h : InsAt w b i) (hs : i.st = 1) : Calls Try.prog 55 #[.pointer (some ⟨b, 0, none⟩)] w fun ev w' => ev = .returned (.bool (decide (i.tk < i.news))) ∧ Below w.heap.size w w' := by
  have x5 := h.cSt
  rw [hs] at x5
  have y0 := h.cTk
  have y1 := h.cNews
  clear h hs
  go_enter Try.func55, Try.ntmps55
  go_wp2
  go_quiet (fail)
  go_wp2
  go_ret
  exact ⟨rfl, below_drewN (Below.refl _ _) _⟩
set_option maxRecDepth 100000 in
set_option maxHeartbeats 4000000 in
theorem busy_2n (w : World) (b : Nat) (i : Ins) (h : InsAt w b i) (hs : i.st = 2) (hf : i.fn = .nilFunc) : Calls Try.prog 55 #[.pointer (some ⟨b, 0, none⟩)] w fun ev w' => ev = .returned (.bool false) ∧ Below w.heap.size w w' := by
  have x5 := h.cSt
  rw [hs] at x5
  have y0 := h.cFn
  rw [hf] at y0
  have q := funcNil
  clear h hs
  go_enter Try.func55, Try.ntmps55
  go_wp2
  go_ret
  exact ⟨rfl, Below.refl _ _⟩
set_option maxRecDepth 100000 in
set_option maxHeartbeats 4000000 in
theorem busy_2f (w : World) (b : Nat) (i : Ins) (h : InsAt w b i) (hs : i.st = 2) {f : Fn} {a c : Array Value} (hf : i.fn = .func f a c) : Calls Try.prog 55 #[.pointer (some ⟨b, 0, none⟩)] w fun ev w' => ev = .returned (.bool true) ∧ Below w.heap.size w w' := by
  have x5 := h.cSt
  rw [hs] at x5
  have y0 := h.cFn
  rw [hf] at y0
  have q := funcNe
  clear h hs
  go_enter Try.func55, Try.ntmps55
  go_wp2
  go_ret
  exact ⟨rfl, Below.refl _ _⟩
set_option maxRecDepth 100000 in
set_option maxHeartbeats 4000000 in
theorem busy_3 (w : World) (b : Nat) (i : Ins) (h : InsAt w b i) (hs : i.st = 3) : Calls Try.prog 55 #[.pointer (some ⟨b, 0, none⟩)] w fun ev w' => ev = .returned (.bool (decide (i.pt < i.news))) ∧ Below w.heap.size w w' := by
  have x5 := h.cSt
  rw [hs] at x5
  have y0 := h.cPt
  have y1 := h.cNews
  clear h hs
  go_enter Try.func55, Try.ntmps55
  go_wp2
  go_quiet (fail)
  go_wp2
  go_ret
  exact ⟨rfl, below_drewN (Below.refl _ _) _⟩
set_option maxRecDepth 100000 in
set_option maxHeartbeats 4000000 in
theorem busy_4 (w : World) (b : Nat) (i : Ins) (h : InsAt w b i) (hs : i.st = 4) : Calls Try.prog 55 #[.pointer (some ⟨b, 0, none⟩)] w fun ev w' => ev = .returned (.bool (decide (i.sw < i.news))) ∧ Below w.heap.size w w' := by
  have x5 := h.cSt
  rw [hs] at x5
  have y0 := h.cSw
  have y1 := h.cNews
  clear h hs
  go_enter Try.func55, Try.ntmps55
  go_wp2
  go_quiet (fail)
  go_wp2
  go_ret
  exact ⟨rfl, below_drewN (Below.refl _ _) _⟩
set_option maxRecDepth 100000 in
set_option maxHeartbeats 4000000 in
theorem busy_5 (w : World) (b : Nat) (i : Ins) (h : InsAt w b i) (hs : i.st = 5) : Calls Try.prog 55 #[.pointer (some ⟨b, 0, none⟩)] w fun ev w' => ev = .returned (.bool (decide (i.pt ≤ i.news))) ∧ Below w.heap.size w w' := by
  have x5 := h.cSt
  rw [hs] at x5
  have y0 := h.cPt
  have y1 := h.cNews
  clear h hs
  go_enter Try.func55, Try.ntmps55
  go_wp2
  go_quiet (fail)
  go_wp2
  go_ret
  exact ⟨rfl, below_drewN (Below.refl _ _) _⟩
set_option maxRecDepth 100000 in
set_option maxHeartbeats 4000000 in
theorem busy_6 (w : World) (b : Nat) (i : Ins) (h : InsAt w b i) (hs : i.st = 6) : Calls Try.prog 55 #[.pointer (some ⟨b, 0, none⟩)] w fun ev w' => ev = .returned (.bool true) ∧ Below w.heap.size w w' := by
  have x5 := h.cSt
  rw [hs] at x5
  clear h hs
  go_enter Try.func55, Try.ntmps55
  go_wp2
  go_ret
  exact ⟨rfl, Below.refl _ _⟩
set_option maxRecDepth 100000 in
set_option maxHeartbeats 4000000 in
theorem busy_7 (w : World) (b : Nat) (i : Ins) (h : InsAt w b i) (hs : i.st = 7) : Calls Try.prog 55 #[.pointer (some ⟨b, 0, none⟩)] w fun ev w' => ev = .returned (.bool (decide (0 < i.pt))) ∧ Below w.heap.size w w' := by
  have x5 := h.cSt
  rw [hs] at x5
  have y0 := h.cPt
  clear h hs
  go_enter Try.func55, Try.ntmps55
  go_wp2
  go_ret
  exact ⟨rfl, Below.refl _ _⟩
set_option maxRecDepth 100000 in
set_option maxHeartbeats 4000000 in
theorem busy_8 (w : World) (b : Nat) (i : Ins) (h : InsAt w b i) (hs : i.st = 8) : Calls Try.prog 55 #[.pointer (some ⟨b, 0, none⟩)] w fun ev w' => ev = .returned (.bool (decide (0 < i.tk))) ∧ Below w.heap.size w w' := by
  have x5 := h.cSt
  rw [hs] at x5
  have y0 := h.cTk
  clear h hs
  go_enter Try.func55, Try.ntmps55
  go_wp2
  go_ret
  exact ⟨rfl, Below.refl _ _⟩
theorem busy_any (w : World) (b : Nat) (i : Ins) (h : InsAt w b i) (hs : i.st ≤ 8) (hf : FnOk i.fn) : Calls Try.prog 55 #[.pointer (some ⟨b, 0, none⟩)] w fun ev w' => ev = .returned (.bool i.busyB) ∧ Below w.heap.size w w' := by
  have hr : i.st = 0 ∨ i.st = 1 ∨ i.st = 2 ∨ i.st = 3 ∨ i.st = 4 ∨ i.st = 5 ∨ i.st = 6 ∨ i.st = 7 ∨ i.st = 8 := by omega
  unfold Ins.busyB
  rcases hr with e | e | e | e | e | e | e | e | e <;> rw [e]
  · exact busy_0 w b i h e
  · exact busy_1 w b i h e
  · rcases hf with q | ⟨f, a, c, q⟩
    · simp only [Ins.hasF, q]; exact busy_2n w b i h e q
    · simp only [Ins.hasF, q]; exact busy_2f w b i h e q
  · exact busy_3 w b i h e
  · exact busy_4 w b i h e
  · exact busy_5 w b i h e
  · exact busy_6 w b i h e
  · exact busy_7 w b i h e
  · exact busy_8 w b i h e

open Go.RowKit

def rcZ (o : Nat) : Value := (recCells Sc.zero (.slice none 0 0) (.slice none 0 0)).getD o undef
def Ins.zero (er : Value) : Ins := { page := 0, os := 0, og := 0, news := 0, fn := .nilFunc, st := 0, pg := fun _ => 0, rc := fun _ => rcZ, rf := fun _ => (0, 0), tk := 0, pt := 0, sw := 0, dn := false, er := er }
def ErV (v : Value) : Prop := v = .nilIface ∨ ∃ t x, v = .iface t x
def settleGo : Nat → Ins → Ins
  | 0, i => i
  | g + 1, i => if i.busyB then i else if i.st = 8 then Ins.zero i.er else settleGo g { i with st := i.st + 1 }
def settleI (i : Ins) : Ins := settleGo (9 - i.st) i
theorem insInfo : (Try.prog.info? 89).map (·.size) = some 100 := by kernel_rfl
theorem InsAt.there {w : World} {b : Nat} {i : Ins} (h : InsAt w b i) : w.there b 0 100 := blk_there h.blk 100 (Nat.le_refl _)
theorem InsAt.laid {w : World} {b : Nat} {i : Ins} (h : InsAt w b i) (j : Ins) : InsAt (w.setCells b 0 j.list) b j := ⟨list_laid j.list h.blk rfl⟩
theorem zero_one {er : Value} (h : ErV er) : (Ins.zero er).list.toArray.all (fun x => x.oneCell') = true := by
  rcases h with rfl | ⟨t, x, rfl⟩ <;> kernel_rfl
section
variable {P : Program}
theorem run_build_to {op : Oper} {a : Act} {w : World} {K : Act → World → Prop} {Q : Exit → Act → World → Prop} (t : TypeId) (parts : Array (Nat × Operand)) (ho : op.op = .build t parts) (cells : Array Value)
    (hb : P.built t (parts.toList.map fun p => (p.1, a.eval p.2)) = some cells) (h : K (a.put op.dst (.agg cells)) w) : op.wp P a w K Q := by
  have hb' : P.built t (parts.map fun (i, x) => (i, a.eval x)).toList = some cells := by rw [Array.toList_map]; exact hb
  unfold Oper.wp execOp
  simp only [ho, Sem.run_bind, run_build w t _ cells hb', Result.andThen_ok]
  exact h
theorem wpList_build_to {ops : Array Oper} {rest : List Oper} {op : Oper} {a : Act} {w : World} {Q : Exit → Act → World → Prop} (hgd : op.guard = none) (t : TypeId) (parts : Array (Nat × Operand)) (ho : op.op = .build t parts) (cells : Array Value)
    (hb : P.built t (parts.toList.map fun p => (p.1, a.eval p.2)) = some cells) (h : wpList P ops Q rest (a.put op.dst (.agg cells)) w) : wpList P ops Q (op :: rest) a w :=
  wpList_plain hgd fun _ hK => run_build_to t parts ho cells hb (hK _ _ h)
theorem yieldsIf_build_to {ops : Array Oper} {S : World → Prop} {op : Oper} {a : Act} (hw : Region.wanted op (yielded ops a.tmps) = true) (t : TypeId) (parts : Array (Nat × Operand)) (ho : op.op = .build t parts) (cells : Array Value)
    (hb : P.built t (parts.toList.map fun p => (p.1, a.eval p.2)) = some cells) : YieldsIf P ops S op (.agg cells) a :=
  .inl ⟨hw, fun w _ => by
    have hb' : P.built t (parts.map fun (i, x) => (i, a.eval x)).toList = some cells := by rw [Array.toList_map]; exact hb
    unfold execOp
    simp only [ho, Sem.run_bind, run_build w t _ cells hb', Result.andThen_ok]
    rfl⟩
end
theorem built_zero {er : Value} (h : ErV er) : Try.prog.built 89 [(9, er)] = some (Ins.zero er).list.toArray := by
  rcases h with rfl | ⟨t, x, rfl⟩ <;> kernel_rfl
set_option maxRecDepth 100000 in
set_option maxHeartbeats 4000000 in
theorem settle_any (w : World) (b : Nat) (i : Ins) (h : InsAt w b i) (hs : i.st ≤ 8) (hf : FnOk i.fn) (he : ErV i.er) :
    Calls Try.prog 34 #[.pointer (some ⟨b, 0, none⟩)] w fun ev w' => ev = .returned (.tuple #[]) ∧ InsAt w' b (settleI i) ∧ Kept (fun k => k = b) w w' := by
  go_enter Try.func34, Try.ntmps34
  go_wp2_with fail
  go_loopg [] (9 - i.st) (fun g wr => ∃ j, InsAt wr b j ∧ j.st + g = 9 ∧ j.st ≤ 8 ∧ FnOk j.fn ∧ ErV j.er ∧ settleI i = settleGo g j ∧ Kept (fun k => k = b) w wr)
  case atStart => exact ⟨i, h, by omega, hs, hf, he, rfl, Kept.refl _ _⟩
  case round =>
    clear h hs hf he
    obtain ⟨j, hI, hg, h8, hf, he, hE, hK⟩ := hrel
    have I0 := Lib.hid hI
    have G0 := Lib.hid hg
    have H0 := Lib.hid h8
    have F0 := Lib.hid hf
    have V0 := Lib.hid he
    have E0 := Lib.hid hE
    have K0 := Lib.hid hK
    clear hI hg h8 hf he hE hK
    go_wp2_with fail
    refine (busy_any _ b j I0.out H0.out F0.out).mono ?_
    rintro ev w1 ⟨rfl, hs⟩
    have I1 := Lib.hid (I0.out.step hs)
    have K1 := Lib.hid (K0.out.trans (Kept.of_below hs))
    clear hs
    obtain ⟨g, rfl⟩ : ∃ g, gk = g + 1 := ⟨gk - 1, by have := G0.out; have := H0.out; omega⟩
    cases hb : j.busyB with
    | true =>
      have e : settleI i = j := by rw [E0.out, settleGo, if_pos hb]
      have E1 := Lib.hid e
      clear hb e
      go_wp2
      go_end0
      rw [E1.out]
      exact ⟨rfl, I1.out, K1.out⟩
    | false =>
      have HB := Lib.hid hb
      clear hb
      by_cases h9 : j.st = 8
      · have x5 := I1.out.cSt
        rw [h9] at x5
        have x9 := I1.out.cEr
        have E1 := Lib.hid (show settleI i = Ins.zero j.er by rw [E0.out, settleGo, if_neg (by rw [HB.out]; decide), if_pos h9])
        have T1 := Lib.hid I1.out.there
        have L1 := Lib.hid (I1.out.laid (Ins.zero j.er))
        have O1 := Lib.hid (zero_one V0.out)
        have K2 := Lib.hid (K1.out.trans (Kept.setCells (Ins.zero j.er).list 0 w1 (Kept.refl (fun k => k = b) w1)))
        clear h9
        generalize j.er = er at *
        have Z1 := Lib.hid (built_zero V0.out)
        go_wp2_with (first | (refine wpList_build_to rfl 89 _ rfl (Ins.zero er).list.toArray Z1.out ?_) | (refine wpList_store_mid rfl 89 (.tmp 16) (.tmp 15) rfl b 0 (Ins.zero er).list.toArray rfl rfl T1.out insInfo O1.out ?_))
        simp only [Act.put]
        refine bodyPost_ret (results_none rfl _ _ _) rfl ?_
        rw [E1.out]
        exact ⟨rfl, L1.out, K2.out⟩
      · have x5 := I1.out.cSt
        have fz := I1.out.free 5
        have hw : IntKind.i64.wrap ((j.st : Int) + 1) = ((j.st + 1 : Nat) : Int) := by rw [Go.IntWalk.i64_in _ (by have := H0.out; omega)]; omega
        have n8 : ¬ (j.st : Int) = 8 := by omega
        have E1 := Lib.hid (show settleI i = settleGo g { j with st := j.st + 1 } by rw [E0.out, settleGo, if_neg (by rw [HB.out]; decide), if_neg h9])
        have H9 := Lib.hid h9
        have J1 := Lib.hid (I1.out.sSt (j.st + 1))
        have K2 := Lib.hid (K1.out.setCell 5 (.int .i64 ((j.st + 1 : Nat) : Int)))
        clear h9
        go_wp2_with fail
        go_roundg g
        case measure => omega
        case rel =>
          have h1 := G0.out
          have h2 := H0.out
          have h3 := H9.out
          exact ⟨_, J1.out, by simp only; omega, by simp only; omega, F0.out, V0.out, E1.out, K2.out⟩
end Go.Proofs.Ytaiaaljahnackaa
