/- What an installer is in memory (package install): a block of a hundred cells, and how each store turns it. -/
import Derived.Test.YtabchlgbdlgacaaMmOpsB
namespace Go.Proofs.Ytabchlgbdlgacaa
open Go.RowKit

structure Ins where
  page : Int
  os : Int
  og : Int
  news : Nat
  fn : Value
  st : Nat
  pg : Nat → Int
  rc : Nat → Nat → Value
  rf : Nat → Rf
  tk : Nat
  pt : Nat
  sw : Nat
  dn : Bool
  er : Value
def Ins.list (i : Ins) : List Value := [.int .i64 i.page, .int .i64 i.os, .int .i64 i.og, .int .i64 (i.news : Int), i.fn, .int .i64 (i.st : Int), .int .i64 (i.pg 0), .int .i64 (i.pg 1), .int .i64 (i.pg 2), .int .i64 (i.pg 3), i.rc 0 0, i.rc 0 1, i.rc 0 2, i.rc 0 3, i.rc 0 4, i.rc 0 5, i.rc 0 6, i.rc 0 7, i.rc 0 8, i.rc 0 9, i.rc 0 10, i.rc 0 11, i.rc 0 12, i.rc 0 13, i.rc 0 14, i.rc 1 0, i.rc 1 1, i.rc 1 2, i.rc 1 3, i.rc 1 4, i.rc 1 5, i.rc 1 6, i.rc 1 7, i.rc 1 8, i.rc 1 9, i.rc 1 10, i.rc 1 11, i.rc 1 12, i.rc 1 13, i.rc 1 14, i.rc 2 0, i.rc 2 1, i.rc 2 2, i.rc 2 3, i.rc 2 4, i.rc 2 5, i.rc 2 6, i.rc 2 7, i.rc 2 8, i.rc 2 9, i.rc 2 10, i.rc 2 11, i.rc 2 12, i.rc 2 13, i.rc 2 14, i.rc 3 0, i.rc 3 1, i.rc 3 2, i.rc 3 3, i.rc 3 4, i.rc 3 5, i.rc 3 6, i.rc 3 7, i.rc 3 8, i.rc 3 9, i.rc 3 10, i.rc 3 11, i.rc 3 12, i.rc 3 13, i.rc 3 14, i.rc 4 0, i.rc 4 1, i.rc 4 2, i.rc 4 3, i.rc 4 4, i.rc 4 5, i.rc 4 6, i.rc 4 7, i.rc 4 8, i.rc 4 9, i.rc 4 10, i.rc 4 11, i.rc 4 12, i.rc 4 13, i.rc 4 14, .int .i64 (i.rf 0).1, .int .i64 (i.rf 0).2, .int .i64 (i.rf 1).1, .int .i64 (i.rf 1).2, .int .i64 (i.rf 2).1, .int .i64 (i.rf 2).2, .int .i64 (i.rf 3).1, .int .i64 (i.rf 3).2, .int .i64 (i.rf 4).1, .int .i64 (i.rf 4).2, .int .i64 (i.tk : Int), .int .i64 (i.pt : Int), .int .i64 (i.sw : Int), .bool i.dn, i.er]
def Ins.cells (i : Ins) : Array Value := i.list.toArray
structure InsAt (w : World) (b : Nat) (i : Ins) : Prop where
  blk : w.heap[b]? = some (.cells i.cells 92 (0, 0))
theorem InsAt.lt {w : World} {b : Nat} {i : Ins} (h : InsAt w b i) : b < w.heap.size := (Array.getElem?_eq_some_iff.1 h.blk).1
theorem InsAt.step {w w' : World} {b : Nat} {i : Ins} (h : InsAt w b i) (hs : Below w.heap.size w w') : InsAt w' b i := ⟨blk_step h.blk hs⟩
theorem InsAt.keep {w w' : World} {b : Nat} {i : Ins} (h : InsAt w b i) {S : Nat → Prop} (hk : Kept S w w') (hn : ¬ S b) : InsAt w' b i := ⟨(hk.block b h.lt hn).trans h.blk⟩
theorem InsAt.free {w : World} {b : Nat} {i : Ins} (h : InsAt w b i) (o : Nat) : w.frozen? ⟨b, o, none⟩ = false := blk_free h.blk o
theorem InsAt.cPage {w : World} {b : Nat} {i : Ins} (h : InsAt w b i) : w.cell? ⟨b, 0, none⟩ = some (.int .i64 i.page) := blk_cell h.blk 0
theorem InsAt.cOs {w : World} {b : Nat} {i : Ins} (h : InsAt w b i) : w.cell? ⟨b, 1, none⟩ = some (.int .i64 i.os) := blk_cell h.blk 1
theorem InsAt.cOg {w : World} {b : Nat} {i : Ins} (h : InsAt w b i) : w.cell? ⟨b, 2, none⟩ = some (.int .i64 i.og) := blk_cell h.blk 2
theorem InsAt.cNews {w : World} {b : Nat} {i : Ins} (h : InsAt w b i) : w.cell? ⟨b, 3, none⟩ = some (.int .i64 (i.news : Int)) := blk_cell h.blk 3
theorem InsAt.cFn {w : World} {b : Nat} {i : Ins} (h : InsAt w b i) : w.cell? ⟨b, 4, none⟩ = some (i.fn) := blk_cell h.blk 4
theorem InsAt.cSt {w : World} {b : Nat} {i : Ins} (h : InsAt w b i) : w.cell? ⟨b, 5, none⟩ = some (.int .i64 (i.st : Int)) := blk_cell h.blk 5
theorem InsAt.cTk {w : World} {b : Nat} {i : Ins} (h : InsAt w b i) : w.cell? ⟨b, 95, none⟩ = some (.int .i64 (i.tk : Int)) := blk_cell h.blk 95
theorem InsAt.cPt {w : World} {b : Nat} {i : Ins} (h : InsAt w b i) : w.cell? ⟨b, 96, none⟩ = some (.int .i64 (i.pt : Int)) := blk_cell h.blk 96
theorem InsAt.cSw {w : World} {b : Nat} {i : Ins} (h : InsAt w b i) : w.cell? ⟨b, 97, none⟩ = some (.int .i64 (i.sw : Int)) := blk_cell h.blk 97
theorem InsAt.cDn {w : World} {b : Nat} {i : Ins} (h : InsAt w b i) : w.cell? ⟨b, 98, none⟩ = some (.bool i.dn) := blk_cell h.blk 98
theorem InsAt.cEr {w : World} {b : Nat} {i : Ins} (h : InsAt w b i) : w.cell? ⟨b, 99, none⟩ = some (i.er) := blk_cell h.blk 99
theorem InsAt.cPg {w : World} {b : Nat} {i : Ins} (h : InsAt w b i) : ∀ {k : Nat}, k < 4 → w.cell? ⟨b, 6 + k, none⟩ = some (.int .i64 (i.pg k))
  | 0, _ => blk_cell h.blk 6 | 1, _ => blk_cell h.blk 7 | 2, _ => blk_cell h.blk 8 | 3, _ => blk_cell h.blk 9 | _ + 4, hk => absurd hk (by omega)
theorem InsAt.cRf1 {w : World} {b : Nat} {i : Ins} (h : InsAt w b i) : ∀ {k : Nat}, k < 5 → w.cell? ⟨b, 85 + k * 2, none⟩ = some (.int .i64 (i.rf k).1)
  | 0, _ => blk_cell h.blk 85 | 1, _ => blk_cell h.blk 87 | 2, _ => blk_cell h.blk 89 | 3, _ => blk_cell h.blk 91 | 4, _ => blk_cell h.blk 93 | _ + 5, hk => absurd hk (by omega)
theorem InsAt.cRf2 {w : World} {b : Nat} {i : Ins} (h : InsAt w b i) : ∀ {k : Nat}, k < 5 → w.cell? ⟨b, 85 + k * 2 + 1, none⟩ = some (.int .i64 (i.rf k).2)
  | 0, _ => blk_cell h.blk 86 | 1, _ => blk_cell h.blk 88 | 2, _ => blk_cell h.blk 90 | 3, _ => blk_cell h.blk 92 | 4, _ => blk_cell h.blk 94 | _ + 5, hk => absurd hk (by omega)
def Ins.rcL (i : Ins) (k : Nat) : List Value := [i.rc k 0, i.rc k 1, i.rc k 2, i.rc k 3, i.rc k 4, i.rc k 5, i.rc k 6, i.rc k 7, i.rc k 8, i.rc k 9, i.rc k 10, i.rc k 11, i.rc k 12, i.rc k 13, i.rc k 14]
theorem InsAt.rRec {w : World} {b : Nat} {i : Ins} (h : InsAt w b i) {k : Nat} (hk : k < 5) : w.rangeAt b (10 + k * 15) (i.rcL k) := fun j u hj => by
  rw [blk_cell h.blk]
  have hl : j < 15 := (List.getElem?_eq_some_iff.1 hj).1
  have hr : k = 0 ∨ k = 1 ∨ k = 2 ∨ k = 3 ∨ k = 4 := by omega
  rcases hr with rfl | rfl | rfl | rfl | rfl <;> (match j, hl, hj with
    | 0, _, hj => exact hj
    | 1, _, hj => exact hj
    | 2, _, hj => exact hj
    | 3, _, hj => exact hj
    | 4, _, hj => exact hj
    | 5, _, hj => exact hj
    | 6, _, hj => exact hj
    | 7, _, hj => exact hj
    | 8, _, hj => exact hj
    | 9, _, hj => exact hj
    | 10, _, hj => exact hj
    | 11, _, hj => exact hj
    | 12, _, hj => exact hj
    | 13, _, hj => exact hj
    | 14, _, hj => exact hj)
def upd {α : Type} (f : Nat → α) (k : Nat) (x : α) : Nat → α := fun j => if j = k then x else f j
theorem upd_at {α : Type} (f : Nat → α) (k : Nat) (x : α) : upd f k x k = x := if_pos rfl
theorem upd_ne {α : Type} (f : Nat → α) {k j : Nat} (x : α) (h : j ≠ k) : upd f k x j = f j := if_neg h
theorem InsAt.sFn {w : World} {b : Nat} {i : Ins} (h : InsAt w b i) (x : Value) : InsAt (w.setCell ⟨b, 4, none⟩ (x)) b { i with fn := x } := ⟨blk_set h.blk 4 _⟩
theorem InsAt.sSt {w : World} {b : Nat} {i : Ins} (h : InsAt w b i) (x : Nat) : InsAt (w.setCell ⟨b, 5, none⟩ (.int .i64 (x : Int))) b { i with st := x } := ⟨blk_set h.blk 5 _⟩
theorem InsAt.sTk {w : World} {b : Nat} {i : Ins} (h : InsAt w b i) (x : Nat) : InsAt (w.setCell ⟨b, 95, none⟩ (.int .i64 (x : Int))) b { i with tk := x } := ⟨blk_set h.blk 95 _⟩
theorem InsAt.sPt {w : World} {b : Nat} {i : Ins} (h : InsAt w b i) (x : Nat) : InsAt (w.setCell ⟨b, 96, none⟩ (.int .i64 (x : Int))) b { i with pt := x } := ⟨blk_set h.blk 96 _⟩
theorem InsAt.sSw {w : World} {b : Nat} {i : Ins} (h : InsAt w b i) (x : Nat) : InsAt (w.setCell ⟨b, 97, none⟩ (.int .i64 (x : Int))) b { i with sw := x } := ⟨blk_set h.blk 97 _⟩
theorem InsAt.sPg {w : World} {b : Nat} {i : Ins} (h : InsAt w b i) (x : Int) : ∀ {k : Nat}, k < 4 → InsAt (w.setCell ⟨b, 6 + k, none⟩ (.int .i64 x)) b { i with pg := upd i.pg k x }
  | 0, _ => ⟨blk_set h.blk 6 _⟩ | 1, _ => ⟨blk_set h.blk 7 _⟩ | 2, _ => ⟨blk_set h.blk 8 _⟩ | 3, _ => ⟨blk_set h.blk 9 _⟩ | _ + 4, hk => absurd hk (by omega)
theorem blk_set_two {w : World} {b : Nat} {cs : Array Value} {T : TypeId} (h : w.heap[b]? = some (.cells cs T (0, 0))) (o : Nat) (x y : Value) : ((w.setCell ⟨b, o, none⟩ x).setCell ⟨b, o + 1, none⟩ y).heap[b]? = some (.cells ((cs.setIfInBounds o x).setIfInBounds (o + 1) y) T (0, 0)) := blk_set (blk_set h o x) (o + 1) y
theorem InsAt.sRf {w : World} {b : Nat} {i : Ins} (h : InsAt w b i) (x y : Int) : ∀ {k : Nat}, k < 5 → InsAt ((w.setCell ⟨b, 85 + k * 2, none⟩ (.int .i64 x)).setCell ⟨b, 85 + k * 2 + 1, none⟩ (.int .i64 y)) b { i with rf := upd i.rf k (x, y) }
  | 0, _ => ⟨blk_set_two h.blk 85 _ _⟩ | 1, _ => ⟨blk_set_two h.blk 87 _ _⟩ | 2, _ => ⟨blk_set_two h.blk 89 _ _⟩ | 3, _ => ⟨blk_set_two h.blk 91 _ _⟩ | 4, _ => ⟨blk_set_two h.blk 93 _ _⟩ | _ + 5, hk => absurd hk (by omega)
theorem blk_set15 {w : World} {b : Nat} {cs : Array Value} {T : TypeId} (h : w.heap[b]? = some (.cells cs T (0, 0))) (o : Nat) (v : Nat → Value) : (w.setCells b o [v 0, v 1, v 2, v 3, v 4, v 5, v 6, v 7, v 8, v 9, v 10, v 11, v 12, v 13, v 14]).heap[b]? = some (.cells ((((((((((((((((cs).setIfInBounds (o) (v 0)).setIfInBounds (o + 1) (v 1)).setIfInBounds (o + 1 + 1) (v 2)).setIfInBounds (o + 1 + 1 + 1) (v 3)).setIfInBounds (o + 1 + 1 + 1 + 1) (v 4)).setIfInBounds (o + 1 + 1 + 1 + 1 + 1) (v 5)).setIfInBounds (o + 1 + 1 + 1 + 1 + 1 + 1) (v 6)).setIfInBounds (o + 1 + 1 + 1 + 1 + 1 + 1 + 1) (v 7)).setIfInBounds (o + 1 + 1 + 1 + 1 + 1 + 1 + 1 + 1) (v 8)).setIfInBounds (o + 1 + 1 + 1 + 1 + 1 + 1 + 1 + 1 + 1) (v 9)).setIfInBounds (o + 1 + 1 + 1 + 1 + 1 + 1 + 1 + 1 + 1 + 1) (v 10)).setIfInBounds (o + 1 + 1 + 1 + 1 + 1 + 1 + 1 + 1 + 1 + 1 + 1) (v 11)).setIfInBounds (o + 1 + 1 + 1 + 1 + 1 + 1 + 1 + 1 + 1 + 1 + 1 + 1) (v 12)).setIfInBounds (o + 1 + 1 + 1 + 1 + 1 + 1 + 1 + 1 + 1 + 1 + 1 + 1 + 1) (v 13)).setIfInBounds (o + 1 + 1 + 1 + 1 + 1 + 1 + 1 + 1 + 1 + 1 + 1 + 1 + 1 + 1) (v 14)) T (0, 0)) :=
  (blk_set (blk_set (blk_set (blk_set (blk_set (blk_set (blk_set (blk_set (blk_set (blk_set (blk_set (blk_set (blk_set (blk_set (blk_set h (o) (v 0)) (o + 1) (v 1)) (o + 1 + 1) (v 2)) (o + 1 + 1 + 1) (v 3)) (o + 1 + 1 + 1 + 1) (v 4)) (o + 1 + 1 + 1 + 1 + 1) (v 5)) (o + 1 + 1 + 1 + 1 + 1 + 1) (v 6)) (o + 1 + 1 + 1 + 1 + 1 + 1 + 1) (v 7)) (o + 1 + 1 + 1 + 1 + 1 + 1 + 1 + 1) (v 8)) (o + 1 + 1 + 1 + 1 + 1 + 1 + 1 + 1 + 1) (v 9)) (o + 1 + 1 + 1 + 1 + 1 + 1 + 1 + 1 + 1 + 1) (v 10)) (o + 1 + 1 + 1 + 1 + 1 + 1 + 1 + 1 + 1 + 1 + 1) (v 11)) (o + 1 + 1 + 1 + 1 + 1 + 1 + 1 + 1 + 1 + 1 + 1 + 1) (v 12)) (o + 1 + 1 + 1 + 1 + 1 + 1 + 1 + 1 + 1 + 1 + 1 + 1 + 1) (v 13)) (o + 1 + 1 + 1 + 1 + 1 + 1 + 1 + 1 + 1 + 1 + 1 + 1 + 1 + 1) (v 14))
set_option maxRecDepth 100000
set_option maxHeartbeats 1000000
theorem Ins.set0 (i : Ins) (v : Nat → Value) : (((((((((((((((i.cells).setIfInBounds (10) (v 0)).setIfInBounds (10 + 1) (v 1)).setIfInBounds (10 + 1 + 1) (v 2)).setIfInBounds (10 + 1 + 1 + 1) (v 3)).setIfInBounds (10 + 1 + 1 + 1 + 1) (v 4)).setIfInBounds (10 + 1 + 1 + 1 + 1 + 1) (v 5)).setIfInBounds (10 + 1 + 1 + 1 + 1 + 1 + 1) (v 6)).setIfInBounds (10 + 1 + 1 + 1 + 1 + 1 + 1 + 1) (v 7)).setIfInBounds (10 + 1 + 1 + 1 + 1 + 1 + 1 + 1 + 1) (v 8)).setIfInBounds (10 + 1 + 1 + 1 + 1 + 1 + 1 + 1 + 1 + 1) (v 9)).setIfInBounds (10 + 1 + 1 + 1 + 1 + 1 + 1 + 1 + 1 + 1 + 1) (v 10)).setIfInBounds (10 + 1 + 1 + 1 + 1 + 1 + 1 + 1 + 1 + 1 + 1 + 1) (v 11)).setIfInBounds (10 + 1 + 1 + 1 + 1 + 1 + 1 + 1 + 1 + 1 + 1 + 1 + 1) (v 12)).setIfInBounds (10 + 1 + 1 + 1 + 1 + 1 + 1 + 1 + 1 + 1 + 1 + 1 + 1 + 1) (v 13)).setIfInBounds (10 + 1 + 1 + 1 + 1 + 1 + 1 + 1 + 1 + 1 + 1 + 1 + 1 + 1 + 1) (v 14) = ({ i with rc := upd i.rc 0 v } : Ins).cells := by
  simp only [Ins.cells, Ins.list, List.setIfInBounds_toArray, List.set_cons_succ, List.set_cons_zero, Nat.reduceAdd]
  rfl
theorem Ins.set1 (i : Ins) (v : Nat → Value) : (((((((((((((((i.cells).setIfInBounds (25) (v 0)).setIfInBounds (25 + 1) (v 1)).setIfInBounds (25 + 1 + 1) (v 2)).setIfInBounds (25 + 1 + 1 + 1) (v 3)).setIfInBounds (25 + 1 + 1 + 1 + 1) (v 4)).setIfInBounds (25 + 1 + 1 + 1 + 1 + 1) (v 5)).setIfInBounds (25 + 1 + 1 + 1 + 1 + 1 + 1) (v 6)).setIfInBounds (25 + 1 + 1 + 1 + 1 + 1 + 1 + 1) (v 7)).setIfInBounds (25 + 1 + 1 + 1 + 1 + 1 + 1 + 1 + 1) (v 8)).setIfInBounds (25 + 1 + 1 + 1 + 1 + 1 + 1 + 1 + 1 + 1) (v 9)).setIfInBounds (25 + 1 + 1 + 1 + 1 + 1 + 1 + 1 + 1 + 1 + 1) (v 10)).setIfInBounds (25 + 1 + 1 + 1 + 1 + 1 + 1 + 1 + 1 + 1 + 1 + 1) (v 11)).setIfInBounds (25 + 1 + 1 + 1 + 1 + 1 + 1 + 1 + 1 + 1 + 1 + 1 + 1) (v 12)).setIfInBounds (25 + 1 + 1 + 1 + 1 + 1 + 1 + 1 + 1 + 1 + 1 + 1 + 1 + 1) (v 13)).setIfInBounds (25 + 1 + 1 + 1 + 1 + 1 + 1 + 1 + 1 + 1 + 1 + 1 + 1 + 1 + 1) (v 14) = ({ i with rc := upd i.rc 1 v } : Ins).cells := by
  simp only [Ins.cells, Ins.list, List.setIfInBounds_toArray, List.set_cons_succ, List.set_cons_zero, Nat.reduceAdd]
  rfl
theorem Ins.set2 (i : Ins) (v : Nat → Value) : (((((((((((((((i.cells).setIfInBounds (40) (v 0)).setIfInBounds (40 + 1) (v 1)).setIfInBounds (40 + 1 + 1) (v 2)).setIfInBounds (40 + 1 + 1 + 1) (v 3)).setIfInBounds (40 + 1 + 1 + 1 + 1) (v 4)).setIfInBounds (40 + 1 + 1 + 1 + 1 + 1) (v 5)).setIfInBounds (40 + 1 + 1 + 1 + 1 + 1 + 1) (v 6)).setIfInBounds (40 + 1 + 1 + 1 + 1 + 1 + 1 + 1) (v 7)).setIfInBounds (40 + 1 + 1 + 1 + 1 + 1 + 1 + 1 + 1) (v 8)).setIfInBounds (40 + 1 + 1 + 1 + 1 + 1 + 1 + 1 + 1 + 1) (v 9)).setIfInBounds (40 + 1 + 1 + 1 + 1 + 1 + 1 + 1 + 1 + 1 + 1) (v 10)).setIfInBounds (40 + 1 + 1 + 1 + 1 + 1 + 1 + 1 + 1 + 1 + 1 + 1) (v 11)).setIfInBounds (40 + 1 + 1 + 1 + 1 + 1 + 1 + 1 + 1 + 1 + 1 + 1 + 1) (v 12)).setIfInBounds (40 + 1 + 1 + 1 + 1 + 1 + 1 + 1 + 1 + 1 + 1 + 1 + 1 + 1) (v 13)).setIfInBounds (40 + 1 + 1 + 1 + 1 + 1 + 1 + 1 + 1 + 1 + 1 + 1 + 1 + 1 + 1) (v 14) = ({ i with rc := upd i.rc 2 v } : Ins).cells := by
  simp only [Ins.cells, Ins.list, List.setIfInBounds_toArray, List.set_cons_succ, List.set_cons_zero, Nat.reduceAdd]
  rfl
theorem Ins.set3 (i : Ins) (v : Nat → Value) : (((((((((((((((i.cells).setIfInBounds (55) (v 0)).setIfInBounds (55 + 1) (v 1)).setIfInBounds (55 + 1 + 1) (v 2)).setIfInBounds (55 + 1 + 1 + 1) (v 3)).setIfInBounds (55 + 1 + 1 + 1 + 1) (v 4)).setIfInBounds (55 + 1 + 1 + 1 + 1 + 1) (v 5)).setIfInBounds (55 + 1 + 1 + 1 + 1 + 1 + 1) (v 6)).setIfInBounds (55 + 1 + 1 + 1 + 1 + 1 + 1 + 1) (v 7)).setIfInBounds (55 + 1 + 1 + 1 + 1 + 1 + 1 + 1 + 1) (v 8)).setIfInBounds (55 + 1 + 1 + 1 + 1 + 1 + 1 + 1 + 1 + 1) (v 9)).setIfInBounds (55 + 1 + 1 + 1 + 1 + 1 + 1 + 1 + 1 + 1 + 1) (v 10)).setIfInBounds (55 + 1 + 1 + 1 + 1 + 1 + 1 + 1 + 1 + 1 + 1 + 1) (v 11)).setIfInBounds (55 + 1 + 1 + 1 + 1 + 1 + 1 + 1 + 1 + 1 + 1 + 1 + 1) (v 12)).setIfInBounds (55 + 1 + 1 + 1 + 1 + 1 + 1 + 1 + 1 + 1 + 1 + 1 + 1 + 1) (v 13)).setIfInBounds (55 + 1 + 1 + 1 + 1 + 1 + 1 + 1 + 1 + 1 + 1 + 1 + 1 + 1 + 1) (v 14) = ({ i with rc := upd i.rc 3 v } : Ins).cells := by
  simp only [Ins.cells, Ins.list, List.setIfInBounds_toArray, List.set_cons_succ, List.set_cons_zero, Nat.reduceAdd]
  rfl
theorem Ins.set4 (i : Ins) (v : Nat → Value) : (((((((((((((((i.cells).setIfInBounds (70) (v 0)).setIfInBounds (70 + 1) (v 1)).setIfInBounds (70 + 1 + 1) (v 2)).setIfInBounds (70 + 1 + 1 + 1) (v 3)).setIfInBounds (70 + 1 + 1 + 1 + 1) (v 4)).setIfInBounds (70 + 1 + 1 + 1 + 1 + 1) (v 5)).setIfInBounds (70 + 1 + 1 + 1 + 1 + 1 + 1) (v 6)).setIfInBounds (70 + 1 + 1 + 1 + 1 + 1 + 1 + 1) (v 7)).setIfInBounds (70 + 1 + 1 + 1 + 1 + 1 + 1 + 1 + 1) (v 8)).setIfInBounds (70 + 1 + 1 + 1 + 1 + 1 + 1 + 1 + 1 + 1) (v 9)).setIfInBounds (70 + 1 + 1 + 1 + 1 + 1 + 1 + 1 + 1 + 1 + 1) (v 10)).setIfInBounds (70 + 1 + 1 + 1 + 1 + 1 + 1 + 1 + 1 + 1 + 1 + 1) (v 11)).setIfInBounds (70 + 1 + 1 + 1 + 1 + 1 + 1 + 1 + 1 + 1 + 1 + 1 + 1) (v 12)).setIfInBounds (70 + 1 + 1 + 1 + 1 + 1 + 1 + 1 + 1 + 1 + 1 + 1 + 1 + 1) (v 13)).setIfInBounds (70 + 1 + 1 + 1 + 1 + 1 + 1 + 1 + 1 + 1 + 1 + 1 + 1 + 1 + 1) (v 14) = ({ i with rc := upd i.rc 4 v } : Ins).cells := by
  simp only [Ins.cells, Ins.list, List.setIfInBounds_toArray, List.set_cons_succ, List.set_cons_zero, Nat.reduceAdd]
  rfl
theorem InsAt.sRec {w : World} {b : Nat} {i : Ins} (h : InsAt w b i) (v : Nat → Value) : ∀ {k : Nat}, k < 5 → InsAt (w.setCells b (10 + k * 15) [v 0, v 1, v 2, v 3, v 4, v 5, v 6, v 7, v 8, v 9, v 10, v 11, v 12, v 13, v 14]) b { i with rc := upd i.rc k v }
  | 0, _ => ⟨(blk_set15 h.blk 10 v).trans (congrArg (fun c => some (Obj.cells c 92 (0, 0))) (Ins.set0 i v))⟩
  | 1, _ => ⟨(blk_set15 h.blk 25 v).trans (congrArg (fun c => some (Obj.cells c 92 (0, 0))) (Ins.set1 i v))⟩
  | 2, _ => ⟨(blk_set15 h.blk 40 v).trans (congrArg (fun c => some (Obj.cells c 92 (0, 0))) (Ins.set2 i v))⟩
  | 3, _ => ⟨(blk_set15 h.blk 55 v).trans (congrArg (fun c => some (Obj.cells c 92 (0, 0))) (Ins.set3 i v))⟩
  | 4, _ => ⟨(blk_set15 h.blk 70 v).trans (congrArg (fun c => some (Obj.cells c 92 (0, 0))) (Ins.set4 i v))⟩
  | _ + 5, hk => absurd hk (by omega)
end Go.Proofs.Ytabchlgbdlgacaa
