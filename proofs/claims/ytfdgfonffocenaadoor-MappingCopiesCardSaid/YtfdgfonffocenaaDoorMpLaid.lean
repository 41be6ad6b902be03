/- What the frames of layer 5's laws share: the program's own settings, its layout; refs and steps that came in. -/
import Derived.Test.YtfdgfonffocenaaDoorRows
import Derived.Test.YtfdgfonffocenaaDoorMpDo
import Derived.Deep.SlicePairs
import Derived.SizedLaws
namespace Go.Proofs.YtfdgfonffocenaaDoor
open Go.ChangeShapes Go.WideShapes Go.RowKit
theorem Tryd.own : ownKnob Tryd.prog.godebug = none := by kernel_rfl
theorem Tryd.laidOut : laidOutB Tryd.prog = true := by kernel_rfl

section
variable {H : Type} {enc : TypeId × Value → H} {w : World} {base : Nat} {spare : Nat → Bool} {held : Bool}
def intOfV : Value → Int | .int _ a => a | _ => 0
theorem get_some {α : Type} {xs : List α} {n : Nat} (hl : xs.length = n) {i : Nat} (h : i < n) : ∃ y, xs[i]? = some y := ⟨_, List.getElem?_eq_getElem (by rw [hl]; exact h)⟩
theorem fld {fs : Array Field} {n : Nat} {cs : List Value} {xs : List (DataW H × List MemPlace)} (hf : ∀ (i : Nat) (f : Field), fs[i]? = some f → DataW.trod enc Tryd.prog w base spare held n f.type ((cs.drop f.offset).take (Tryd.prog.cellsOf f.type)) = xs[i]?)
    (i t o c : Nat) (ht : (fs[i]?).map (fun f => (f.type, f.offset)) = some (t, o)) (hc : Tryd.prog.cellsOf t = c) (hi : i < xs.length) : ∃ y, DataW.trod enc Tryd.prog w base spare held n t ((cs.drop o).take c) = some y ∧ xs[i]? = some y := by
  obtain ⟨f, h1, h2⟩ := Option.map_eq_some_iff.1 ht
  simp only [Prod.mk.injEq] at h2
  obtain ⟨rfl, rfl⟩ := h2
  subst hc
  exact ⟨_, (hf i f h1).trans (List.getElem?_eq_getElem hi), List.getElem?_eq_getElem hi⟩
theorem list7 {α : Type} {l : List α} (h : l.length = 7) : ∃ a0 a1 a2 a3 a4 a5 a6, l = [a0, a1, a2, a3, a4, a5, a6] := by
  match l, h with
  | [a0, a1, a2, a3, a4, a5, a6], _ => exact ⟨a0, a1, a2, a3, a4, a5, a6, rfl⟩
theorem list2 {α : Type} {l : List α} (h : l.length = 2) : ∃ a0 a1, l = [a0, a1] := by
  match l, h with
  | [a0, a1], _ => exact ⟨a0, a1, rfl⟩
/-- a step -/
structure DoD where
  verb : Int
  x : Int
  right : Bool
  os : Int
  og : Int
  ns : Int
  ng : Int
def DoD.cells (d : DoD) : List Value := [.int .i64 d.verb, .int .i64 d.x, .bool d.right, .int .i64 d.os, .int .i64 d.og, .int .i64 d.ns, .int .i64 d.ng]
set_option maxRecDepth 100000 in
theorem ref_of {fuel : Nat} {cs : List Value} {x : DataW H × List MemPlace} (h : DataW.trod enc Tryd.prog w base spare held fuel 32 cs = some x) : ∃ s g : Int, cs = [.int .i64 s, .int .i64 g] := by
  obtain ⟨xs, n, -, rfl, hl, hlen, hf⟩ := DataW.trod_struct Tryd.underlying32 h
  have c2 : Tryd.prog.cellsOf 32 = 2 := by kernel_rfl
  have cI : Tryd.prog.cellsOf 3 = 1 := by kernel_rfl
  rw [c2] at hl
  obtain ⟨a0, a1, rfl⟩ := list2 hl
  have hn : xs.length = 2 := hlen
  obtain ⟨y0, f0, -⟩ := fld hf 0 3 0 1 rfl cI (by omega)
  obtain ⟨y1, f1, -⟩ := fld hf 1 3 1 1 rfl cI (by omega)
  simp only [List.drop_zero, List.drop_succ_cons, List.take_succ_cons, List.take_zero] at f0 f1
  obtain ⟨s, g0, -, -⟩ := DataW.trod_int Tryd.underlying3 f0
  obtain ⟨g, g1, -, -⟩ := DataW.trod_int Tryd.underlying3 f1
  simp only [List.cons.injEq, and_true] at g0 g1
  subst g0 g1
  exact ⟨s, g, rfl⟩
set_option maxRecDepth 100000 in
theorem ref_in {r : Reach} {b0 : Nat} {v : Value} {d : DataW H} {p : List MemPlace} (hv : Value.okWide Tryd.prog w r b0 32 v) (h : DataW.Trod enc Tryd.prog w base spare held 32 v d p) : ∃ s g : Int, v = refV s g := by
  obtain ⟨cs, rfl, -⟩ := okWide_struct Tryd.underlying32 hv
  obtain ⟨fuel, hf⟩ := h
  obtain ⟨s, g, e⟩ := ref_of hf
  refine ⟨s, g, ?_⟩
  have : cs = #[.int .i64 s, .int .i64 g] := by
    have e' : cs.toList = [.int .i64 s, .int .i64 g] := by rw [← e]; simp [Value.cells]
    rw [← Array.toArray_toList (xs := cs), e']
  rw [this]; rfl
set_option maxRecDepth 100000 in
theorem do_of {fuel : Nat} {cs : List Value} {x : DataW H × List MemPlace} (h : DataW.trod enc Tryd.prog w base spare held fuel 34 cs = some x) : ∃ d : DoD, cs = d.cells := by
  obtain ⟨xs, n, -, rfl, hl, hlen, hf⟩ := DataW.trod_struct Tryd.underlying34 h
  have c7 : Tryd.prog.cellsOf 34 = 7 := by kernel_rfl
  have cI : Tryd.prog.cellsOf 3 = 1 := by kernel_rfl
  have cB : Tryd.prog.cellsOf 4 = 1 := by kernel_rfl
  have cX : Tryd.prog.cellsOf 32 = 2 := by kernel_rfl
  rw [c7] at hl
  obtain ⟨a0, a1, a2, a3, a4, a5, a6, rfl⟩ := list7 hl
  have hn : xs.length = 5 := hlen
  obtain ⟨y0, f0, -⟩ := fld hf 0 3 0 1 rfl cI (by omega)
  obtain ⟨y1, f1, -⟩ := fld hf 1 3 1 1 rfl cI (by omega)
  obtain ⟨y2, f2, -⟩ := fld hf 2 4 2 1 rfl cB (by omega)
  obtain ⟨y3, f3, -⟩ := fld hf 3 32 3 2 rfl cX (by omega)
  obtain ⟨y4, f4, -⟩ := fld hf 4 32 5 2 rfl cX (by omega)
  simp only [List.drop_zero, List.drop_succ_cons, List.take_succ_cons, List.take_zero] at f0 f1 f2 f3 f4
  obtain ⟨v, g0, -, -⟩ := DataW.trod_int Tryd.underlying3 f0
  obtain ⟨x, g1, -, -⟩ := DataW.trod_int Tryd.underlying3 f1
  obtain ⟨r, g2, -⟩ := DataW.trod_bool Tryd.underlying4 f2
  obtain ⟨os, og, g3⟩ := ref_of f3
  obtain ⟨ns, ng, g4⟩ := ref_of f4
  simp only [List.cons.injEq, and_true] at g0 g1 g2 g3 g4
  obtain ⟨rfl, rfl⟩ := g3
  obtain ⟨rfl, rfl⟩ := g4
  subst g0 g1 g2
  exact ⟨⟨v, x, r, os, og, ns, ng⟩, rfl⟩
set_option maxRecDepth 100000 in
theorem do_in {r : Reach} {b0 : Nat} {v : Value} {d : DataW H} {p : List MemPlace} (hv : Value.okWide Tryd.prog w r b0 34 v) (h : DataW.Trod enc Tryd.prog w base spare held 34 v d p) :
    ∃ d : DoD, v = doVal d.verb d.x d.right d.os d.og d.ns d.ng := by
  obtain ⟨cs, rfl, -⟩ := okWide_struct Tryd.underlying34 hv
  obtain ⟨fuel, hf⟩ := h
  obtain ⟨d, e⟩ := do_of hf
  refine ⟨d, ?_⟩
  have : cs = d.cells.toArray := by rw [← e]; simp [Value.cells]
  rw [this]; rfl
end
end Go.Proofs.YtfdgfonffocenaaDoor
