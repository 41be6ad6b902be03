/- Limits and a ref that came in, for the law MemChains (door). -/
import Derived.Test.YtkkmfacngmginaaDoorRows
import Derived.Test.YtkkmfacngmginaaDoorMmNew
import Derived.Deep.SlicePairs
import Derived.SizedLaws
namespace Go.Proofs.YtkkmfacngmginaaDoor
open Go.ChangeShapes Go.WideShapes Go.RowKit
theorem Tryd.own : ownKnob Tryd.prog.godebug = none := by kernel_rfl
theorem Tryd.laidOut : laidOutB Tryd.prog = true := by kernel_rfl
section
variable {H : Type} {enc : TypeId × Value → H} {w : World} {base : Nat} {spare : Nat → Bool} {held : Bool}
theorem fld {fs : Array Field} {n : Nat} {cs : List Value} {xs : List (DataW H × List MemPlace)} (hf : ∀ (i : Nat) (f : Field), fs[i]? = some f → DataW.trod enc Tryd.prog w base spare held n f.type ((cs.drop f.offset).take (Tryd.prog.cellsOf f.type)) = xs[i]?)
    (i t o c : Nat) (ht : (fs[i]?).map (fun f => (f.type, f.offset)) = some (t, o)) (hc : Tryd.prog.cellsOf t = c) (hi : i < xs.length) : ∃ y, DataW.trod enc Tryd.prog w base spare held n t ((cs.drop o).take c) = some y ∧ xs[i]? = some y := by
  obtain ⟨f, h1, h2⟩ := Option.map_eq_some_iff.1 ht
  simp only [Prod.mk.injEq] at h2
  obtain ⟨rfl, rfl⟩ := h2
  subst hc
  exact ⟨_, (hf i f h1).trans (List.getElem?_eq_getElem hi), List.getElem?_eq_getElem hi⟩
theorem list2' {α : Type} {l : List α} (h : l.length = 2) : ∃ a b, l = [a, b] := by
  match l, h with
  | [a, b], _ => exact ⟨a, b, rfl⟩
set_option maxRecDepth 100000 in
theorem ref2_of {fuel : Nat} {cs : List Value} {x : DataW H × List MemPlace} (h : DataW.trod enc Tryd.prog w base spare held fuel 30 cs = some x) : ∃ s g : Int, cs = [.int .i64 s, .int .i64 g] := by
  obtain ⟨xr, nr, -, -, hl, hr, hfr⟩ := DataW.trod_struct Tryd.underlying30 h
  have cX : Tryd.prog.cellsOf 30 = 2 := by kernel_rfl
  have cI : Tryd.prog.cellsOf 3 = 1 := by kernel_rfl
  rw [cX] at hl
  have hr2 : xr.length = 2 := hr
  obtain ⟨a, b, rfl⟩ := list2' hl
  obtain ⟨v0, h3, -⟩ := fld hfr 0 3 0 1 rfl cI (by omega)
  obtain ⟨v1, h4, -⟩ := fld hfr 1 3 1 1 rfl cI (by omega)
  simp only [List.drop_zero, List.drop_succ_cons, List.take_succ_cons, List.take_zero] at h3 h4
  obtain ⟨x, g1, -, -⟩ := DataW.trod_int Tryd.underlying3 h3
  obtain ⟨y, g2, -, -⟩ := DataW.trod_int Tryd.underlying3 h4
  simp only [List.cons.injEq, and_true] at g1 g2
  subst g1 g2
  exact ⟨x, y, rfl⟩
theorem list6 {α : Type} {l : List α} (h : l.length = 6) : ∃ a0 a1 a2 a3 a4 a5, l = [a0, a1, a2, a3, a4, a5] := by
  match l, h with
  | [a0, a1, a2, a3, a4, a5], _ => exact ⟨a0, a1, a2, a3, a4, a5, rfl⟩
set_option maxRecDepth 100000 in
theorem lim_of {fuel : Nat} {cs : List Value} {x : DataW H × List MemPlace} (h : DataW.trod enc Tryd.prog w base spare held fuel 70 cs = some x) : ∃ l : Lim, cs = l.cells.toList := by
  obtain ⟨xs, n, -, rfl, hl, hlen, hf⟩ := DataW.trod_struct Tryd.underlying70 h
  have cL : Tryd.prog.cellsOf 70 = 6 := by kernel_rfl
  have cI : Tryd.prog.cellsOf 3 = 1 := by kernel_rfl
  rw [cL] at hl
  obtain ⟨a0, a1, a2, a3, a4, a5, rfl⟩ := list6 hl
  have hn : xs.length = 6 := hlen
  obtain ⟨y0, f0, -⟩ := fld hf 0 3 0 1 rfl cI (by omega)
  obtain ⟨y1, f1, -⟩ := fld hf 1 3 1 1 rfl cI (by omega)
  obtain ⟨y2, f2, -⟩ := fld hf 2 3 2 1 rfl cI (by omega)
  obtain ⟨y3, f3, -⟩ := fld hf 3 3 3 1 rfl cI (by omega)
  obtain ⟨y4, f4, -⟩ := fld hf 4 3 4 1 rfl cI (by omega)
  obtain ⟨y5, f5, -⟩ := fld hf 5 3 5 1 rfl cI (by omega)
  simp only [List.drop_zero, List.drop_succ_cons, List.take_succ_cons, List.take_zero] at f0 f1 f2 f3 f4 f5
  obtain ⟨i0, g0, -, -⟩ := DataW.trod_int Tryd.underlying3 f0
  obtain ⟨i1, g1, -, -⟩ := DataW.trod_int Tryd.underlying3 f1
  obtain ⟨i2, g2, -, -⟩ := DataW.trod_int Tryd.underlying3 f2
  obtain ⟨i3, g3, -, -⟩ := DataW.trod_int Tryd.underlying3 f3
  obtain ⟨i4, g4, -, -⟩ := DataW.trod_int Tryd.underlying3 f4
  obtain ⟨i5, g5, -, -⟩ := DataW.trod_int Tryd.underlying3 f5
  simp only [List.cons.injEq, and_true] at g0 g1 g2 g3 g4 g5
  subst g0 g1 g2 g3 g4 g5
  exact ⟨⟨i0, i1, i2, i3, i4, i5⟩, rfl⟩
set_option maxRecDepth 100000 in
theorem lim_in {r : Reach} {b0 : Nat} {v : Value} {d : DataW H} {p : List MemPlace} (hv : Value.okWide Tryd.prog w r b0 70 v) (h : DataW.Trod enc Tryd.prog w base spare held 70 v d p) : ∃ l : Lim, v = limV l := by
  obtain ⟨cs, rfl, -⟩ := okWide_struct Tryd.underlying70 hv
  obtain ⟨fuel, hf⟩ := h
  obtain ⟨l, e⟩ := lim_of hf
  refine ⟨l, ?_⟩
  have : cs = l.cells.toList.toArray := by rw [← e]; simp [Value.cells]
  rw [this]; rfl
set_option maxRecDepth 100000 in
theorem ref_in {r : Reach} {b0 : Nat} {v : Value} {d : DataW H} {p : List MemPlace} (hv : Value.okWide Tryd.prog w r b0 30 v) (h : DataW.Trod enc Tryd.prog w base spare held 30 v d p) : ∃ s g : Int, v = refV s g := by
  obtain ⟨cs, rfl, -⟩ := okWide_struct Tryd.underlying30 hv
  obtain ⟨fuel, hf⟩ := h
  obtain ⟨s, g, e⟩ := ref2_of hf
  refine ⟨s, g, ?_⟩
  have : cs = ([.int .i64 s, .int .i64 g] : List Value).toArray := by rw [← e]; simp [Value.cells]
  rw [this]; rfl
end
end Go.Proofs.YtkkmfacngmginaaDoor
