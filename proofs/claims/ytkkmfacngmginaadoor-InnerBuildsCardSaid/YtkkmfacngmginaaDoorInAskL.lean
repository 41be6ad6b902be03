/- Views of inner pages that came in. -/
import Derived.Test.YtkkmfacngmginaaDoorLfLaid
import Derived.Test.YtkkmfacngmginaaDoorInAskB
namespace Go.Proofs.YtkkmfacngmginaaDoor
open Go.ChangeShapes Go.WideShapes Go.RowKit

section
variable {H : Type} {enc : TypeId × Value → H} {w : World} {base : Nat} {spare : Nat → Bool} {held : Bool}
theorem list9 {α : Type} {l : List α} (h : l.length = 9) : ∃ a0 a1 a2 a3 a4 a5 a6 a7 a8, l = [a0, a1, a2, a3, a4, a5, a6, a7, a8] := by
  match l, h with
  | [a0, a1, a2, a3, a4, a5, a6, a7, a8], _ => exact ⟨a0, a1, a2, a3, a4, a5, a6, a7, a8, rfl⟩
set_option maxRecDepth 100000 in
theorem viewR_of {fuel : Nat} {cs : List Value} {x : DataW H × List MemPlace} (h : DataW.trod enc Tryd.prog w base spare held fuel 26 cs = some x) :
    ∃ (v : IvD) (a : Option Addr) (c : Nat), cs = ivCells v (.slice a v.ents.length c) ∧ (Fits 26 x.1 → ViewW w v a c) := by
  obtain ⟨xs, n, -, rfl, hl, hlen, hf⟩ := DataW.trod_struct Tryd.underlying26 h
  have c36 : Tryd.prog.cellsOf 26 = 9 := by kernel_rfl
  have cI : Tryd.prog.cellsOf 3 = 1 := by kernel_rfl
  have cS : Tryd.prog.cellsOf 9 = 1 := by kernel_rfl
  have cB : Tryd.prog.cellsOf 4 = 1 := by kernel_rfl
  have cE : Tryd.prog.cellsOf 22 = 1 := by kernel_rfl
  have cH : Tryd.prog.cellsOf 24 = 3 := by kernel_rfl
  rw [c36] at hl
  obtain ⟨a0, a1, a2, a3, a4, a5, a6, a7, a8, rfl⟩ := list9 hl
  have hn : xs.length = 7 := hlen
  obtain ⟨y0, f0, -⟩ := fld hf 0 9 0 1 rfl cS (by omega)
  obtain ⟨y1, f1, -⟩ := fld hf 1 9 1 1 rfl cS (by omega)
  obtain ⟨y2, f2, -⟩ := fld hf 2 4 2 1 rfl cB (by omega)
  obtain ⟨y3, f3, -⟩ := fld hf 3 3 3 1 rfl cI (by omega)
  obtain ⟨y4, f4, x4⟩ := fld hf 4 22 4 1 rfl cE (by omega)
  obtain ⟨y5, f5, -⟩ := fld hf 5 4 5 1 rfl cB (by omega)
  obtain ⟨y6, f6, -⟩ := fld hf 6 24 6 3 rfl cH (by omega)
  simp only [List.drop_zero, List.drop_succ_cons, List.take_succ_cons, List.take_zero] at f0 f1 f2 f3 f4 f5 f6
  obtain ⟨lo, g0, -, z0⟩ := DataW.trod_string Tryd.underlying9 f0
  obtain ⟨hi, g1, -, z1⟩ := DataW.trod_string Tryd.underlying9 f1
  obtain ⟨un, g2, -⟩ := DataW.trod_bool Tryd.underlying4 f2
  obtain ⟨ri, g3, -, -⟩ := DataW.trod_int Tryd.underlying3 f3
  obtain ⟨ea, ec, ents, g4, se, em, ew⟩ := entsL_of f4
  obtain ⟨he, g5, -⟩ := DataW.trod_bool Tryd.underlying4 f5
  obtain ⟨xh, nh, -, -, -, hh, hfh⟩ := DataW.trod_struct Tryd.underlying24 f6
  have hh3 : xh.length = 3 := hh
  obtain ⟨u0, h0, -⟩ := fld hfh 0 3 0 1 rfl cI (by omega)
  obtain ⟨u1, h1, -⟩ := fld hfh 1 3 1 1 rfl cI (by omega)
  obtain ⟨u2, h2, -⟩ := fld hfh 2 9 2 1 rfl cS (by omega)
  simp only [List.drop_zero, List.drop_succ_cons, List.take_succ_cons, List.take_zero] at h0 h1 h2
  obtain ⟨hp, g6, -, -⟩ := DataW.trod_int Tryd.underlying3 h0
  obtain ⟨hl', g7, -, -⟩ := DataW.trod_int Tryd.underlying3 h1
  obtain ⟨hk, g8, -, z8⟩ := DataW.trod_string Tryd.underlying9 h2
  simp only [List.cons.injEq, and_true] at g0 g1 g2 g3 g4 g5 g6 g7 g8
  subst g0 g1 g2 g3 g4 g5 g6 g7 g8
  exact ⟨⟨lo, hi, un, ri, ents, he, hp, hl', hk⟩, ea, ec, rfl, fun hF => ⟨se, ⟨z0, z1, z8, em⟩, ew (hF.part Tryd.underlying26 (j := 4) rfl (by rw [List.getElem?_map, x4]; rfl))⟩⟩
set_option maxRecDepth 100000 in
theorem viewR_in {r : Reach} {b0 : Nat} {v : Value} {d : DataW H} {p : List MemPlace} (hv : Value.okWide Tryd.prog w r b0 26 v) (h : DataW.Trod enc Tryd.prog w base spare held 26 v d p) (hF : Fits 26 d) :
    ∃ (u : IvD) (a : Option Addr) (c : Nat), v = ivVal u (.slice a u.ents.length c) ∧ ViewW w u a c := by
  obtain ⟨cs, rfl, -⟩ := okWide_struct Tryd.underlying26 hv
  obtain ⟨fuel, hf⟩ := h
  obtain ⟨u, a, c, e, sw⟩ := viewR_of hf
  refine ⟨u, a, c, ?_, sw hF⟩
  have : cs = (ivCells u (.slice a u.ents.length c)).toArray := by rw [← e]; simp [Value.cells]
  rw [this]; rfl
end
end Go.Proofs.YtkkmfacngmginaaDoor
