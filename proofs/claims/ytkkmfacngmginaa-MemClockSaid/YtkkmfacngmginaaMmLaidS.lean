/- Limits, and a slice of steps, that came in. -/
import Derived.Test.YtkkmfacngmginaaMmLaid
import Derived.Test.YtkkmfacngmginaaMmFew
namespace Go.Proofs.Ytkkmfacngmginaa
open Go.ChangeShapes Go.WideShapes Go.RowKit
section
variable {H : Type} {enc : TypeId × Value → H} {w : World} {base : Nat} {spare : Nat → Bool} {held : Bool}
theorem list6 {α : Type} {l : List α} (h : l.length = 6) : ∃ a0 a1 a2 a3 a4 a5, l = [a0, a1, a2, a3, a4, a5] := by
  match l, h with
  | [a0, a1, a2, a3, a4, a5], _ => exact ⟨a0, a1, a2, a3, a4, a5, rfl⟩
set_option maxRecDepth 100000 in
theorem lim_of {fuel : Nat} {cs : List Value} {x : DataW H × List MemPlace} (h : DataW.trod enc Try.prog w base spare held fuel 80 cs = some x) : ∃ l : Lim, cs = l.cells.toList := by
  obtain ⟨xs, n, -, rfl, hl, hlen, hf⟩ := DataW.trod_struct Try.underlying80 h
  have cL : Try.prog.cellsOf 80 = 6 := by kernel_rfl
  have cI : Try.prog.cellsOf 3 = 1 := by kernel_rfl
  rw [cL] at hl
  obtain ⟨a0, a1, a2, a3, a4, a5, rfl⟩ := list6 hl
  have hn : xs.length = 6 := hlen
  obtain ⟨y0, f0, -⟩ := fld hf 0 3 0 1 rfl cI (by omega)
  obtain ⟨y1, f1, -⟩ := fld hf 1 3 1 1 rfl cI (by omega)
  obtain ⟨y2, f2, -⟩ := fld hf 2 3 2 1 rfl cI (by omega)
  obtain ⟨y3, f3, -⟩ := fld hf 3 3 3 1 rfl cI (by omega)
  obtain ⟨y4, f4, -⟩ := fld hf 4 3 4 1 rfl cI (by omega)
  obtain ⟨y5, f5, -⟩ := fld hf 5 3 5 1 rfl cI (by omega)
  simp only [List.drop_zero, List.drop_succ_cons, List.take_succ_cons, List.take_zero] at f0 f1 f2 f3 f4 f5
  obtain ⟨i0, g0, -, -⟩ := DataW.trod_int Try.underlying3 f0
  obtain ⟨i1, g1, -, -⟩ := DataW.trod_int Try.underlying3 f1
  obtain ⟨i2, g2, -, -⟩ := DataW.trod_int Try.underlying3 f2
  obtain ⟨i3, g3, -, -⟩ := DataW.trod_int Try.underlying3 f3
  obtain ⟨i4, g4, -, -⟩ := DataW.trod_int Try.underlying3 f4
  obtain ⟨i5, g5, -, -⟩ := DataW.trod_int Try.underlying3 f5
  simp only [List.cons.injEq, and_true] at g0 g1 g2 g3 g4 g5
  subst g0 g1 g2 g3 g4 g5
  exact ⟨⟨i0, i1, i2, i3, i4, i5⟩, rfl⟩
set_option maxRecDepth 100000 in
theorem lim_in {r : Reach} {b0 : Nat} {v : Value} {d : DataW H} {p : List MemPlace} (hv : Value.okWide Try.prog w r b0 80 v) (h : DataW.Trod enc Try.prog w base spare held 80 v d p) : ∃ l : Lim, v = limV l := by
  obtain ⟨cs, rfl, -⟩ := okWide_struct Try.underlying80 hv
  obtain ⟨fuel, hf⟩ := h
  obtain ⟨l, e⟩ := lim_of hf
  refine ⟨l, ?_⟩
  have : cs = l.cells.toList.toArray := by rw [← e]; simp [Value.cells]
  rw [this]; rfl
set_option maxRecDepth 100000 in
theorem dms_in {r : Reach} {b0 : Nat} {v : Value} {d : DataW H} {p : List MemPlace} (hv : Value.okWide Try.prog w r b0 83 v) (h : DataW.Trod enc Try.prog w base spare held 83 v d p) :
    ∃ ds : List DM, SV lDm w v ds := by
  obtain ⟨fuel, hf⟩ := h
  obtain ⟨a0, len0, cap0, rfl⟩ := okWide_slice Try.underlying83 hv
  have c38 : Try.prog.cellsOf 52 = 23 := by kernel_rfl
  rcases Go.Deep.open_slice Try.underlying83 hf with ⟨hcs, -⟩ | ⟨a, len, cap, m, n, D, Pl, hcs, -, hl, hm, hmm, -, hx⟩
  · have e : Value.slice a0 len0 cap0 = .slice none 0 0 := by simpa [Value.cells] using hcs
    rw [e]
    exact ⟨[], SV.nil _ _⟩
  · have e : Value.slice a0 len0 cap0 = .slice (some a) len cap := by simpa [Value.cells] using hcs
    rw [e]
    have hle : len ≤ m := by rw [hmm]; split <;> omega
    have spot : 0 < len → a.spot = none := fun h0 => by
      obtain ⟨cs', h1, -⟩ := hx 0 (by omega)
      rw [c38] at h1
      obtain ⟨-, h2, h3⟩ := World.cells?_some h1
      obtain ⟨u, hu⟩ := get_some h2 (i := 0) (by decide)
      have := h3 0 (by decide)
      rw [hu] at this
      have := World.cell?_spot this
      simpa [Addr.add] using this
    obtain ⟨ds, h1, h2⟩ := pick_list (Q := fun i (d : DM) => ∀ j u, d.cells[j]? = some u → w.cell? ⟨a.block, a.off + i * 23 + j, none⟩ = some u) len (fun i hi => by
      obtain ⟨cs', g1, g2⟩ := hx i (by omega)
      rw [c38] at g1
      obtain ⟨-, g3, g4⟩ := World.cells?_some g1
      obtain ⟨d, rfl⟩ := dm_of g2
      refine ⟨d, fun j u hu => ?_⟩
      have hj : j < 23 := by have := (List.getElem?_eq_some_iff.1 hu).1; rw [g3] at this; exact this
      have := g4 j hj
      rw [hu] at this
      rw [← this]
      obtain ⟨b, off, sp⟩ := a
      have hs : sp = none := spot (by omega)
      subst hs
      rw [Go.WideShapes.add_plain, Go.WideShapes.add_plain])
    refine ⟨ds, ⟨some a, cap, by rw [h1], by rw [h1]; exact hl, hm, fun h => (by cases h), a.block, a.off, fun hne x hx => ?_, fun j u hu => ?_⟩⟩
    · rw [h1] at hne
      obtain rfl := Option.some.inj hx
      have hs := spot (by omega)
      obtain ⟨b, off, sp⟩ := a
      simp only at hs
      subst hs
      rfl
    · have hj : j < len * 23 := by
        have := (List.getElem?_eq_some_iff.1 hu).1
        rw [lDm.flat_len, h1] at this; exact this
      obtain ⟨d, hd⟩ := get_some h1 (i := j / 23) (by omega)
      have e := lDm.flat_at _ (j / 23) (j % 23) _ hd (Nat.mod_lt _ (by decide))
      rw [show j / 23 * lDm.sz + j % 23 = j from Nat.div_add_mod' j 23, hu] at e
      have := (h2 _ _ hd) (j % 23) u e.symm
      rw [← this, show a.off + j / 23 * 23 + j % 23 = a.off + j by omega]
end
end Go.Proofs.Ytkkmfacngmginaa
