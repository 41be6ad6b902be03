/- Items, and slices of items, that came in. -/
import Derived.Test.YtocigedgicgonaaEpLaid
import Derived.Test.YtocigedgicgonaaEpBin
namespace Go.Proofs.Ytocigedgicgonaa
open Go.ChangeShapes Go.WideShapes Go.RowKit
section
variable {H : Type} {enc : TypeId × Value → H} {w : World} {base : Nat} {spare : Nat → Bool} {held : Bool}
theorem list4 {α : Type} {l : List α} (h : l.length = 4) : ∃ a0 a1 a2 a3, l = [a0, a1, a2, a3] := by
  match l, h with
  | [a0, a1, a2, a3], _ => exact ⟨a0, a1, a2, a3, rfl⟩
theorem list2 {α : Type} {l : List α} (h : l.length = 2) : ∃ a0 a1, l = [a0, a1] := by
  match l, h with
  | [a0, a1], _ => exact ⟨a0, a1, rfl⟩
set_option maxRecDepth 100000 in
theorem ref_of {fuel : Nat} {cs : List Value} {x : DataW H × List MemPlace} (h : DataW.trod enc Try.prog w base spare held fuel 29 cs = some x) : ∃ s g : Int, cs = [.int .i64 s, .int .i64 g] := by
  obtain ⟨xs, n, -, rfl, hl, hlen, hf⟩ := DataW.trod_struct Try.underlying29 h
  have c2 : Try.prog.cellsOf 29 = 2 := by kernel_rfl
  have cI : Try.prog.cellsOf 3 = 1 := by kernel_rfl
  rw [c2] at hl
  obtain ⟨a0, a1, rfl⟩ := list2 hl
  have hn : xs.length = 2 := hlen
  obtain ⟨y0, f0, -⟩ := fld hf 0 3 0 1 rfl cI (by omega)
  obtain ⟨y1, f1, -⟩ := fld hf 1 3 1 1 rfl cI (by omega)
  simp only [List.drop_zero, List.drop_succ_cons, List.take_succ_cons, List.take_zero] at f0 f1
  obtain ⟨s, g0, -, -⟩ := DataW.trod_int Try.underlying3 f0
  obtain ⟨g, g1, -, -⟩ := DataW.trod_int Try.underlying3 f1
  simp only [List.cons.injEq, and_true] at g0 g1
  subst g0 g1
  exact ⟨s, g, rfl⟩
set_option maxRecDepth 100000 in
theorem it_of {fuel : Nat} {cs : List Value} {x : DataW H × List MemPlace} (h : DataW.trod enc Try.prog w base spare held fuel 31 cs = some x) : ∃ d : It, cs = d.cells := by
  obtain ⟨xs, n, -, rfl, hl, hlen, hf⟩ := DataW.trod_struct Try.underlying31 h
  have c4 : Try.prog.cellsOf 31 = 4 := by kernel_rfl
  have cI : Try.prog.cellsOf 3 = 1 := by kernel_rfl
  have cX : Try.prog.cellsOf 29 = 2 := by kernel_rfl
  rw [c4] at hl
  obtain ⟨a0, a1, a2, a3, rfl⟩ := list4 hl
  have hn : xs.length = 3 := hlen
  obtain ⟨y0, f0, -⟩ := fld hf 0 3 0 1 rfl cI (by omega)
  obtain ⟨y1, f1, -⟩ := fld hf 1 29 1 2 rfl cX (by omega)
  obtain ⟨y2, f2, -⟩ := fld hf 2 3 3 1 rfl cI (by omega)
  simp only [List.drop_zero, List.drop_succ_cons, List.take_succ_cons, List.take_zero] at f0 f1 f2
  obtain ⟨v, g0, -, -⟩ := DataW.trod_int Try.underlying3 f0
  obtain ⟨p, q, g1⟩ := ref_of f1
  obtain ⟨z, g2, -, -⟩ := DataW.trod_int Try.underlying3 f2
  simp only [List.cons.injEq, and_true] at g0 g1 g2
  obtain ⟨rfl, rfl⟩ := g1
  subst g0 g2
  exact ⟨⟨v, p, q, z⟩, rfl⟩
set_option maxRecDepth 100000 in
theorem it_in {r : Reach} {b0 : Nat} {v : Value} {d : DataW H} {p : List MemPlace} (hv : Value.okWide Try.prog w r b0 31 v) (h : DataW.Trod enc Try.prog w base spare held 31 v d p) :
    ∃ d : It, v = d.val := by
  obtain ⟨cs, rfl, -⟩ := okWide_struct Try.underlying31 hv
  obtain ⟨fuel, hf⟩ := h
  obtain ⟨d, e⟩ := it_of hf
  refine ⟨d, ?_⟩
  have : cs = d.cells.toArray := by rw [← e]; simp [Value.cells]
  rw [this]; rfl
set_option maxRecDepth 100000 in
theorem its_in {r : Reach} {b0 : Nat} {v : Value} {d : DataW H} {p : List MemPlace} (hv : Value.okWide Try.prog w r b0 22 v) (h : DataW.Trod enc Try.prog w base spare held 22 v d p) : ∃ ds : List It, SV lIt w v ds := by
  obtain ⟨fuel, hf⟩ := h
  obtain ⟨a0, len0, cap0, rfl⟩ := okWide_slice Try.underlying22 hv
  have c4 : Try.prog.cellsOf 31 = 4 := by kernel_rfl
  rcases Go.Deep.open_slice Try.underlying22 hf with ⟨hcs, -⟩ | ⟨a, len, cap, m, n, D, Pl, hcs, -, hl, hm, hmm, -, hx⟩
  · have e : Value.slice a0 len0 cap0 = .slice none 0 0 := by simpa [Value.cells] using hcs
    rw [e]
    exact ⟨[], SV.nil _ _⟩
  · have e : Value.slice a0 len0 cap0 = .slice (some a) len cap := by simpa [Value.cells] using hcs
    rw [e]
    have hle : len ≤ m := by rw [hmm]; split <;> omega
    have spot : 0 < len → a.spot = none := fun h0 => by
      obtain ⟨cs', h1, -⟩ := hx 0 (by omega)
      rw [c4] at h1
      obtain ⟨-, h2, h3⟩ := World.cells?_some h1
      obtain ⟨u, hu⟩ := get_some h2 (i := 0) (by decide)
      have := h3 0 (by decide)
      rw [hu] at this
      have := World.cell?_spot this
      simpa [Addr.add] using this
    obtain ⟨ds, h1, h2⟩ := pick_list (Q := fun i (d : It) => ∀ j u, d.cells[j]? = some u → w.cell? ⟨a.block, a.off + i * 4 + j, none⟩ = some u) len (fun i hi => by
      obtain ⟨cs', g1, g2⟩ := hx i (by omega)
      rw [c4] at g1
      obtain ⟨-, g3, g4⟩ := World.cells?_some g1
      obtain ⟨d, rfl⟩ := it_of g2
      refine ⟨d, fun j u hu => ?_⟩
      have hj : j < 4 := by have := (List.getElem?_eq_some_iff.1 hu).1; rw [g3] at this; exact this
      have := g4 j hj
      rw [hu] at this
      rw [← this]
      obtain ⟨b, off, sp⟩ := a
      have hs : sp = none := spot (by omega)
      subst hs
      rw [Go.WideShapes.add_plain, Go.WideShapes.add_plain])
    refine ⟨ds, ⟨some a, cap, by rw [h1], by rw [h1]; exact hl, hm, fun h => (by cases h), a.block, a.off, fun hne x hx => ?_, fun j u hu => ?_⟩⟩
    · rw [h1] at hne
      obtain rfl := Option.some.inj hx
      have hs := spot (by omega)
      obtain ⟨b, off, sp⟩ := a
      simp only at hs
      subst hs
      rfl
    · have hj : j < len * 4 := by
        have := (List.getElem?_eq_some_iff.1 hu).1
        rw [lIt.flat_len, h1] at this; exact this
      obtain ⟨d, hd⟩ := get_some h1 (i := j / 4) (by omega)
      have e := lIt.flat_at _ (j / 4) (j % 4) _ hd (Nat.mod_lt _ (by decide))
      rw [show j / 4 * lIt.sz + j % 4 = j from Nat.div_add_mod' j 4, hu] at e
      have := h2 _ _ hd (j % 4) u e.symm
      rw [← this, show a.off + j / 4 * 4 + j % 4 = a.off + j by omega]
end
end Go.Proofs.Ytocigedgicgonaa
