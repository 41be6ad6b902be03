/- Slices of steps that came in. -/
import Derived.Test.YtocigedgicgonaaDoorEpLaid
namespace Go.Proofs.YtocigedgicgonaaDoor
open Go.ChangeShapes Go.WideShapes Go.RowKit
section
variable {H : Type} {enc : TypeId × Value → H} {w : World} {base : Nat} {spare : Nat → Bool} {held : Bool}
set_option maxRecDepth 100000 in
theorem dos_in {r : Reach} {b0 : Nat} {v : Value} {d : DataW H} {p : List MemPlace} (hv : Value.okWide Tryd.prog w r b0 22 v) (h : DataW.Trod enc Tryd.prog w base spare held 22 v d p) : ∃ ds : List DoD, SV lDo w v ds := by
  obtain ⟨fuel, hf⟩ := h
  obtain ⟨a0, len0, cap0, rfl⟩ := okWide_slice Tryd.underlying22 hv
  have c3 : Tryd.prog.cellsOf 32 = 3 := by kernel_rfl
  rcases Go.Deep.open_slice Tryd.underlying22 hf with ⟨hcs, -⟩ | ⟨a, len, cap, m, n, D, Pl, hcs, -, hl, hm, hmm, -, hx⟩
  · have e : Value.slice a0 len0 cap0 = .slice none 0 0 := by simpa [Value.cells] using hcs
    rw [e]
    exact ⟨[], SV.nil _ _⟩
  · have e : Value.slice a0 len0 cap0 = .slice (some a) len cap := by simpa [Value.cells] using hcs
    rw [e]
    have hle : len ≤ m := by rw [hmm]; split <;> omega
    have spot : 0 < len → a.spot = none := fun h0 => by
      obtain ⟨cs', h1, -⟩ := hx 0 (by omega)
      rw [c3] at h1
      obtain ⟨-, h2, h3⟩ := World.cells?_some h1
      obtain ⟨u, hu⟩ := get_some h2 (i := 0) (by decide)
      have := h3 0 (by decide)
      rw [hu] at this
      have := World.cell?_spot this
      simpa [Addr.add] using this
    obtain ⟨ds, h1, h2⟩ := pick_list (Q := fun i (d : DoD) => ∀ j u, d.cells[j]? = some u → w.cell? ⟨a.block, a.off + i * 3 + j, none⟩ = some u) len (fun i hi => by
      obtain ⟨cs', g1, g2⟩ := hx i (by omega)
      rw [c3] at g1
      obtain ⟨-, g3, g4⟩ := World.cells?_some g1
      obtain ⟨d, rfl⟩ := do_of g2
      refine ⟨d, fun j u hu => ?_⟩
      have hj : j < 3 := by have := (List.getElem?_eq_some_iff.1 hu).1; rw [g3] at this; exact this
      have := g4 j hj
      rw [hu] at this
      rw [← this]
      obtain ⟨b, off, sp⟩ := a
      have hs : sp = none := spot (by omega)
      subst hs
      rw [Go.WideShapes.add_plain, Go.WideShapes.add_plain])
    refine ⟨ds, ⟨some a, cap, by rw [h1], by rw [h1]; exact hl, hm, fun h => (by cases h), a.block, a.off, fun hne x hx => ?_, fun j u hu => ?_⟩⟩
    · rw [h1] at hne
      obtain rfl := Option.some.inj hx
      have hs := spot (by omega)
      obtain ⟨b, off, sp⟩ := a
      simp only at hs
      subst hs
      rfl
    · have hj : j < len * 3 := by
        have := (List.getElem?_eq_some_iff.1 hu).1
        rw [lDo.flat_len, h1] at this; exact this
      obtain ⟨d, hd⟩ := get_some h1 (i := j / 3) (by omega)
      have e := lDo.flat_at _ (j / 3) (j % 3) _ hd (Nat.mod_lt _ (by decide))
      rw [show j / 3 * lDo.sz + j % 3 = j from Nat.div_add_mod' j 3, hu] at e
      have := h2 _ _ hd (j % 3) u e.symm
      rw [← this, show a.off + j / 3 * 3 + j % 3 = a.off + j by omega]
end
end Go.Proofs.YtocigedgicgonaaDoor
