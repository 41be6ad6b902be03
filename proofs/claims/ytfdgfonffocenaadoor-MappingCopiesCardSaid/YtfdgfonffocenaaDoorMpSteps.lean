/- Steps that came in, in memory; what a play of them leaves. -/
import Derived.Test.YtfdgfonffocenaaDoorMpLaid
import Derived.Test.YtfdgfonffocenaaDoorMpDoes
namespace Go.Proofs.YtfdgfonffocenaaDoor
open Go.ChangeShapes Go.WideShapes Go.RowKit

theorem DoD.cells_one (d : DoD) : ∀ u ∈ d.cells, u.oneCell' = true := fun u h => by
  simp only [DoD.cells, List.mem_cons, List.not_mem_nil, or_false] at h
  rcases h with h | h | h | h | h | h | h <;> subst h <;> rfl
def lDo : Lay DoD := ⟨34, 7, DoD.cells, fun _ => rfl, DoD.cells_one⟩
def DoD.step (L : List Pg) (d : DoD) : List Pg := stepL L d.verb d.x d.right (d.os, d.og) (d.ns, d.ng)
theorem DoD.step_len (L : List Pg) (d : DoD) : (d.step L).length = L.length := stepL_len ..
theorem step_read {w : World} {b off n c k : Nat} {ds : List DoD} (h : SV lDo w (.slice (some ⟨b, off, none⟩) n c) ds) {d : DoD} (hd : ds[k]? = some d) :
    w.cell? ⟨b, off + k * 7, none⟩ = some (.int .i64 d.verb) ∧ w.cell? ⟨b, off + k * 7 + 1, none⟩ = some (.int .i64 d.x) ∧ w.cell? ⟨b, off + k * 7 + 2, none⟩ = some (.bool d.right) ∧ w.cell? ⟨b, off + k * 7 + 3, none⟩ = some (.int .i64 d.os) ∧
    w.cell? ⟨b, off + k * 7 + 4, none⟩ = some (.int .i64 d.og) ∧ w.cell? ⟨b, off + k * 7 + 5, none⟩ = some (.int .i64 d.ns) ∧ w.cell? ⟨b, off + k * 7 + 6, none⟩ = some (.int .i64 d.ng) :=
  ⟨h.cellAt (j := 0) hd rfl, h.cellAt (j := 1) hd rfl, h.cellAt (j := 2) hd rfl, h.cellAt (j := 3) hd rfl, h.cellAt (j := 4) hd rfl, h.cellAt (j := 5) hd rfl, h.cellAt (j := 6) hd rfl⟩
section
variable {H : Type} {enc : TypeId × Value → H} {w : World} {base : Nat} {spare : Nat → Bool} {held : Bool}
theorem pick_list {α : Type} {Q : Nat → α → Prop} : ∀ len : Nat, (∀ i, i < len → ∃ d, Q i d) → ∃ ds : List α, ds.length = len ∧ ∀ i d, ds[i]? = some d → Q i d
  | 0, _ => ⟨[], rfl, fun i d h => by simp at h⟩
  | len + 1, h => by
    obtain ⟨ds, h1, h2⟩ := pick_list len (fun i hi => h i (by omega))
    obtain ⟨d, hd⟩ := h len (by omega)
    refine ⟨ds ++ [d], by simp [h1], fun i e he => ?_⟩
    by_cases hi : i < len
    · rw [List.getElem?_append_left (by omega)] at he
      exact h2 i e he
    · rw [List.getElem?_append_right (by omega), h1] at he
      have : i - len = 0 := by
        have := (List.getElem?_eq_some_iff.1 he).1
        simp at this; omega
      rw [this] at he
      obtain rfl : d = e := by simpa using he
      rw [show i = len by omega]; exact hd
set_option maxRecDepth 100000 in
theorem dos_in {r : Reach} {b0 : Nat} {v : Value} {d : DataW H} {p : List MemPlace} (hv : Value.okWide Tryd.prog w r b0 22 v) (h : DataW.Trod enc Tryd.prog w base spare held 22 v d p) : ∃ ds : List DoD, SV lDo w v ds := by
  obtain ⟨fuel, hf⟩ := h
  obtain ⟨a0, len0, cap0, rfl⟩ := okWide_slice Tryd.underlying22 hv
  have c7 : Tryd.prog.cellsOf 34 = 7 := by kernel_rfl
  rcases Go.Deep.open_slice Tryd.underlying22 hf with ⟨hcs, -⟩ | ⟨a, len, cap, m, n, D, Pl, hcs, -, hl, hm, hmm, -, hx⟩
  · have e : Value.slice a0 len0 cap0 = .slice none 0 0 := by simpa [Value.cells] using hcs
    rw [e]
    exact ⟨[], SV.nil _ _⟩
  · have e : Value.slice a0 len0 cap0 = .slice (some a) len cap := by simpa [Value.cells] using hcs
    rw [e]
    have hle : len ≤ m := by rw [hmm]; split <;> omega
    have spot : 0 < len → a.spot = none := fun h0 => by
      obtain ⟨cs', h1, -⟩ := hx 0 (by omega)
      rw [c7] at h1
      obtain ⟨-, h2, h3⟩ := World.cells?_some h1
      obtain ⟨u, hu⟩ := get_some h2 (i := 0) (by decide)
      have := h3 0 (by decide)
      rw [hu] at this
      have := World.cell?_spot this
      simpa [Addr.add] using this
    obtain ⟨ds, h1, h2⟩ := pick_list (Q := fun i (d : DoD) => ∀ j u, d.cells[j]? = some u → w.cell? ⟨a.block, a.off + i * 7 + j, none⟩ = some u) len (fun i hi => by
      obtain ⟨cs', g1, g2⟩ := hx i (by omega)
      rw [c7] at g1
      obtain ⟨-, g3, g4⟩ := World.cells?_some g1
      obtain ⟨d, rfl⟩ := do_of g2
      refine ⟨d, fun j u hu => ?_⟩
      have hj : j < 7 := by have := (List.getElem?_eq_some_iff.1 hu).1; rw [g3] at this; exact this
      have := g4 j hj
      rw [hu] at this
      rw [← this]
      obtain ⟨b, off, sp⟩ := a
      have hs : sp = none := spot (by omega)
      subst hs
      rw [Go.WideShapes.add_plain, Go.WideShapes.add_plain])
    refine ⟨ds, ⟨some a, cap, by rw [h1], by rw [h1]; exact hl, hm, fun h => (by cases h), a.block, a.off, fun hne x hx => ?_, fun j u hu => ?_⟩⟩
    · rw [h1] at hne
      obtain rfl := Option.some.inj hx
      have hs := spot (by omega)
      obtain ⟨b, off, sp⟩ := a
      simp only at hs
      subst hs
      rfl
    · have hj : j < len * 7 := by
        have := (List.getElem?_eq_some_iff.1 hu).1
        rw [lDo.flat_len, h1] at this; exact this
      obtain ⟨d, hd⟩ := get_some h1 (i := j / 7) (by omega)
      have e := lDo.flat_at _ (j / 7) (j % 7) _ hd (Nat.mod_lt _ (by decide))
      rw [show j / 7 * lDo.sz + j % 7 = j from Nat.div_add_mod' j 7, hu] at e
      have := h2 _ _ hd (j % 7) u e.symm
      rw [← this, show a.off + j / 7 * 7 + j % 7 = a.off + j by omega]
end
end Go.Proofs.YtfdgfonffocenaaDoor
