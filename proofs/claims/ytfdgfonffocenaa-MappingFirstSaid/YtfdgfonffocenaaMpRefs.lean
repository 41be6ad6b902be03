/- A slice of refs that came in. -/
import Derived.Test.YtfdgfonffocenaaMpLaid
import Derived.Test.YtfdgfonffocenaaMpFirst
namespace Go.Proofs.Ytfdgfonffocenaa
open Go.ChangeShapes Go.WideShapes Go.RowKit
section
variable {H : Type} {enc : TypeId × Value → H} {w : World} {base : Nat} {spare : Nat → Bool} {held : Bool}
theorem sv_pairs {α : Type} (E : Lay α) (hsz : E.sz = 2) {a : Addr} {len cap : Nat} (f : Nat → α) (V0 V1 : Nat → Value) (h : ∀ i, i < len → w.cell? (a.add (i * 2)) = some (V0 i) ∧ w.cell? (a.add (i * 2 + 1)) = some (V1 i) ∧ E.enc (f i) = [V0 i, V1 i])
    (hl : len ≤ cap) (hm : cap ≤ maxLen) : SV E w (.slice (some a) len cap) ((List.range len).map f) := by
  obtain ⟨b, off, spot⟩ := a
  have hlen : ((List.range len).map f).length = len := by simp
  refine ⟨some ⟨b, off, spot⟩, cap, by rw [hlen], by rw [hlen]; exact hl, hm, fun h => (by cases h), b, off, fun hne x hx => ?_, fun j u hu => ?_⟩
  · rw [hlen] at hne
    have hs := World.cell?_spot (h 0 (by omega)).1
    simp only [Addr.add, Nat.zero_mul, if_true] at hs
    subst hs
    exact (Option.some.inj hx).symm
  · have hj : j < len * 2 := by
      have := (List.getElem?_eq_some_iff.1 hu).1
      rw [E.flat_len, hlen, hsz] at this; exact this
    have hi : j / 2 < len := by omega
    have hx : ((List.range len).map f)[j / 2]? = some (f (j / 2)) := by rw [List.getElem?_map, List.getElem?_range hi]; rfl
    have e := E.flat_at _ (j / 2) (j % 2) _ hx (by rw [hsz]; exact Nat.mod_lt _ (by decide))
    rw [hsz, show j / 2 * 2 + j % 2 = j from Nat.div_add_mod' j 2, hu] at e
    obtain ⟨h0, h1, h2⟩ := h (j / 2) hi
    have hs := World.cell?_spot (h 0 (by omega)).1
    simp only [Addr.add, Nat.zero_mul, if_true] at hs
    subst hs
    rw [Go.WideShapes.add_plain] at h0 h1
    rw [h2] at e
    rcases Nat.mod_two_eq_zero_or_one j with hm | hm
    · rw [hm] at e
      obtain rfl : u = V0 (j / 2) := by simpa using e
      rw [show off + j = off + j / 2 * 2 by omega]; exact h0
    · rw [hm] at e
      obtain rfl : u = V1 (j / 2) := by simpa using e
      rw [show off + j = off + (j / 2 * 2 + 1) by omega]; exact h1
set_option maxRecDepth 100000 in
theorem refs_in {r : Reach} {b0 : Nat} {v : Value} {d : DataW H} {p : List MemPlace} (hv : Value.okWide Try.prog w r b0 24 v) (h : DataW.Trod enc Try.prog w base spare held 24 v d p) : ∃ xs : List Rf, SV lRef w v xs := by
  obtain ⟨fuel, hf⟩ := h
  obtain ⟨a0, len0, cap0, rfl⟩ := okWide_slice Try.underlying24 hv
  rcases Go.Deep.open_slice_pairs Try.underlying24 Try.underlying23 (by kernel_rfl) rfl rfl (by kernel_rfl) (by kernel_rfl) hf with ⟨hcs, -⟩ | ⟨a, len, cap, m, n, V0, V1, D0, D1, P0, P1, hcs, -, hl, hm, hmm, -, hx⟩
  · have e : Value.slice a0 len0 cap0 = .slice none 0 0 := by simpa [Value.cells] using hcs
    rw [e]
    exact ⟨[], SV.nil _ _⟩
  · have e : Value.slice a0 len0 cap0 = .slice (some a) len cap := by simpa [Value.cells] using hcs
    rw [e]
    have hle : len ≤ m := by rw [hmm]; split <;> omega
    exact ⟨_, sv_pairs (w := w) lRef rfl (a := a) (len := len) (cap := cap) (fun i => (intOfV (V0 i), intOfV (V1 i))) V0 V1 (fun i hi => by
      obtain ⟨h1, h2, h3, h4⟩ := hx i (by omega)
      obtain ⟨s, e1, -, -⟩ := DataW.trod_int Try.underlying3 h3
      obtain ⟨t, e2, -, -⟩ := DataW.trod_int Try.underlying3 h4
      have e1' : V0 i = .int .i64 s := by simpa using e1
      have e2' : V1 i = .int .i64 t := by simpa using e2
      exact ⟨h1, h2, by rw [e1', e2']; rfl⟩) hl hm⟩
end
end Go.Proofs.Ytfdgfonffocenaa
