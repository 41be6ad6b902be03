/- Rows that came in: a slice of rows reads as a list of keys with values. -/
import Derived.Test.YtaaikmompiejdaaRwV
import Derived.Deep.SlicePairs
namespace Go.Proofs.Ytaaikmompiejdaa
open Go.ChangeShapes Go.WideShapes Go.RowKit

def strOf : Value → ByteArray | .string s => s | _ => ByteArray.empty
theorem flat_cover (rs : List Rw) (j : Nat) (u : Value) (h : (flat rs)[j]? = some u) : (∃ i, i < rs.length ∧ j = i * 2 ∧ u = .string (rs.getD i r0).1) ∨ (∃ i, i < rs.length ∧ j = i * 2 + 1 ∧ u = .string (rs.getD i r0).2) := by
  have hj : j < rs.length * 2 := by rw [← flat_length]; exact (List.getElem?_eq_some_iff.1 h).1
  rcases Nat.mod_two_eq_zero_or_one j with hm | hm
  · obtain ⟨i, hi⟩ : ∃ i, j = i * 2 := ⟨j / 2, by omega⟩
    subst hi
    have hl : i < rs.length := by omega
    rw [flat_at0 rs i hl] at h
    exact .inl ⟨i, hl, rfl, (Option.some.inj h).symm⟩
  · obtain ⟨i, hi⟩ : ∃ i, j = i * 2 + 1 := ⟨j / 2, by omega⟩
    subst hi
    have hl : i < rs.length := by omega
    rw [flat_at1 rs i hl] at h
    exact .inr ⟨i, hl, rfl, (Option.some.inj h).symm⟩
theorem rows_of {H : Type} {enc : TypeId × Value → H} {w : World} {base : Nat} {spare : Nat → Bool} {held : Bool} {r : Reach} {b0 fuel : Nat} {v : Value} {x : DataW H × List MemPlace}
    (hv : Value.okWide Try.prog w r b0 22 v) (h : DataW.trod enc Try.prog w base spare held fuel 22 [v] = some x) : ∃ rs, RowsV w v rs := by
  rcases Go.Deep.open_slice_pairs Try.underlying22 Try.underlying30 (by kernel_rfl) rfl rfl (by kernel_rfl) (by kernel_rfl) h with ⟨hcs, -⟩ | ⟨a, len, cap, m, n, V0, V1, D0, D1, P0, P1, hcs, -, hl, hm, hmm, -, hx⟩
  · obtain rfl : v = .slice none 0 0 := by simpa using hcs
    exact ⟨[], RowsV.nil w⟩
  · obtain rfl : v = .slice (some a) len cap := by simpa using hcs
    have hspot : a.spot = none := by
      simp only [Value.okWide, Try.underlying22, Cell.okWide, Cell.ok] at hv
      exact hv.2.2.2.1
    obtain ⟨b, off, spot⟩ := a
    simp only at hspot
    subst hspot
    have hle : len ≤ m := by rw [hmm]; split <;> omega
    have str : ∀ i, i < len → w.cell? ⟨b, off + i * 2, none⟩ = some (.string (strOf (V0 i))) ∧ w.cell? ⟨b, off + i * 2 + 1, none⟩ = some (.string (strOf (V1 i))) ∧ (strOf (V0 i)).size ≤ maxLen ∧ (strOf (V1 i)).size ≤ maxLen := fun i hi => by
      obtain ⟨h1, h2, h3, h4⟩ := hx i (by omega)
      obtain ⟨s, e1, -, hs⟩ := DataW.trod_string Try.underlying9 h3
      obtain ⟨t, e2, -, ht⟩ := DataW.trod_string Try.underlying9 h4
      have e1' : V0 i = .string s := by simpa using e1
      have e2' : V1 i = .string t := by simpa using e2
      rw [Go.WideShapes.add_plain] at h1 h2
      rw [e1'] at h1 ⊢
      rw [e2'] at h2 ⊢
      exact ⟨h1, by rw [Nat.add_assoc]; exact h2, hs, ht⟩
    have hlen : ((List.range len).map fun i => ((strOf (V0 i), strOf (V1 i)) : Rw)).length = len := by simp
    have hget : ∀ i, i < len → ((List.range len).map fun i => ((strOf (V0 i), strOf (V1 i)) : Rw)).getD i r0 = (strOf (V0 i), strOf (V1 i)) := fun i hi => by
      rw [List.getD, List.getElem?_map, List.getElem?_range hi]; rfl
    refine ⟨(List.range len).map fun i => (strOf (V0 i), strOf (V1 i)), some ⟨b, off, none⟩, cap, by rw [hlen], by rw [hlen]; exact hl, hm, fun h => (by cases h), b, off, fun x hx => (Option.some.inj hx).symm, fun j u hu => ?_, fun r hr => ?_⟩
    · rcases flat_cover _ j u hu with ⟨i, hi, rfl, rfl⟩ | ⟨i, hi, rfl, rfl⟩
      · rw [hlen] at hi; rw [hget i hi]; exact (str i hi).1
      · rw [hlen] at hi; rw [hget i hi, ← Nat.add_assoc]; exact (str i hi).2.1
    · obtain ⟨i, hi, rfl⟩ := List.mem_map.1 hr
      have := str i (List.mem_range.1 hi)
      exact ⟨this.2.2.1, this.2.2.2⟩
end Go.Proofs.Ytaaikmompiejdaa
