/- A span that came in: its two texts, and whether it is without an end. -/
import Derived.Test.YtakdnhfohpmcpaaBkLaid
namespace Go.Proofs.Ytakdnhfohpmcpaa
open Go.ChangeShapes Go.WideShapes Go.RowKit

theorem span_of {H : Type} {enc : TypeId × Value → H} {w : World} {base : Nat} {spare : Nat → Bool} {held : Bool} {r : Reach} {b0 : Nat} {v : Value} {d : DataW H} {p : List MemPlace}
    (hv : Value.okWide Try.prog w r b0 39 v) (h : DataW.Trod enc Try.prog w base spare held 39 v d p) :
    ∃ (l h : ByteArray) (u : Bool), v = .agg #[.string l, .string h, .bool u] ∧ l.size ≤ maxLen ∧ h.size ≤ maxLen := by
  obtain ⟨v0, v1, v2, y0, y1, y2, n, rfl, -, -, h0, h1, h2⟩ := Go.Joins.open_agg3 Try.underlying39 (by kernel_rfl) (by kernel_rfl) hv h
  obtain ⟨s, e0, -, hs⟩ := DataW.trod_string Try.underlying9 h0
  obtain ⟨t, e1, -, ht⟩ := DataW.trod_string Try.underlying9 h1
  obtain ⟨u, e2, -⟩ := DataW.trod_bool Try.underlying4 h2
  obtain rfl : v0 = .string s := by simpa using e0
  obtain rfl : v1 = .string t := by simpa using e1
  obtain rfl : v2 = .bool u := by simpa using e2
  exact ⟨s, t, u, rfl, hs, ht⟩
end Go.Proofs.Ytakdnhfohpmcpaa
