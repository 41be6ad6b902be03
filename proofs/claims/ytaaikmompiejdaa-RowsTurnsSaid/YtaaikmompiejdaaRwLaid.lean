/- What the frames of layer 3's laws share: the program's own settings, its layout; rows, a row and a span that came in. -/
import Derived.Test.YtaaikmompiejdaaRows
import Derived.Test.YtaaikmompiejdaaRwX
import Derived.Test.YtaaikmompiejdaaRwOpen
namespace Go.Proofs.Ytaaikmompiejdaa
open Go.ChangeShapes Go.WideShapes Go.RowKit
theorem Try.own : ownKnob Try.prog.godebug = none := by kernel_rfl
theorem Try.laidOut : laidOutB Try.prog = true := by kernel_rfl

theorem rows_in {H : Type} {enc : TypeId × Value → H} {w : World} {base : Nat} {spare : Nat → Bool} {held : Bool} {r : Reach} {b0 : Nat} {v : Value} {d : DataW H} {p : List MemPlace}
    (hv : Value.okWide Try.prog w r b0 22 v) (h : DataW.Trod enc Try.prog w base spare held 22 v d p) : ∃ rs, RowsV w v rs := by
  obtain ⟨fuel, hf⟩ := h
  obtain ⟨a0, len0, cap0, rfl⟩ := okWide_slice Try.underlying22 hv
  exact rows_of hv (by simpa [Value.cells] using hf)
theorem row_in {H : Type} {enc : TypeId × Value → H} {w : World} {base : Nat} {spare : Nat → Bool} {held : Bool} {r : Reach} {b0 : Nat} {v : Value} {d : DataW H} {p : List MemPlace}
    (hv : Value.okWide Try.prog w r b0 30 v) (h : DataW.Trod enc Try.prog w base spare held 30 v d p) :
    ∃ (k x : ByteArray), v = .agg #[.string k, .string x] ∧ k.size ≤ maxLen ∧ x.size ≤ maxLen := by
  obtain ⟨v0, v1, y0, y1, n, rfl, -, -, h0, h1⟩ := Go.Joins.open_agg2 Try.underlying30 (by kernel_rfl) (by kernel_rfl) hv h
  obtain ⟨s, e0, -, hs⟩ := DataW.trod_string Try.underlying9 h0
  obtain ⟨t, e1, -, ht⟩ := DataW.trod_string Try.underlying9 h1
  obtain rfl : v0 = .string s := by simpa using e0
  obtain rfl : v1 = .string t := by simpa using e1
  exact ⟨s, t, rfl, hs, ht⟩
theorem span_in {H : Type} {enc : TypeId × Value → H} {w : World} {base : Nat} {spare : Nat → Bool} {held : Bool} {r : Reach} {b0 : Nat} {v : Value} {d : DataW H} {p : List MemPlace}
    (hv : Value.okWide Try.prog w r b0 54 v) (h : DataW.Trod enc Try.prog w base spare held 54 v d p) :
    ∃ (l h : ByteArray) (u : Bool), v = .agg #[.string l, .string h, .bool u] ∧ l.size ≤ maxLen ∧ h.size ≤ maxLen := by
  obtain ⟨v0, v1, v2, y0, y1, y2, n, rfl, -, -, h0, h1, h2⟩ := Go.Joins.open_agg3 Try.underlying54 (by kernel_rfl) (by kernel_rfl) hv h
  obtain ⟨s, e0, -, hs⟩ := DataW.trod_string Try.underlying9 h0
  obtain ⟨t, e1, -, ht⟩ := DataW.trod_string Try.underlying9 h1
  obtain ⟨u, e2, -⟩ := DataW.trod_bool Try.underlying4 h2
  obtain rfl : v0 = .string s := by simpa using e0
  obtain rfl : v1 = .string t := by simpa using e1
  obtain rfl : v2 = .bool u := by simpa using e2
  exact ⟨s, t, u, rfl, hs, ht⟩
end Go.Proofs.Ytaaikmompiejdaa
