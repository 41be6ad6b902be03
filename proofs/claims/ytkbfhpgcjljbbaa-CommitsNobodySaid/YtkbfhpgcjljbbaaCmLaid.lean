/- What came in, for the frames of the plain laws of layer 16: spans, texts, lists of lists, one step. -/
import Derived.Test.YtkbfhpgcjljbbaaRwV
import Derived.Deep.SlicePairs
import Derived.Test.YtkbfhpgcjljbbaaCmLaidA
import Derived.Test.YtkbfhpgcjljbbaaCmFirst
import Derived.Test.YtkbfhpgcjljbbaaCmDo
namespace Go.Proofs.Ytkbfhpgcjljbbaa
open Go.ChangeShapes Go.WideShapes Go.RowKit

def strOf : Value → ByteArray | .string s => s | _ => ByteArray.empty
theorem flat_cover (rs : List Rw) (j : Nat) (u : Value) (h : (flat rs)[j]? = some u) : (∃ i, i < rs.length ∧ j = i * 2 ∧ u = .string (rs.getD i r0).1) ∨ (∃ i, i < rs.length ∧ j = i * 2 + 1 ∧ u = .string (rs.getD i r0).2) := by
  have hj : j < rs.length * 2 := by rw [← flat_length]; exact (List.getElem?_eq_some_iff.1 h).1
  rcases Nat.mod_two_eq_zero_or_one j with hm | hm
  · obtain ⟨i, hi⟩ : ∃ i, j = i * 2 := ⟨j / 2, by omega⟩
    subst hi
    have hl : i < rs.length := by omega
    rw [flat_at0 rs i hl] at h
    exact .inl ⟨i, hl, rfl, (Option.some.inj h).symm⟩
  · obtain ⟨i, hi⟩ : ∃ i, j = i * 2 + 1 := ⟨j / 2, by omega⟩
    subst hi
    have hl : i < rs.length := by omega
    rw [flat_at1 rs i hl] at h
    exact .inr ⟨i, hl, rfl, (Option.some.inj h).symm⟩
set_option maxRecDepth 100000 in
theorem rows_of {H : Type} {enc : TypeId × Value → H} {w : World} {base : Nat} {spare : Nat → Bool} {held : Bool} {r : Reach} {b0 fuel : Nat} {v : Value} {x : DataW H × List MemPlace}
    (hv : Value.okWide Try.prog w r b0 38 v) (h : DataW.trod enc Try.prog w base spare held fuel 38 [v] = some x) : ∃ rs, RowsV w v rs := by
  rcases Go.Deep.open_slice_pairs Try.underlying38 Try.underlying48 (by kernel_rfl) rfl rfl (by kernel_rfl) (by kernel_rfl) h with ⟨hcs, -⟩ | ⟨a, len, cap, m, n, V0, V1, D0, D1, P0, P1, hcs, -, hl, hm, hmm, -, hx⟩
  · obtain rfl : v = .slice none 0 0 := by simpa using hcs
    exact ⟨[], RowsV.nil w⟩
  · obtain rfl : v = .slice (some a) len cap := by simpa using hcs
    have hspot : a.spot = none := by
      simp only [Value.okWide, Try.underlying38, Cell.okWide, Cell.ok] at hv
      exact hv.2.2.2.1
    obtain ⟨b, off, spot⟩ := a
    simp only at hspot
    subst hspot
    have hle : len ≤ m := by rw [hmm]; split <;> omega
    have str : ∀ i, i < len → w.cell? ⟨b, off + i * 2, none⟩ = some (.string (strOf (V0 i))) ∧ w.cell? ⟨b, off + i * 2 + 1, none⟩ = some (.string (strOf (V1 i))) ∧ (strOf (V0 i)).size ≤ maxLen ∧ (strOf (V1 i)).size ≤ maxLen := fun i hi => by
      obtain ⟨h1, h2, h3, h4⟩ := hx i (by omega)
      obtain ⟨s, e1, -, hs⟩ := DataW.trod_string Try.underlying9 h3
      obtain ⟨t, e2, -, ht⟩ := DataW.trod_string Try.underlying9 h4
      have e1' : V0 i = .string s := by simpa using e1
      have e2' : V1 i = .string t := by simpa using e2
      rw [Go.WideShapes.add_plain] at h1 h2
      rw [e1'] at h1 ⊢
      rw [e2'] at h2 ⊢
      exact ⟨h1, by rw [Nat.add_assoc]; exact h2, hs, ht⟩
    have hlen : ((List.range len).map fun i => ((strOf (V0 i), strOf (V1 i)) : Rw)).length = len := by simp
    have hget : ∀ i, i < len → ((List.range len).map fun i => ((strOf (V0 i), strOf (V1 i)) : Rw)).getD i r0 = (strOf (V0 i), strOf (V1 i)) := fun i hi => by
      rw [List.getD, List.getElem?_map, List.getElem?_range hi]; rfl
    refine ⟨(List.range len).map fun i => (strOf (V0 i), strOf (V1 i)), some ⟨b, off, none⟩, cap, by rw [hlen], by rw [hlen]; exact hl, hm, fun h => (by cases h), b, off, fun x hx => (Option.some.inj hx).symm, fun j u hu => ?_, fun r hr => ?_⟩
    · rcases flat_cover _ j u hu with ⟨i, hi, rfl, rfl⟩ | ⟨i, hi, rfl, rfl⟩
      · rw [hlen] at hi; rw [hget i hi]; exact (str i hi).1
      · rw [hlen] at hi; rw [hget i hi, ← Nat.add_assoc]; exact (str i hi).2.1
    · obtain ⟨i, hi, rfl⟩ := List.mem_map.1 hr
      have := str i (List.mem_range.1 hi)
      exact ⟨this.2.2.1, this.2.2.2⟩

set_option linter.unusedVariables false
set_option linter.unusedSimpArgs false
open Go.ChangeShapes Go.WideShapes Go.RowKit

section
variable {H : Type} {enc : TypeId × Value → H} {w : World} {base : Nat} {spare : Nat → Bool} {held : Bool}
set_option maxRecDepth 100000 in
theorem sp_of (fuel : Nat) (cs : List Value) (x : DataW H × List MemPlace) (h : DataW.trod enc Try.prog w base spare held fuel 53 cs = some x) :
    ∃ d : ByteArray × ByteArray × Bool, cs = [.string d.1, .string d.2.1, .bool d.2.2] ∧ d.1.size ≤ maxLen ∧ d.2.1.size ≤ maxLen := by
  obtain ⟨xs, n, -, -, hl, hlen, hf⟩ := DataW.trod_struct Try.underlying53 h
  have cT : Try.prog.cellsOf 53 = 3 := by kernel_rfl
  have cS : Try.prog.cellsOf 9 = 1 := by kernel_rfl
  have cB : Try.prog.cellsOf 4 = 1 := by kernel_rfl
  rw [cT] at hl
  obtain ⟨a0, a1, a2, rfl⟩ := list3 hl
  have hn : xs.length = 3 := hlen
  obtain ⟨y0, f0, -⟩ := fld hf 0 9 0 1 rfl cS (by omega)
  obtain ⟨y1, f1, -⟩ := fld hf 1 9 1 1 rfl cS (by omega)
  obtain ⟨y2, f2, -⟩ := fld hf 2 4 2 1 rfl cB (by omega)
  simp only [List.drop_zero, List.drop_succ_cons, List.take_succ_cons, List.take_zero] at f0 f1 f2
  obtain ⟨s, g0, -, hs⟩ := DataW.trod_string Try.underlying9 f0
  obtain ⟨t, g1, -, ht⟩ := DataW.trod_string Try.underlying9 f1
  obtain ⟨u, g2, -⟩ := DataW.trod_bool Try.underlying4 f2
  simp only [List.cons.injEq, and_true] at g0 g1 g2
  subst g0 g1 g2
  exact ⟨(s, t, u), rfl, hs, ht⟩
set_option maxRecDepth 100000 in
theorem rows_in {H : Type} {enc : TypeId × Value → H} {w : World} {base : Nat} {spare : Nat → Bool} {held : Bool} {r : Reach} {b0 : Nat} {v : Value} {d : DataW H} {p : List MemPlace}
    (hv : Value.okWide Try.prog w r b0 38 v) (h : DataW.Trod enc Try.prog w base spare held 38 v d p) : ∃ rs, RowsV w v rs := by
  obtain ⟨fuel, hf⟩ := h
  obtain ⟨a0, len0, cap0, rfl⟩ := okWide_slice Try.underlying38 hv
  exact rows_of hv (by simpa [Value.cells] using hf)
set_option maxRecDepth 100000 in
theorem span_in {H : Type} {enc : TypeId × Value → H} {w : World} {base : Nat} {spare : Nat → Bool} {held : Bool} {r : Reach} {b0 : Nat} {v : Value} {d : DataW H} {p : List MemPlace}
    (hv : Value.okWide Try.prog w r b0 53 v) (h : DataW.Trod enc Try.prog w base spare held 53 v d p) :
    ∃ (l h : ByteArray) (u : Bool), v = .agg #[.string l, .string h, .bool u] ∧ l.size ≤ maxLen ∧ h.size ≤ maxLen := by
  obtain ⟨v0, v1, v2, y0, y1, y2, n, rfl, -, -, h0, h1, h2⟩ := Go.Joins.open_agg3 Try.underlying53 (by kernel_rfl) (by kernel_rfl) hv h
  obtain ⟨s, e0, -, hs⟩ := DataW.trod_string Try.underlying9 h0
  obtain ⟨t, e1, -, ht⟩ := DataW.trod_string Try.underlying9 h1
  obtain ⟨u, e2, -⟩ := DataW.trod_bool Try.underlying4 h2
  obtain rfl : v0 = .string s := by simpa using e0
  obtain rfl : v1 = .string t := by simpa using e1
  obtain rfl : v2 = .bool u := by simpa using e2
  exact ⟨s, t, u, rfl, hs, ht⟩
set_option maxRecDepth 100000 in
theorem spans_in {r : Reach} {b0 : Nat} {v : Value} {d : DataW H} {p : List MemPlace} (hv : Value.okWide Try.prog w r b0 51 v) (h : DataW.Trod enc Try.prog w base spare held 51 v d p) :
    ∃ ss : List Sp, SV lSp w v ss ∧ ∀ s ∈ ss, s.1.size ≤ maxLen ∧ s.2.1.size ≤ maxLen := by
  obtain ⟨fuel, hf⟩ := h
  obtain ⟨a0, len0, cap0, rfl⟩ := okWide_slice Try.underlying51 hv
  have cT : Try.prog.cellsOf 53 = 3 := by kernel_rfl
  obtain ⟨a, c, xs, e, sv, hP⟩ := sv_wide lSp Try.underlying51 cT (by decide) (fun d => d.1.size ≤ maxLen ∧ d.2.1.size ≤ maxLen) (fun f cs x h => sp_of f cs x h) hf
  have e' : Value.slice a0 len0 cap0 = .slice a xs.length c := by simpa [Value.cells] using e
  exact ⟨xs, e' ▸ sv, hP⟩
set_option maxRecDepth 100000 in
theorem texts_in {r : Reach} {b0 : Nat} {v : Value} {d : DataW H} {p : List MemPlace} (hv : Value.okWide Try.prog w r b0 50 v) (h : DataW.Trod enc Try.prog w base spare held 50 v d p) :
    ∃ ks : List ByteArray, SV lStr w v ks ∧ ∀ k ∈ ks, k.size ≤ maxLen := by
  obtain ⟨fuel, hf⟩ := h
  obtain ⟨a0, len0, cap0, rfl⟩ := okWide_slice Try.underlying50 hv
  have cT : Try.prog.cellsOf 9 = 1 := by kernel_rfl
  obtain ⟨a, c, xs, e, sv, hP⟩ := sv_wide lStr Try.underlying50 cT (by decide) (fun k => k.size ≤ maxLen) (fun f cs x h => by
    obtain ⟨s, g, -, hs⟩ := DataW.trod_string Try.underlying9 h
    exact ⟨s, g, hs⟩) hf
  have e' : Value.slice a0 len0 cap0 = .slice a xs.length c := by simpa [Value.cells] using e
  exact ⟨xs, e' ▸ sv, hP⟩
set_option maxRecDepth 100000 in
theorem lists_in {r : Reach} {b0 : Nat} {v : Value} {d : DataW H} {p : List MemPlace} (hv : Value.okWide Try.prog w r b0 22 v) (h : DataW.Trod enc Try.prog w base spare held 22 v d p) :
    ∃ ps : List (List Wr), DsV w v ps := by
  obtain ⟨fuel, hf⟩ := h
  obtain ⟨a0, len0, cap0, rfl⟩ := okWide_slice Try.underlying22 hv
  have cT : Try.prog.cellsOf 26 = 1 := by kernel_rfl
  obtain ⟨a, c, ss, e, sv, hP⟩ := sv_wide lDs Try.underlying22 cT (by decide) (fun s => ∃ xs : List Wr, WrV lDw w s.v xs) (fun f cs x h => by
    obtain ⟨a, c, xs, e, hw⟩ := wrs_of h
    exact ⟨(a, xs.length, c), e, xs, hw⟩) hf
  have e' : Value.slice a0 len0 cap0 = .slice a ss.length c := by simpa [Value.cells] using e
  obtain ⟨ps, h1, h2⟩ := pick_each ss hP
  exact ⟨ps, ss, e' ▸ sv, h1, h2⟩
theorem list5 {α : Type} {l : List α} (h : l.length = 5) : ∃ a b c d e, l = [a, b, c, d, e] := by
  match l, h with
  | [a, b, c, d, e], _ => exact ⟨a, b, c, d, e, rfl⟩
set_option maxRecDepth 100000 in
theorem do_of (fuel : Nat) (cs : List Value) (x : DataW H × List MemPlace) (h : DataW.trod enc Try.prog w base spare held fuel 59 cs = some x) :
    ∃ (v n th : Int) (r : Bool) (a : Option Addr) (c : Nat) (xs : List Wr), cs = [.int .i64 v, .int .i64 n, .int .i64 th, .bool r, .slice a xs.length c] ∧ WrV lDw w (.slice a xs.length c) xs ∧ -9223372036854775808 ≤ n ∧ n ≤ 9223372036854775807 := by
  obtain ⟨xs, n, -, -, hl, hlen, hf⟩ := DataW.trod_struct Try.underlying59 h
  have cT : Try.prog.cellsOf 59 = 5 := by kernel_rfl
  have cI : Try.prog.cellsOf 3 = 1 := by kernel_rfl
  have cB : Try.prog.cellsOf 4 = 1 := by kernel_rfl
  have cL : Try.prog.cellsOf 26 = 1 := by kernel_rfl
  rw [cT] at hl
  obtain ⟨a0, a1, a2, a3, a4, rfl⟩ := list5 hl
  have hn : xs.length = 5 := hlen
  obtain ⟨y0, f0, -⟩ := fld hf 0 3 0 1 rfl cI (by omega)
  obtain ⟨y1, f1, -⟩ := fld hf 1 3 1 1 rfl cI (by omega)
  obtain ⟨y2, f2, -⟩ := fld hf 2 3 2 1 rfl cI (by omega)
  obtain ⟨y3, f3, -⟩ := fld hf 3 4 3 1 rfl cB (by omega)
  obtain ⟨y4, f4, -⟩ := fld hf 4 26 4 1 rfl cL (by omega)
  simp only [List.drop_zero, List.drop_succ_cons, List.take_succ_cons, List.take_zero] at f0 f1 f2 f3 f4
  obtain ⟨v, g0, -, -⟩ := DataW.trod_int Try.underlying3 f0
  obtain ⟨n, g1, -, hn1⟩ := DataW.trod_int Try.underlying3 f1
  obtain ⟨th, g2, -, -⟩ := DataW.trod_int Try.underlying3 f2
  obtain ⟨r, g3, -⟩ := DataW.trod_bool Try.underlying4 f3
  obtain ⟨a, c, ws, g4, hw⟩ := wrs_of f4
  simp only [List.cons.injEq, and_true] at g0 g1 g2 g3 g4
  subst g0 g1 g2 g3 g4
  simp only [Lit.wf, Bool.and_eq_true, decide_eq_true_eq] at hn1
  exact ⟨v, n, th, r, a, c, ws, rfl, hw, hn1⟩
set_option maxRecDepth 100000 in
theorem do_in {r : Reach} {b0 : Nat} {v : Value} {d : DataW H} {p : List MemPlace} (hv : Value.okWide Try.prog w r b0 59 v) (h : DataW.Trod enc Try.prog w base spare held 59 v d p) :
    ∃ (vb n th : Int) (r : Bool) (L : Value) (xs : List Wr), v = doV vb n th r L ∧ WrV lDw w L xs := by
  obtain ⟨cs, rfl, -⟩ := okWide_struct Try.underlying59 hv
  obtain ⟨fuel, hf⟩ := h
  obtain ⟨vb, n, th, r, a, c, xs, e, hw, -⟩ := do_of _ _ _ hf
  refine ⟨vb, n, th, r, _, xs, ?_, hw⟩
  have : cs = #[.int .i64 vb, .int .i64 n, .int .i64 th, .bool r, .slice a xs.length c] := by apply Array.ext'; simpa [Value.cells] using e
  rw [this]; rfl
end
end Go.Proofs.Ytkbfhpgcjljbbaa
