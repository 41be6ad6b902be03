/- Package mapping's New, free and find, by contracts. -/
import Derived.Test.YtkkmfacngmginaaMm
import Derived.Test.YtkkmfacngmginaaMpInv
namespace Go.Proofs.Ytkkmfacngmginaa
open Go.RowKit

set_option maxRecDepth 100000 in
set_option maxHeartbeats 4000000 in
theorem mp_free_any (w : World) (u : Bool) (x y : Int) (p : Pg) (hp : pgEnc p = [.bool u, .int .i64 x, .int .i64 y]) :
    Calls Try.prog 96 #[.agg #[.bool u, .int .i64 x, .int .i64 y]] w fun ev w' => ev = .returned (.bool p.isNone) ∧ Below w.heap.size w w' := by
  have B := Lib.hid (alloc_below0 w (.cells #[.bool u, .int .i64 x, .int .i64 y] 158))
  cases p with
  | none =>
    simp only [pgEnc, List.cons.injEq, Value.bool.injEq, Value.int.injEq, true_and, and_true] at hp
    obtain ⟨rfl, rfl, rfl⟩ := hp
    go_enter Try.func96, Try.ntmps96
    go_wp2
    go_ret
    exact ⟨rfl, B.out⟩
  | some r =>
    simp only [pgEnc, List.cons.injEq, Value.bool.injEq, Value.int.injEq, true_and, and_true] at hp
    obtain ⟨rfl, rfl, rfl⟩ := hp
    go_enter Try.func96, Try.ntmps96
    go_wp2
    go_ret
    exact ⟨rfl, B.out⟩
set_option maxRecDepth 100000 in
set_option maxHeartbeats 4000000 in
theorem mp_find_nil (n : Int) (w : World) :
    Calls Try.prog 95 #[.pointer none, .int .i64 n] w fun ev w' => ev = .returned (.tuple #[.pointer none, .iface 73 (.int .i64 1)]) ∧ Below w.heap.size w w' := by
  have B := Lib.hid (Below.refl w.heap.size w)
  go_enter Try.func95, Try.ntmps95
  go_wp2
  go_ret2
  exact ⟨rfl, B.out⟩
set_option maxRecDepth 100000 in
set_option maxHeartbeats 4000000 in
theorem mp_find_out (w : World) (ab pb n : Nat) (L : List Pg) (x : Int) (h : TabAt w ab pb n L) (hx : x < 0 ∨ (n : Int) ≤ x) :
    Calls Try.prog 95 #[.pointer (some ⟨ab, 0, none⟩), .int .i64 x] w fun ev w' => ev = .returned (.tuple #[.pointer none, .iface 73 (.int .i64 1)]) ∧ Below w.heap.size w w' := by
  have c0 := h.a0
  have B := Lib.hid (Below.refl w.heap.size w)
  clear h
  by_cases h1 : x < 0
  · clear hx
    go_enter Try.func95, Try.ntmps95
    go_wp2
    go_ret2
    exact ⟨rfl, B.out⟩
  · have h2 : (n : Int) ≤ x := by omega
    clear hx
    go_enter Try.func95, Try.ntmps95
    go_wp2
    go_ret2
    exact ⟨rfl, B.out⟩
set_option maxRecDepth 100000 in
set_option maxHeartbeats 4000000 in
theorem mp_find_free (w : World) (ab pb n i : Nat) (L : List Pg) (h : TabAt w ab pb n L) (hi : L[i]? = some none) :
    Calls Try.prog 95 #[.pointer (some ⟨ab, 0, none⟩), .int .i64 (i : Int)] w fun ev w' => ev = .returned (.tuple #[.pointer none, .iface 73 (.int .i64 6)]) ∧ Below w.heap.size w w' := by
  have c0 := h.a0
  have P := h.pnone hi
  have hlt : i < n := h.len ▸ (List.getElem?_eq_some_iff.1 hi).1
  have x0 := P.c0
  have x1 := P.c1
  have x2 := P.c2
  have B := Lib.hid (alloc_below0 w (.cells #[.bool false, .int .i64 0, .int .i64 0] 158))
  have j1 : ¬ (i : Int) < 0 := by omega
  have j2 : ¬ (n : Int) ≤ (i : Int) := by omega
  have j3 : (0 : Int) ≤ (i : Int) := by omega
  have j4 : (i : Int) < (n : Int) := by omega
  clear h P hi hlt
  go_enter Try.func95, Try.ntmps95
  go_wp2
  go_ret2
  exact ⟨rfl, B.out⟩
set_option maxRecDepth 100000 in
set_option maxHeartbeats 4000000 in
theorem mp_find_hit (w : World) (ab pb n i : Nat) (L : List Pg) (r : Rf) (h : TabAt w ab pb n L) (hi : L[i]? = some (some r)) :
    Calls Try.prog 95 #[.pointer (some ⟨ab, 0, none⟩), .int .i64 (i : Int)] w fun ev w' => ev = .returned (.tuple #[.pointer (some ⟨pb, i * 3, none⟩), .nilIface]) ∧ Below w.heap.size w w' := by
  have c0 := h.a0
  have P := h.psome hi
  have hlt : i < n := h.len ▸ (List.getElem?_eq_some_iff.1 hi).1
  obtain ⟨x, y⟩ := r
  have x0 := P.c0
  have x1 := P.c1
  have x2 := P.c2
  simp only at x1 x2
  have c1 := cell_step c0 (alloc_below0 w (.cells #[.bool true, .int .i64 x, .int .i64 y] 158))
  have B := Lib.hid (alloc_below0 w (.cells #[.bool true, .int .i64 x, .int .i64 y] 158))
  have j1 : ¬ (i : Int) < 0 := by omega
  have j2 : ¬ (n : Int) ≤ (i : Int) := by omega
  have j3 : (0 : Int) ≤ (i : Int) := by omega
  have j4 : (i : Int) < (n : Int) := by omega
  clear h P hi hlt
  go_enter Try.func95, Try.ntmps95
  go_wp2
  go_ret2
  exact ⟨rfl, B.out⟩
/-- find over a table: a used page, or why there is none -/
theorem mp_find_cases {w : World} {ab pb n : Nat} {L : List Pg} (h : TabAt w ab pb n L) (x : Int) :
    (∃ (i : Nat) (r : Rf), x = i ∧ i < n ∧ L[i]? = some (some r) ∧ codeT L x = 0 ∧ headT L x = r ∧ Calls Try.prog 95 #[.pointer (some ⟨ab, 0, none⟩), .int .i64 x] w fun ev w' => ev = .returned (.tuple #[.pointer (some ⟨pb, i * 3, none⟩), .nilIface]) ∧ Below w.heap.size w w')
    ∨ (∃ e : Int, (e = 1 ∨ e = 6) ∧ codeT L x = e ∧ Calls Try.prog 95 #[.pointer (some ⟨ab, 0, none⟩), .int .i64 x] w fun ev w' => ev = .returned (.tuple #[.pointer none, .iface 73 (.int .i64 e)]) ∧ Below w.heap.size w w') := by
  rcases page_cases L x with ⟨hc, hx⟩ | ⟨i, rfl, hg, hc⟩ | ⟨i, r, rfl, hg, hc, hh⟩
  · exact .inr ⟨1, .inl rfl, hc, mp_find_out w ab pb n L x h (h.len ▸ hx)⟩
  · exact .inr ⟨6, .inr rfl, hc, mp_find_free w ab pb n i L h hg⟩
  · exact .inl ⟨i, r, rfl, h.len ▸ (List.getElem?_eq_some_iff.1 hg).1, hg, hc, hh, mp_find_hit w ab pb n i L r h hg⟩
end Go.Proofs.Ytkkmfacngmginaa
