/- Package arena's find, by contracts. -/
import Derived.Test.YtabchlgbdlgacaaMm
import Derived.Test.YtabchlgbdlgacaaArInv
namespace Go.Proofs.Ytabchlgbdlgacaa
open Go.RowKit

set_option maxRecDepth 100000 in
set_option maxHeartbeats 4000000 in
theorem ar_find_out (w : World) (ab sb n : Nat) (x y : Int) (ha0 : w.cell? ⟨ab, 0, none⟩ = some (.slice (some ⟨sb, 0, none⟩) n n)) (h : x < 1 ∨ (n : Int) < x) :
    Calls Try.prog 72 #[.pointer (some ⟨ab, 0, none⟩), refV x y] w fun ev w' => ev = .returned (.tuple #[.pointer none, .iface 60 (.int .i64 1)]) ∧ Below w.heap.size w w' := by
  have b1 := alloc_below0 w (.cells #[.int .i64 x, .int .i64 y] 34)
  have c0 := cell_step ha0 b1
  have B := Lib.hid b1
  clear ha0 b1
  unfold refV
  by_cases hx : x < 1
  · clear h
    go_enter Try.func72, Try.ntmps72
    go_wp2
    go_quiet (fail)
    go_wp2
    go_ret2
    exact ⟨rfl, below_drewN B.out _⟩
  · have hx2 : (n : Int) < x := by omega
    clear h
    go_enter Try.func72, Try.ntmps72
    go_wp2
    go_quiet (fail)
    go_wp2
    go_ret2
    exact ⟨rfl, below_drewN B.out _⟩
set_option maxRecDepth 100000 in
set_option maxHeartbeats 4000000 in
theorem ar_find_free (w : World) (ab sb n i : Nat) (l g y : Int) (hi : i < n) (hn : n ≤ 4096) (h : SlAt w ab sb n i l g none) :
    Calls Try.prog 72 #[.pointer (some ⟨ab, 0, none⟩), refV ((i : Int) + 1) y] w fun ev w' => ev = .returned (.tuple #[.pointer none, .iface 60 (.int .i64 4)]) ∧ Below w.heap.size w w' := by
  have b1 := alloc_below0 w (.cells #[.int .i64 ((i : Int) + 1), .int .i64 y] 34)
  have H := h.step b1
  have c0 := H.a0
  have c2 := H.c2
  have B := Lib.hid b1
  clear h b1 H
  unfold refV
  have i0 : IntKind.i64.wrap ((i : Int) + 1 - 1) = (i : Int) := by rw [show (i : Int) + 1 - 1 = i by omega]; exact Go.IntWalk.i64_in _ (by omega)
  have j1 : ¬ (i : Int) + 1 < 1 := by omega
  have j2 : ¬ (n : Int) < (i : Int) + 1 := by omega
  have j3 : (0 : Int) ≤ (i : Int) := by omega
  have j4 : (i : Int) < (n : Int) := by omega
  go_enter Try.func72, Try.ntmps72
  go_wp2
  go_quiet (fail)
  go_wp2
  go_quiet (fail)
  go_wp2
  go_quiet (fail)
  go_wp2
  go_ret2
  exact ⟨rfl, below_drewN B.out _⟩
set_option maxRecDepth 100000 in
set_option maxHeartbeats 4000000 in
theorem ar_find_hit (w : World) (ab sb n i q : Nat) (l g : Int) (hi : i < n) (hn : n ≤ 4096) (h : SlAt w ab sb n i l g (some ⟨q, 0, none⟩)) :
    Calls Try.prog 72 #[.pointer (some ⟨ab, 0, none⟩), refV ((i : Int) + 1) g] w fun ev w' => ev = .returned (.tuple #[.pointer (some ⟨sb, i * 3, none⟩), .nilIface]) ∧ Below w.heap.size w w' := by
  have b1 := alloc_below0 w (.cells #[.int .i64 ((i : Int) + 1), .int .i64 g] 34)
  have H := h.step b1
  have c0 := H.a0
  have c2 := H.c2
  have c3 := H.c0
  have c4 := H.c1
  have B := Lib.hid b1
  clear h b1 H
  unfold refV
  have i0 : IntKind.i64.wrap ((i : Int) + 1 - 1) = (i : Int) := by rw [show (i : Int) + 1 - 1 = i by omega]; exact Go.IntWalk.i64_in _ (by omega)
  have j1 : ¬ (i : Int) + 1 < 1 := by omega
  have j2 : ¬ (n : Int) < (i : Int) + 1 := by omega
  have j3 : (0 : Int) ≤ (i : Int) := by omega
  have j4 : (i : Int) < (n : Int) := by omega
  have e1 : ((i : Int) + 1 == (i : Int) + 1) = true := by simp
  have e2 : (g == g) = true := by simp
  go_enter Try.func72, Try.ntmps72
  go_wp2
  go_quiet (fail)
  go_wp2
  go_quiet (fail)
  go_wp2
  go_quiet (fail)
  go_wp2
  go_ret2
  exact ⟨rfl, below_drewN (below_drewN (below_drewN B.out _) _) _⟩
set_option maxRecDepth 100000 in
set_option maxHeartbeats 4000000 in
theorem find_gone (w : World) (ab sb n i q : Nat) (l g y : Int) (hi : i < n) (hn : n ≤ 4096) (h : SlAt w ab sb n i l g (some ⟨q, 0, none⟩)) (hy : g ≠ y) :
    Calls Try.prog 72 #[.pointer (some ⟨ab, 0, none⟩), refV ((i : Int) + 1) y] w fun ev w' => ev = .returned (.tuple #[.pointer none, .iface 60 (.int .i64 4)]) ∧ Below w.heap.size w w' := by
  have b1 := alloc_below0 w (.cells #[.int .i64 ((i : Int) + 1), .int .i64 y] 34)
  have H := h.step b1
  have c0 := H.a0
  have c2 := H.c2
  have c3 := H.c0
  have c4 := H.c1
  have B := Lib.hid b1
  clear h b1 H
  unfold refV
  have i0 : IntKind.i64.wrap ((i : Int) + 1 - 1) = (i : Int) := by rw [show (i : Int) + 1 - 1 = i by omega]; exact Go.IntWalk.i64_in _ (by omega)
  have j1 : ¬ (i : Int) + 1 < 1 := by omega
  have j2 : ¬ (n : Int) < (i : Int) + 1 := by omega
  have j3 : (0 : Int) ≤ (i : Int) := by omega
  have j4 : (i : Int) < (n : Int) := by omega
  have e1 : ((i : Int) + 1 == (i : Int) + 1) = true := by simp
  have e2 : (g == y) = false := by simp [hy]
  go_enter Try.func72, Try.ntmps72
  go_wp2
  go_quiet (fail)
  go_wp2
  go_quiet (fail)
  go_wp2
  go_quiet (fail)
  go_wp2
  go_ret2
  exact ⟨rfl, below_drewN B.out _⟩
/-- find over an arena: a live ref's slot, or why it has none -/
theorem ar_find_cases {w : World} {ab sb : Nat} {ss : List Sl} {S : Nat → Prop} {n l : Nat} {ps : List Pt} (I : InvAt w ab sb ss S n l ps) (x y : Int) :
    (∃ i q d j p, i < n ∧ x = (i : Int) + 1 ∧ y = ((stOf ps (i + 1)).1 : Int) ∧ (stOf ps (i + 1)).2 = some d ∧ codeM n ps x y = 0 ∧ findM ps x y = some j ∧ ps[j]? = some p ∧ p.rcd = d ∧ RecS w S q d ∧ SlAt w ab sb n i l y (some ⟨q, 0, none⟩) ∧ ss[i]? = some ((i : Int) + 1, y, some ⟨q, 0, none⟩)
      ∧ (∀ m, stOf (freeM n ps x y) m = if m = i + 1 then ((stOf ps (i + 1)).1, none) else stOf ps m)
      ∧ Calls Try.prog 72 #[.pointer (some ⟨ab, 0, none⟩), refV x y] w fun ev w' => ev = .returned (.tuple #[.pointer (some ⟨sb, i * 3, none⟩), .nilIface]) ∧ Below w.heap.size w w')
    ∨ (∃ e : Int, (e = 1 ∨ e = 4) ∧ codeM n ps x y = e ∧ Calls Try.prog 72 #[.pointer (some ⟨ab, 0, none⟩), refV x y] w fun ev w' => ev = .returned (.tuple #[.pointer none, .iface 60 (.int .i64 e)]) ∧ Below w.heap.size w w') := by
  have hn := okN_of I.ok
  by_cases hx : x < 1 ∨ (n : Int) < x
  · right
    refine ⟨1, .inl rfl, by unfold codeM; rw [if_pos hx], ?_⟩
    exact ar_find_out w ab sb n x y (blk_cell I.blkA 0) hx
  · obtain ⟨i, rfl⟩ : ∃ i : Nat, x = (i : Int) + 1 := ⟨(x - 1).toNat, by omega⟩
    have hi : i < n := by omega
    obtain ⟨p, h1, h2, h3⟩ := I.slot hi
    have hc : (((i + 1 : Nat) : Int)) = (i : Int) + 1 := by omega
    rw [hc] at h1
    rcases find_st I.val (i + 1) y with ⟨d, j, q, a1, a2, a3, a4, a5, a6⟩ | ⟨b1, b2⟩
    · left
      rw [a1] at h2
      obtain ⟨g, rfl, hr⟩ := h2
      rw [hc] at a3
      have hcode : codeM n ps ((i : Int) + 1) y = 0 := by unfold codeM; rw [if_neg hx, a3]; rfl
      have hfree : freeM n ps ((i : Int) + 1) y = ps.modify j (fun p => { p with live := false }) := by unfold freeM; rw [if_pos hcode, a3]
      rw [a2] at h1 h3
      exact ⟨i, g, d, j, q, hi, rfl, a2.symm, a1, hcode, a3, a4, a5, hr, h3, h1, by rw [hfree]; exact a6, ar_find_hit w ab sb n i g l y hi hn.2.1 h3⟩
    · right
      rw [hc] at b2
      refine ⟨4, .inr rfl, by unfold codeM; rw [if_neg hx, b2]; rfl, ?_⟩
      cases hs : (stOf ps (i + 1)).2 with
      | none =>
        rw [hs] at h2
        cases h2
        exact ar_find_free w ab sb n i l _ y hi hn.2.1 h3
      | some d =>
        rw [hs] at h2 b1
        obtain ⟨g, rfl, -⟩ := h2
        exact find_gone w ab sb n i g l _ y hi hn.2.1 h3 (b1.resolve_left (by simp))
end Go.Proofs.Ytabchlgbdlgacaa
