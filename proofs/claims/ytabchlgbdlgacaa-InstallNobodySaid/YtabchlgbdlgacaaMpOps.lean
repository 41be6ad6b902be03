/- Package mapping's Give, Head and Swap, by contracts. -/
import Derived.Test.YtabchlgbdlgacaaMm
import Derived.Test.YtabchlgbdlgacaaMpFind
namespace Go.Proofs.Ytabchlgbdlgacaa
open Go.RowKit

set_option maxRecDepth 100000 in
set_option maxHeartbeats 4000000 in
theorem give_any (w : World) (ab pb n : Nat) (L : List Pg) (x : Int) (h : TabAt w ab pb n L) :
    Calls Try.prog 69 #[.pointer (some ⟨ab, 0, none⟩), .int .i64 x] w fun ev w' => ev = .returned (errV (codeT L x)) ∧ TabAt w' ab pb n (giveL L x) ∧ Kept (fun k => k = pb) w w' := by
  have I := Lib.hid h
  rcases mp_find_cases h x with ⟨i, r, rfl, hi, hg, hc, -, hf⟩ | ⟨e, he, hc, hf⟩
  · have G := Lib.hid hg
    have HC := Lib.hid (show giveL L i = L.set i none by unfold giveL; rw [if_pos hc]; rfl)
    rw [hc, HC.out]
    clear h hg hc
    go_enter Try.func69, Try.ntmps69
    go_wp2_with fail
    refine hf.mono ?_
    rintro ev w1 ⟨rfl, hs⟩
    have I1 := Lib.hid (I.out.low hs)
    have B := Lib.hid hs
    have f0 := I1.out.own.free (i * 3)
    have f1 := I1.out.own.free (i * 3 + 1)
    have f2 := I1.out.own.free (i * 3 + 2)
    have x0 := (I1.out.psome G.out).c0
    have x1 := (I1.out.psome G.out).c1
    have x2 := (I1.out.psome G.out).c2
    clear hs hf
    go_wp2
    go_ret
    exact ⟨rfl, I1.out.set G.out rfl, ((((Kept.of_below (S := fun k => k = pb) B.out).setCell _ _).setCell _ _).setCell _ _)⟩
  · have HC := Lib.hid (show giveL L x = L by unfold giveL; rw [if_neg (by rw [hc]; rcases he with rfl | rfl <;> decide)])
    have HE := Lib.hid (show errV e = .iface 60 (.int .i64 e) by rcases he with rfl | rfl <;> rfl)
    rw [hc, HC.out]
    clear h hc he
    go_enter Try.func69, Try.ntmps69
    go_wp2_with fail
    refine hf.mono ?_
    rintro ev w1 ⟨rfl, hs⟩
    have I1 := Lib.hid (I.out.low hs)
    have B := Lib.hid hs
    clear hs hf
    go_wp2
    go_ret
    exact ⟨by rw [HE.out]; rfl, I1.out, Kept.of_below B.out⟩
theorem rng2 {w : World} {b : Nat} {T : TypeId} {u0 u1 : Value} (h : w.heap[b]? = some (.cells #[u0, u1] T (0, 0))) : w.rangeAt b 0 [u0, u1] := fun j u hj => by
  rw [Nat.zero_add, blk_cell h, ← hj, ← Array.getElem?_toList]
set_option maxRecDepth 100000 in
set_option maxHeartbeats 4000000 in
theorem head_any (w : World) (ab pb n : Nat) (L : List Pg) (x : Int) (h : TabAt w ab pb n L) :
    Calls Try.prog 35 #[.pointer (some ⟨ab, 0, none⟩), .int .i64 x] w fun ev w' => ev = .returned (.tuple #[refV (headT L x).1 (headT L x).2, errV (codeT L x)]) ∧ Below w.heap.size w w' := by
  have B0 := Lib.hid (alloc_below0 w (.cells #[.int .i64 0, .int .i64 0] 34))
  have K0 := Lib.hid (blk_new w (.cells #[.int .i64 0, .int .i64 0] 34))
  have I := Lib.hid (h.low B0.out)
  rcases mp_find_cases I.out x with ⟨i, r, rfl, hi, hg, hc, hh, hf⟩ | ⟨e, he, hc, hf⟩
  · have G := Lib.hid hg
    rw [hc, hh]
    obtain ⟨s, g⟩ := r
    clear h hg hc hh
    go_enter Try.func35, Try.ntmps35
    go_wp2_with fail
    refine hf.mono ?_
    rintro ev w1 ⟨rfl, hs⟩
    have I1 := Lib.hid (I.out.low hs)
    have B := Lib.hid (B0.out.trans (hs.mono B0.out.size))
    have K1 := Lib.hid (blk_step K0.out hs)
    have x1 := (I1.out.psome G.out).c1
    have x2 := (I1.out.psome G.out).c2
    obtain ⟨q0, q1, q2, q3, q4⟩ := two_facts K1.out (.int .i64 s) (.int .i64 g)
    have Q4 := Lib.hid q4
    simp only at x1 x2
    clear hs hf q4
    go_wp2
    refine bodyPost_ret (v := .tuple #[.agg #[.int .i64 s, .int .i64 g], .nilIface]) (results_cellT rfl _ _ w.heap.size [.int .i64 s, .int .i64 g] _ .nilIface rfl rfl (rng2 Q4.out) Try.underlying34 rfl (by kernel_rfl)) rfl ⟨rfl, below_set (below_set B.out (Nat.le_refl _) _ _) (Nat.le_refl _) _ _⟩
  · have HE := Lib.hid (show errV e = .iface 60 (.int .i64 e) by rcases he with rfl | rfl <;> rfl)
    rw [hc, headT_none (by rw [hc]; rcases he with rfl | rfl <;> decide)]
    clear h hc he
    go_enter Try.func35, Try.ntmps35
    go_wp2_with fail
    refine hf.mono ?_
    rintro ev w1 ⟨rfl, hs⟩
    have B := Lib.hid (B0.out.trans (hs.mono B0.out.size))
    have K1 := Lib.hid (blk_step K0.out hs)
    obtain ⟨q0, q1, q2, q3, q4⟩ := two_facts K1.out (.int .i64 0) (.int .i64 0)
    have Q4 := Lib.hid q4
    clear hs hf q4
    go_wp2
    refine bodyPost_ret (v := .tuple #[.agg #[.int .i64 0, .int .i64 0], .iface 60 (.int .i64 e)]) (results_cellT rfl _ _ w.heap.size [.int .i64 0, .int .i64 0] _ (.iface 60 (.int .i64 e)) rfl rfl (rng2 Q4.out) Try.underlying34 rfl (by kernel_rfl)) rfl ⟨by rw [HE.out]; rfl, below_set (below_set B.out (Nat.le_refl _) _ _) (Nat.le_refl _) _ _⟩
set_option maxRecDepth 100000 in
set_option maxHeartbeats 4000000 in
theorem swap_any (w : World) (ab pb n : Nat) (L : List Pg) (x os og ns ng : Int) (h : TabAt w ab pb n L) :
    Calls Try.prog 57 #[.pointer (some ⟨ab, 0, none⟩), .int .i64 x, refV os og, refV ns ng] w fun ev w' => ev = .returned (.tuple #[.bool (swapB L x (os, og)), errV (codeT L x)]) ∧ TabAt w' ab pb n (swapL L x (os, og) (ns, ng)) ∧ Kept (fun k => k = pb) w w' := by
  obtain ⟨W, hW⟩ : ∃ W, W = (w.alloc (.cells #[.int .i64 os, .int .i64 og] 34)).alloc (.cells #[.int .i64 ns, .int .i64 ng] 34) := ⟨_, rfl⟩
  have z1 : (w.alloc (.cells #[.int .i64 os, .int .i64 og] 34)).heap.size = w.heap.size + 1 := by simp
  have b1 := alloc_below0 w (.cells #[.int .i64 os, .int .i64 og] 34)
  have b2 := alloc_below0 (w.alloc (.cells #[.int .i64 os, .int .i64 og] 34)) (.cells #[.int .i64 ns, .int .i64 ng] 34)
  have B0 := Lib.hid (show Below w.heap.size w W by rw [hW]; exact b1.trans (b2.mono b1.size))
  have K0 := Lib.hid (show W.heap[w.heap.size]? = some (.cells #[.int .i64 os, .int .i64 og] 34 (0, 0)) by rw [hW]; exact blk_step (blk_new w _) b2)
  have K1 := Lib.hid (show W.heap[w.heap.size + 1]? = some (.cells #[.int .i64 ns, .int .i64 ng] 34 (0, 0)) by rw [hW, ← z1]; exact blk_new _ _)
  have I := Lib.hid (h.low B0.out)
  clear b1 b2 z1 h
  unfold refV
  rcases mp_find_cases I.out x with ⟨i, r, rfl, hi, hg, hc, hh, hf⟩ | ⟨e, he, hc, hf⟩
  · have G := Lib.hid hg
    obtain ⟨s, g⟩ := r
    by_cases e1 : s = os
    · by_cases e2 : g = og
      · subst e1; subst e2
        have HL := Lib.hid (show swapL L i (s, g) (ns, ng) = L.set i (some (ns, ng)) by unfold swapL swapB; rw [hc, hh]; simp)
        have HB := Lib.hid (show swapB L i (s, g) = true by unfold swapB; rw [hc, hh]; simp)
        have e1 : (s == s) = true := by simp
        have e2 : (g == g) = true := by simp
        rw [hc, HL.out, HB.out]
        clear hg hc hh
        go_enter Try.func57, Try.ntmps57
        go_wp2_with fail
        rw [← hW]
        refine hf.mono ?_
        rintro ev w1 ⟨rfl, hs⟩
        have I1 := Lib.hid (I.out.low hs)
        have B := Lib.hid (B0.out.trans (hs.mono B0.out.size))
        have x1 := (I1.out.psome G.out).c1
        have x2 := (I1.out.psome G.out).c2
        have o1 : w1.cell? ⟨w.heap.size, 0, none⟩ = some (.int .i64 s) := blk_cell (blk_step K0.out hs) 0
        have o2 : w1.cell? ⟨w.heap.size, 1, none⟩ = some (.int .i64 g) := blk_cell (blk_step K0.out hs) 1
        have p1 : w1.cell? ⟨w.heap.size + 1, 0, none⟩ = some (.int .i64 ns) := blk_cell (blk_step K1.out hs) 0
        have p2 : w1.cell? ⟨w.heap.size + 1, 1, none⟩ = some (.int .i64 ng) := blk_cell (blk_step K1.out hs) 1
        have f1 := I1.out.own.free (i * 3 + 1)
        have f2 := I1.out.own.free (i * 3 + 2)
        simp only at x1 x2
        clear hs hf hW
        go_wp2
        go_quiet (fail)
        go_wp2
        go_ret2
        exact ⟨rfl, (I1.out.low (below_drewN (Below.refl _ _) _)).head G.out ns ng, ((Kept.of_below (S := fun k => k = pb) (below_drewN B.out _)).setCell _ _).setCell _ _⟩
      · subst e1
        have HB := Lib.hid (show swapB L i (s, og) = false by unfold swapB; rw [hc, hh]; simp [e2])
        have HL := Lib.hid (show swapL L i (s, og) (ns, ng) = L by unfold swapL; rw [HB.out]; rfl)
        have e1 : (s == s) = true := by simp
        have e3 : (g == og) = false := by simp [e2]
        rw [hc, HL.out, HB.out]
        clear hg hc hh
        go_enter Try.func57, Try.ntmps57
        go_wp2_with fail
        rw [← hW]
        refine hf.mono ?_
        rintro ev w1 ⟨rfl, hs⟩
        have I1 := Lib.hid (I.out.low hs)
        have B := Lib.hid (B0.out.trans (hs.mono B0.out.size))
        have x1 := (I1.out.psome G.out).c1
        have x2 := (I1.out.psome G.out).c2
        have o1 : w1.cell? ⟨w.heap.size, 0, none⟩ = some (.int .i64 s) := blk_cell (blk_step K0.out hs) 0
        have o2 : w1.cell? ⟨w.heap.size, 1, none⟩ = some (.int .i64 og) := blk_cell (blk_step K0.out hs) 1
        have p1 : w1.cell? ⟨w.heap.size + 1, 0, none⟩ = some (.int .i64 ns) := blk_cell (blk_step K1.out hs) 0
        have p2 : w1.cell? ⟨w.heap.size + 1, 1, none⟩ = some (.int .i64 ng) := blk_cell (blk_step K1.out hs) 1
        have f1 := I1.out.own.free (i * 3 + 1)
        have f2 := I1.out.own.free (i * 3 + 2)
        simp only at x1 x2
        clear hs hf hW
        go_wp2
        go_quiet (fail)
        go_wp2
        go_ret2
        exact ⟨rfl, I1.out.low (below_drewN (Below.refl _ _) _), Kept.of_below (below_drewN B.out _)⟩
    · have HB := Lib.hid (show swapB L i (os, og) = false by unfold swapB; rw [hc, hh]; simp [e1])
      have HL := Lib.hid (show swapL L i (os, og) (ns, ng) = L by unfold swapL; rw [HB.out]; rfl)
      have e3 : (s == os) = false := by simp [e1]
      rw [hc, HL.out, HB.out]
      clear hg hc hh
      go_enter Try.func57, Try.ntmps57
      go_wp2_with fail
      rw [← hW]
      refine hf.mono ?_
      rintro ev w1 ⟨rfl, hs⟩
      have I1 := Lib.hid (I.out.low hs)
      have B := Lib.hid (B0.out.trans (hs.mono B0.out.size))
      have x1 := (I1.out.psome G.out).c1
      have x2 := (I1.out.psome G.out).c2
      have o1 : w1.cell? ⟨w.heap.size, 0, none⟩ = some (.int .i64 os) := blk_cell (blk_step K0.out hs) 0
      have o2 : w1.cell? ⟨w.heap.size, 1, none⟩ = some (.int .i64 og) := blk_cell (blk_step K0.out hs) 1
      have p1 : w1.cell? ⟨w.heap.size + 1, 0, none⟩ = some (.int .i64 ns) := blk_cell (blk_step K1.out hs) 0
      have p2 : w1.cell? ⟨w.heap.size + 1, 1, none⟩ = some (.int .i64 ng) := blk_cell (blk_step K1.out hs) 1
      have f1 := I1.out.own.free (i * 3 + 1)
      have f2 := I1.out.own.free (i * 3 + 2)
      simp only at x1 x2
      clear hs hf hW
      go_wp2
      go_quiet (fail)
      go_wp2
      go_ret2
      exact ⟨rfl, I1.out.low (below_drewN (Below.refl _ _) _), Kept.of_below (below_drewN B.out _)⟩
  · have HB := Lib.hid (show swapB L x (os, og) = false by unfold swapB; rw [hc]; rcases he with rfl | rfl <;> rfl)
    have HL := Lib.hid (show swapL L x (os, og) (ns, ng) = L by unfold swapL; rw [HB.out]; rfl)
    have HE := Lib.hid (show errV e = .iface 60 (.int .i64 e) by rcases he with rfl | rfl <;> rfl)
    rw [hc, HL.out, HB.out]
    clear hc he
    go_enter Try.func57, Try.ntmps57
    go_wp2_with fail
    rw [← hW]
    refine hf.mono ?_
    rintro ev w1 ⟨rfl, hs⟩
    have I1 := Lib.hid (I.out.low hs)
    have B := Lib.hid (B0.out.trans (hs.mono B0.out.size))
    clear hs hf hW
    go_wp2
    go_quiet (fail)
    go_wp2
    go_ret2
    exact ⟨by rw [HE.out]; rfl, I1.out.low (below_drewN (Below.refl _ _) _), Kept.of_below (below_drewN B.out _)⟩
end Go.Proofs.Ytabchlgbdlgacaa
