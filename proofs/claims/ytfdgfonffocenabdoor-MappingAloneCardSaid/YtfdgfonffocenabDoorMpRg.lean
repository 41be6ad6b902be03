/- The document's own table: its Head and Pages, by contracts. -/
import Derived.Test.YtfdgfonffocenabDoorMpRf
namespace Go.Proofs.YtfdgfonffocenabDoor
open Go.RowKit

set_option maxRecDepth 100000 in
set_option maxHeartbeats 4000000 in
theorem rf_head (n : Nat) (v : Value) (us : List Up) (L : List Pg) (x : Int) (w : World) (hv : SV lUp w v us) (hr : RefOk us L) (hn : L.length = n) :
    Calls Tryd.prog 13 #[refT n v, .int .i64 x] w fun ev w' => ev = .returned (.tuple #[refV (headT L x).1 (headT L x).2, .int .i64 (codeT L x)]) ∧ Below w.heap.size w w' := by
  obtain ⟨va, vc, rfl, hlc, hcm⟩ := hv.lenform
  obtain ⟨N, hN⟩ : ∃ N, us.length = N := ⟨_, rfl⟩
  have H := Lib.hid hr
  have LL := Lib.hid (show us.length = N ∧ L.length = n from ⟨hN, hn⟩)
  rw [hN] at hlc hv ⊢
  obtain ⟨W, hW⟩ : ∃ W, W = (w.alloc (.cells #[.int .i64 n, .slice va N vc] 32)).alloc (.cells #[.int .i64 0, .int .i64 0] 24) := ⟨_, rfl⟩
  have z1 : (w.alloc (.cells #[.int .i64 n, .slice va N vc] 32)).heap.size = w.heap.size + 1 := by simp
  have b1 := alloc_below0 w (.cells #[.int .i64 n, .slice va N vc] 32)
  have b2 := alloc_below0 (w.alloc (.cells #[.int .i64 n, .slice va N vc] 32)) (.cells #[.int .i64 0, .int .i64 0] 24)
  have B0 := Lib.hid (show Below w.heap.size w W by rw [hW]; exact b1.trans (b2.mono b1.size))
  have K0 := Lib.hid (show W.heap[w.heap.size]? = some (.cells #[.int .i64 n, .slice va N vc] 32 (0, 0)) by rw [hW]; exact blk_step (blk_new w _) b2)
  have K1 := Lib.hid (show W.heap[w.heap.size + 1]? = some (.cells #[.int .i64 0, .int .i64 0] 24 (0, 0)) by rw [hW, ← z1]; exact blk_new _ _)
  have V := Lib.hid (hv.below B0.out)
  have V00 := Lib.hid hv
  clear hv hr hN hn b1 b2 z1
  unfold refT
  go_enter Tryd.func13, Tryd.ntmps13
  go_wp2_with fail
  rw [← hW]
  refine (rf_why n _ us L x _ V.out H.out LL.out.2).mono ?_
  rintro ev w1 ⟨rfl, hs⟩
  have B1 := Lib.hid (B0.out.trans (hs.mono B0.out.size))
  have K2 := Lib.hid (blk_step K0.out hs)
  have K3 := Lib.hid (blk_step K1.out hs)
  have V1 := Lib.hid (V.out.below hs)
  have t0 : w1.cell? ⟨w.heap.size, 0, none⟩ = some (.int .i64 n) := blk_cell K2.out 0
  have t1 : w1.cell? ⟨w.heap.size, 1, none⟩ = some (.slice va N vc) := blk_cell K2.out 1
  clear hs hW
  by_cases hc : codeT L x = 0
  · have HC := Lib.hid hc
    obtain ⟨i, s, g, rfl, hg, hh⟩ : ∃ (i : Nat) (s g : Int), x = i ∧ L[i]? = some (some (s, g)) ∧ headT L x = (s, g) := by
      rcases page_cases L x with ⟨h, -⟩ | ⟨i, -, -, h⟩ | ⟨i, ⟨s, g⟩, h1, h2, -, h4⟩
      · rw [hc] at h; cases h
      · rw [hc] at h; cases h
      · exact ⟨i, s, g, h1, h2, h4⟩
    obtain ⟨j, hu, hj⟩ := H.out.here hg
    have HH := Lib.hid hh
    have U := Lib.hid (show upIx us i = (j : Int) by unfold upIx; rw [hu]; rfl)
    have HJ := Lib.hid hj
    have hlt : j < N := by rw [← LL.out.1]; exact (List.getElem?_eq_some_iff.1 hj).1
    obtain ⟨b, off, ha⟩ := V1.out.addr (by rw [LL.out.1]; omega)
    subst ha
    have nb : ¬ b = w.heap.size + 1 := by have := lt_of_cell (V00.out.cellAt (j := 0) hj rfl); omega
    have nc : ¬ w.heap.size + 1 = b := fun e => nb e.symm
    have x1 := V1.out.cellAt (j := 1) hj rfl
    have x2 := V1.out.cellAt (j := 2) hj rfl
    simp only [lUp] at x1 x2
    have j3 : (0 : Int) ≤ (j : Int) := by omega
    have j4 : (j : Int) < (N : Int) := by omega
    rw [hc]
    clear hc hg hh hu hj hlt
    go_wp2_with fail
    have fc := fun w h => rf_find n (.slice (some ⟨b, off, none⟩) N vc) us i w h
    unfold refT at fc
    go_region_held3 (fun w' => w'.cell? ⟨w.heap.size, 0, none⟩ = some (.int .i64 n) ∧ w'.cell? ⟨w.heap.size, 1, none⟩ = some (.slice (some ⟨b, off, none⟩) N vc) ∧ w'.cell? ⟨b, off + j * 3 + 1, none⟩ = some (.int .i64 s) ∧ w'.cell? ⟨b, off + j * 3 + 1 + 1, none⟩ = some (.int .i64 g)) (first | exact ⟨by assumption, by assumption, by assumption, by assumption⟩ | go_keep)
      (first
        | (go_at_call 23; (with_reducible refine (fc _ ?_).mono ?_); exact V1.out.below (Below.refl _ _).drew; rintro e w5 ⟨rfl, hs⟩; have B5 := Lib.hid ((B1.out.drew).trans (hs.mono B1.out.size)); have V5 := (V1.out.below (Below.refl _ _).drew).below hs; have y1 := V5.cellAt (j := 1) HJ.out rfl; have y2 := V5.cellAt (j := 2) HJ.out rfl; simp only [lUp] at y1 y2; have u0 := cell_step t0 ((Below.refl _ w1).drew.trans hs); have u1 := cell_step t1 ((Below.refl _ w1).drew.trans hs); obtain ⟨q0, q1, q2, q3, q4⟩ := two_facts (blk_step K3.out ((Below.refl _ w1).drew.trans hs)) (.int .i64 s) (.int .i64 g); have Q4 := Lib.hid q4; rw [U.out]; clear hs V5 q4))
    go_wp2
    refine bodyPost_ret (v := .tuple #[.agg #[.int .i64 s, .int .i64 g], .int .i64 0]) (results_cellT rfl _ _ (w.heap.size + 1) [.int .i64 s, .int .i64 g] _ (.int .i64 0) rfl rfl (rng2 Q4.out) Tryd.underlying24 rfl (by kernel_rfl)) rfl ⟨by rw [HH.out, HC.out]; rfl, below_set (below_set B5.out (by omega) _ _) (by omega) _ _⟩
  · have q : (codeT L x == 0) = false := by rw [beq_eq_false_iff_ne]; exact hc
    have HH := Lib.hid (headT_none hc)
    clear hc
    go_wp2_with fail
    refine (rf_why n _ us L x _ V1.out H.out LL.out.2).mono ?_
    rintro ev w2 ⟨rfl, hs⟩
    have B2 := Lib.hid (B1.out.trans (hs.mono B1.out.size))
    obtain ⟨q0, q1, q2, q3, q4⟩ := two_facts (blk_step K3.out hs) (.int .i64 0) (.int .i64 0)
    have Q4 := Lib.hid q4
    clear hs q4
    go_wp2_with fail
    refine bodyPost_ret (v := .tuple #[.agg #[.int .i64 0, .int .i64 0], .int .i64 (codeT L x)]) (results_cellT rfl _ _ (w.heap.size + 1) [.int .i64 0, .int .i64 0] _ (.int .i64 (codeT L x)) rfl rfl (rng2 Q4.out) Tryd.underlying24 rfl (by kernel_rfl)) rfl ⟨by rw [HH.out]; rfl, below_set (below_set B2.out (by omega) _ _) (by omega) _ _⟩
end Go.Proofs.YtfdgfonffocenabDoor
