/- The document's own table: its Head and Pages, by contracts. -/
import Derived.Test.YtfdgfonffocenaaDoorMpRf
namespace Go.Proofs.YtfdgfonffocenaaDoor
open Go.RowKit

set_option maxRecDepth 100000 in
set_option maxHeartbeats 4000000 in
theorem rf_head (n : Nat) (v : Value) (us : List Up) (L : List Pg) (x : Int) (w : World) (hv : SV lUp w v us) (hr : RefOk us L) (hn : L.length = n) :
    Calls Tryd.prog 18 #[refT n v, .int .i64 x] w fun ev w' => ev = .returned (.tuple #[refV (headT L x).1 (headT L x).2, .int .i64 (codeT L x)]) ∧ Below w.heap.size w w' := by
  obtain ⟨va, vc, rfl, hlc, hcm⟩ := hv.lenform
  obtain ⟨N, hN⟩ : ∃ N, us.length = N := ⟨_, rfl⟩
  have H := Lib.hid hr
  have LL := Lib.hid (show us.length = N ∧ L.length = n from ⟨hN, hn⟩)
  rw [hN] at hlc hv ⊢
  obtain ⟨W, hW⟩ : ∃ W, W = (w.alloc (.cells #[.int .i64 n, .slice va N vc] 28)).alloc (.cells #[.int .i64 0, .int .i64 0] 32) := ⟨_, rfl⟩
  have z1 : (w.alloc (.cells #[.int .i64 n, .slice va N vc] 28)).heap.size = w.heap.size + 1 := by simp
  have b1 := alloc_below0 w (.cells #[.int .i64 n, .slice va N vc] 28)
  have b2 := alloc_below0 (w.alloc (.cells #[.int .i64 n, .slice va N vc] 28)) (.cells #[.int .i64 0, .int .i64 0] 32)
  have B0 := Lib.hid (show Below w.heap.size w W by rw [hW]; exact b1.trans (b2.mono b1.size))
  have K0 := Lib.hid (show W.heap[w.heap.size]? = some (.cells #[.int .i64 n, .slice va N vc] 28 (0, 0)) by rw [hW]; exact blk_step (blk_new w _) b2)
  have K1 := Lib.hid (show W.heap[w.heap.size + 1]? = some (.cells #[.int .i64 0, .int .i64 0] 32 (0, 0)) by rw [hW, ← z1]; exact blk_new _ _)
  have V := Lib.hid (hv.below B0.out)
  have V00 := Lib.hid hv
  clear hv hr hN hn b1 b2 z1
  unfold refT
  go_enter Tryd.func18, Tryd.ntmps18
  go_wp2_with fail
  rw [← hW]
  refine (rf_why n _ us L x _ V.out H.out LL.out.2).mono ?_
  rintro ev w1 ⟨rfl, hs⟩
  have B1 := Lib.hid (B0.out.trans (hs.mono B0.out.size))
  have K2 := Lib.hid (blk_step K0.out hs)
  have K3 := Lib.hid (blk_step K1.out hs)
  have V1 := Lib.hid (V.out.below hs)
  have t0 : w1.cell? ⟨w.heap.size, 0, none⟩ = some (.int .i64 n) := blk_cell K2.out 0
  have t1 : w1.cell? ⟨w.heap.size, 1, none⟩ = some (.slice va N vc) := blk_cell K2.out 1
  clear hs hW
  by_cases hc : codeT L x = 0
  · have HC := Lib.hid hc
    obtain ⟨i, s, g, rfl, hg, hh⟩ : ∃ (i : Nat) (s g : Int), x = i ∧ L[i]? = some (some (s, g)) ∧ headT L x = (s, g) := by
      rcases page_cases L x with ⟨h, -⟩ | ⟨i, -, -, h⟩ | ⟨i, ⟨s, g⟩, h1, h2, -, h4⟩
      · rw [hc] at h; cases h
      · rw [hc] at h; cases h
      · exact ⟨i, s, g, h1, h2, h4⟩
    obtain ⟨j, hu, hj⟩ := H.out.here hg
    have HH := Lib.hid hh
    have U := Lib.hid (show upIx us i = (j : Int) by unfold upIx; rw [hu]; rfl)
    have HJ := Lib.hid hj
    have hlt : j < N := by rw [← LL.out.1]; exact (List.getElem?_eq_some_iff.1 hj).1
    obtain ⟨b, off, ha⟩ := V1.out.addr (by rw [LL.out.1]; omega)
    subst ha
    have nb : ¬ b = w.heap.size + 1 := by have := lt_of_cell (V00.out.cellAt (j := 0) hj rfl); omega
    have nc : ¬ w.heap.size + 1 = b := fun e => nb e.symm
    have x1 := V1.out.cellAt (j := 1) hj rfl
    have x2 := V1.out.cellAt (j := 2) hj rfl
    simp only [lUp] at x1 x2
    have j3 : (0 : Int) ≤ (j : Int) := by omega
    have j4 : (j : Int) < (N : Int) := by omega
    rw [hc]
    clear hc hg hh hu hj hlt
    go_wp2_with fail
    have fc := fun w h => rf_find n (.slice (some ⟨b, off, none⟩) N vc) us i w h
    unfold refT at fc
    go_region_held3 (fun w' => w'.cell? ⟨w.heap.size, 0, none⟩ = some (.int .i64 n) ∧ w'.cell? ⟨w.heap.size, 1, none⟩ = some (.slice (some ⟨b, off, none⟩) N vc) ∧ w'.cell? ⟨b, off + j * 3 + 1, none⟩ = some (.int .i64 s) ∧ w'.cell? ⟨b, off + j * 3 + 1 + 1, none⟩ = some (.int .i64 g)) (first | exact ⟨by assumption, by assumption, by assumption, by assumption⟩ | go_keep)
      (first
        | (go_at_call 25; (with_reducible refine (fc _ ?_).mono ?_); exact V1.out.below (Below.refl _ _).drew; rintro e w5 ⟨rfl, hs⟩; have B5 := Lib.hid ((B1.out.drew).trans (hs.mono B1.out.size)); have V5 := (V1.out.below (Below.refl _ _).drew).below hs; have y1 := V5.cellAt (j := 1) HJ.out rfl; have y2 := V5.cellAt (j := 2) HJ.out rfl; simp only [lUp] at y1 y2; have u0 := cell_step t0 ((Below.refl _ w1).drew.trans hs); have u1 := cell_step t1 ((Below.refl _ w1).drew.trans hs); obtain ⟨q0, q1, q2, q3, q4⟩ := two_facts (blk_step K3.out ((Below.refl _ w1).drew.trans hs)) (.int .i64 s) (.int .i64 g); have Q4 := Lib.hid q4; rw [U.out]; clear hs V5 q4))
    go_wp2
    refine bodyPost_ret (v := .tuple #[.agg #[.int .i64 s, .int .i64 g], .int .i64 0]) (results_cellT rfl _ _ (w.heap.size + 1) [.int .i64 s, .int .i64 g] _ (.int .i64 0) rfl rfl (rng2 Q4.out) Tryd.underlying32 rfl (by kernel_rfl)) rfl ⟨by rw [HH.out, HC.out]; rfl, below_set (below_set B5.out (by omega) _ _) (by omega) _ _⟩
  · have q : (codeT L x == 0) = false := by rw [beq_eq_false_iff_ne]; exact hc
    have HH := Lib.hid (headT_none hc)
    clear hc
    go_wp2_with fail
    refine (rf_why n _ us L x _ V1.out H.out LL.out.2).mono ?_
    rintro ev w2 ⟨rfl, hs⟩
    have B2 := Lib.hid (B1.out.trans (hs.mono B1.out.size))
    obtain ⟨q0, q1, q2, q3, q4⟩ := two_facts (blk_step K3.out hs) (.int .i64 0) (.int .i64 0)
    have Q4 := Lib.hid q4
    clear hs q4
    go_wp2_with fail
    refine bodyPost_ret (v := .tuple #[.agg #[.int .i64 0, .int .i64 0], .int .i64 (codeT L x)]) (results_cellT rfl _ _ (w.heap.size + 1) [.int .i64 0, .int .i64 0] _ (.int .i64 (codeT L x)) rfl rfl (rng2 Q4.out) Tryd.underlying32 rfl (by kernel_rfl)) rfl ⟨by rw [HH.out]; rfl, below_set (below_set B2.out (by omega) _ _) (by omega) _ _⟩
set_option maxRecDepth 100000 in
set_option maxHeartbeats 4000000 in
theorem rf_pages (n : Nat) (v : Value) (us : List Up) (L : List Pg) (w : World) (hv : SV lUp w v us) (hr : RefOk us L) (hn : L.length = n) (hn2 : n ≤ 256) :
    Calls Tryd.prog 14 #[refT n v] w fun ev w' => ∃ v', ev = .returned v' ∧ OwnS lInt w.heap.size w' v' (usedT L) ∧ Below w.heap.size w w' := by
  obtain ⟨va, vc, rfl, hlc, hcm⟩ := hv.lenform
  obtain ⟨N, hN⟩ : ∃ N, us.length = N := ⟨_, rfl⟩
  have H := Lib.hid hr
  have HL := Lib.hid (show usedT L = usedTo L n ∧ L.length = n by unfold usedT; rw [hn]; exact ⟨rfl, rfl⟩)
  rw [hN] at hlc hv ⊢
  obtain ⟨W, hW⟩ : ∃ W, W = w.alloc (.cells #[.int .i64 n, .slice va N vc] 28) := ⟨_, rfl⟩
  have b1 := alloc_below0 w (.cells #[.int .i64 n, .slice va N vc] 28)
  have B0 := Lib.hid (show Below w.heap.size w W by rw [hW]; exact b1)
  have K0 := Lib.hid (show W.heap[w.heap.size]? = some (.cells #[.int .i64 n, .slice va N vc] 28 (0, 0)) by rw [hW]; exact blk_new w _)
  have V := Lib.hid (hv.below B0.out)
  have hz : W.heap.size = w.heap.size + 1 := by rw [hW]; simp
  have Z := Lib.hid hz
  clear hv hr hN hn b1 hz
  unfold refT
  go_enter Tryd.func14, Tryd.ntmps14
  go_wp2
  rw [← hW]
  go_loopg [3, 4] n (fun r y i wr => ∃ k : Nat, k + r = n ∧ i = .int .i64 k ∧ OwnS lInt (w.heap.size + 1) wr y (usedTo L k) ∧ Below W.heap.size W wr)
  case atStart => exact ⟨0, by omega, rfl, OwnS.nil _ _ _, Below.refl _ _⟩
  case round =>
    obtain ⟨k, hk, rfl, hO, hB⟩ := hrel
    have A := Lib.hid hB
    have O := Lib.hid hO
    have V1 := Lib.hid (V.out.below hB)
    have t0 : wr.cell? ⟨w.heap.size, 0, none⟩ = some (.int .i64 n) := blk_cell (blk_step K0.out hB) 0
    have t1 : wr.cell? ⟨w.heap.size, 1, none⟩ = some (.slice va N vc) := blk_cell (blk_step K0.out hB) 1
    clear hB hO
    by_cases hlt : k < n
    · have hL : k < L.length := by rw [HL.out.2]; exact hlt
      have i1 : IntKind.i64.wrap ((k : Int) + 1) = (k : Int) + 1 := Go.IntWalk.i64_in _ (by omega)
      have j4 : (k : Int) < (n : Int) := by omega
      have hg := List.getElem?_eq_getElem hL
      have HK := Lib.hid hk
      clear hk
      cases hp : L[k] with
      | none =>
        rw [hp] at hg
        have hu := H.out.gone (x := (k : Int)) (by rw [codeT_at hg]; decide)
        have U := Lib.hid (show upIx us k = -1 by unfold upIx; rw [hu]; rfl)
        have T := Lib.hid (show usedTo L (k + 1) = usedTo L k by rw [usedTo_succ, pageAt_get hg]; simp)
        clear hg hu hp
        go_wp2_with fail
        refine (rf_find n _ us k _ V1.out).mono ?_
        rintro ev w3 ⟨rfl, hs⟩
        rw [U.out]
        have B3 := Lib.hid (A.out.trans (hs.mono A.out.size))
        have O3 := Lib.hid (O.out.below hs)
        clear hs
        go_wp2
        go_roundg (n - (k + 1))
        case measure => have := HK.out; omega
        case rel => exact ⟨k + 1, by omega, by go_num, by rw [T.out]; exact O3.out, B3.out⟩
      | some r =>
        rw [hp] at hg
        obtain ⟨j, hu, -⟩ := H.out.here hg
        have U := Lib.hid (show upIx us k = (j : Int) by unfold upIx; rw [hu]; rfl)
        have T := Lib.hid (show usedTo L (k + 1) = usedTo L k ++ [(k : Int)] by rw [usedTo_succ, pageAt_get hg]; rfl)
        have LN := Lib.hid (usedTo_len L k)
        have j5 : (0 : Int) ≤ (j : Int) := by omega
        clear hg hu hp
        go_wp2_with fail
        refine (rf_find n _ us k _ V1.out).mono ?_
        rintro ev w3 ⟨rfl, hs⟩
        rw [U.out]
        have B3 := Lib.hid (A.out.trans (hs.mono A.out.size))
        have b3 := alloc_below0 w3 (.cells #[.int .i64 (k : Int)] 3)
        have B4 := Lib.hid (B3.out.trans (b3.mono B3.out.size))
        have SZ := Lib.hid (show w.heap.size + 1 ≤ w3.heap.size by have := B3.out.size; rw [Z.out] at this; exact this)
        have SZ4 := Lib.hid (show w.heap.size + 1 ≤ (w3.alloc (.cells #[.int .i64 (k : Int)] 3)).heap.size by have := B4.out.size; rw [Z.out] at this; exact this)
        have O4 := Lib.hid ((O.out.below hs).below b3)
        have SR := Lib.hid (OwnS.lit lInt (w.heap.size + 1) w3 w3.heap.size rfl [(k : Int)] SZ.out (by simp [maxLen])).sv
        clear hs b3
        go_wp2_with (refine wpList_appS lInt 45 Tryd.underlying45 lInt_known (by decide) (by decide) rfl (.tmp 15) (.tmp 17) rfl (w.heap.size + 1) rfl rfl O4.out SR.out (by have := LN.out; simp; omega) SZ4.out ?_; intro v2 w5 ho2 hg2)
        go_roundg (n - (k + 1))
        case measure => have := HK.out; omega
        case rel => exact ⟨k + 1, by omega, by go_num, by rw [T.out]; exact ho2, B4.out.trans ((Kept.of_grown hg2).below (fun j hj => by rw [Z.out]; exact (O4.out.bounds j hj.symm).1) B4.out.size)⟩
    · obtain rfl : k = n := by omega
      go_wp2
      go_ret
      exact ⟨_, rfl, by rw [HL.out.1]; exact O.out.mono (by omega), B0.out.trans (A.out.mono B0.out.size)⟩
end Go.Proofs.YtfdgfonffocenaaDoor
