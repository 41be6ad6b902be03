/- The walk of the law MemNobody. -/
import Derived.Test.YtkkmfacngmginaaMmDo
namespace Go.Proofs.Ytkkmfacngmginaa
open Go.RowKit

set_option maxRecDepth 100000 in
set_option maxHeartbeats 4000000 in
theorem lawNobody (d : DM) (w : World) : Calls Try.prog 5 #[dmVal d] w fun ev w' => ev = .returned (.bool true) ∧ Below w.heap.size w w' := by
  have B0 := Lib.hid (alloc_below0 w (dmObj d))
  have D0 := Lib.hid (DmAt.new d w)
  have x1 := D0.out.c13
  have x2 := D0.out.c14
  unfold dmVal
  unfold dmObj at B0 D0 x1 x2
  by_cases hb : 60 < d.r.rn ∨ 60 < d.r.en
  · go_enter Try.func5, Try.ntmps5
    rcases hb with hb | hb
    · go_wp2_with fail
      refine (awakeMm _).mono ?_
      rintro ev w1 ⟨rfl, hs⟩
      have B1 := Lib.hid (B0.out.trans (hs.mono B0.out.size))
      clear hs
      go_wp2
      go_ret
      exact ⟨rfl, B1.out⟩
    · go_wp2_with fail
      all_goals (refine (awakeMm _).mono ?_; rintro ev w1 ⟨rfl, hs⟩; have B1 := Lib.hid (B0.out.trans (hs.mono B0.out.size)); clear hs; go_wp2; go_ret; exact ⟨rfl, B1.out⟩)
  · have h1 : ¬ 60 < d.r.rn := fun h => hb (.inl h)
    have h2 : ¬ 60 < d.r.en := fun h => hb (.inr h)
    clear hb
    go_enter Try.func5, Try.ntmps5
    have x4 := D0.out.c4
    have x5 := D0.out.c5
    go_wp2_with fail
    refine (mLoad_nil _ _ _).mono ?_
    rintro ev w1 ⟨rfl, hs⟩
    have D1 := Lib.hid (D0.out.step hs)
    have B1 := Lib.hid (B0.out.trans (hs.mono B0.out.size))
    clear hs x1 x2 x4 x5 h1 h2
    have b2 := alloc_below0 w1 (recObj Sc.zero (.slice none 0 0) (.slice none 0 0))
    have K2 := Lib.hid (blk_new w1 (recObj Sc.zero (.slice none 0 0) (.slice none 0 0)))
    have D2 := Lib.hid (D1.out.step b2)
    have B2 := Lib.hid (B1.out.trans (b2.mono B1.out.size))
    have N2 := Lib.hid (show w.heap.size < w1.heap.size from D1.out.lt)
    have D3 := Lib.hid (D2.out.keep (Kept.setCells (b := w1.heap.size) (recCells Sc.zero (.slice none 0 0) (.slice none 0 0)) 0 _ (Kept.refl _ _)) (by have := N2.out; omega))
    have B3 := Lib.hid (below_setCells (b := w1.heap.size) (by have := N2.out; omega) (recCells Sc.zero (.slice none 0 0) (.slice none 0 0)) 0 _ B2.out)
    clear b2
    unfold recVal
    go_upto_region 5 with (refine wpList_store_mid rfl 39 (.tmp 4) (.tmp 42) rfl w1.heap.size 0 _ rfl rfl ?_ (by kernel_rfl) (rec_one ..) ?_)
    · exact blk_there K2.out 15 (Nat.le_refl _)
    generalize hw3 : World.setCells _ _ _ _ = w3
    have D4 := Lib.hid (show DmAt w3 w.heap.size d by rw [← hw3]; exact D3.out)
    have B4 := Lib.hid (show Below w.heap.size w w3 by rw [← hw3]; exact B3.out)
    clear hw3 K2 N2 D2 B2 D3 B3
    have hrng := D4.out.rng
    go_wp2_with (refine wpList_load_mid rfl 39 (.tmp 46) rfl w.heap.size 8 rfl _ _ hrng Try.underlying39 rfl (by kernel_rfl) ?_)
    clear hrng
    refine (mAlloc_nil _ _ _ _).mono ?_
    rintro ev w5 ⟨rfl, hs⟩
    unfold refV
    have D5 := Lib.hid (D4.out.step hs)
    have B5 := Lib.hid (B4.out.trans (hs.mono B4.out.size))
    clear hs
    try clear x1
    try clear x2
    try clear x4
    try clear x5
    try clear x6
    try clear x7
    have b := alloc_below0 w5 (.cells #[.int .i64 0, .int .i64 0] 37)
    have D6 := Lib.hid (D5.out.step b)
    have B6 := Lib.hid (B5.out.trans (b.mono B5.out.size))
    clear b
    have x1 := D6.out.c1
    go_wp2_with fail
    refine (mHead_nil _ _).mono ?_
    rintro ev w7 ⟨rfl, hs⟩
    unfold refV
    have D7 := Lib.hid (D6.out.step hs)
    have B7 := Lib.hid (B6.out.trans (hs.mono B6.out.size))
    clear hs
    try clear x1
    try clear x2
    try clear x4
    try clear x5
    try clear x6
    try clear x7
    have b := alloc_below0 w7 (.cells #[.int .i64 0, .int .i64 0] 37)
    have D8 := Lib.hid (D7.out.step b)
    have B8 := Lib.hid (B7.out.trans (b.mono B7.out.size))
    clear b
    have x1 := D8.out.c1
    have x4 := D8.out.c4
    have x5 := D8.out.c5
    have x6 := D8.out.c6
    have x7 := D8.out.c7
    go_wp2_with fail
    refine (mSwap_nil _ _ _ _ _ _).mono ?_
    rintro ev w9 ⟨rfl, hs⟩
    have D9 := Lib.hid (D8.out.step hs)
    have B9 := Lib.hid (B8.out.trans (hs.mono B8.out.size))
    clear hs
    try clear x1
    try clear x2
    try clear x4
    try clear x5
    try clear x6
    try clear x7
    go_wp2_with fail
    refine (mTake_nil _).mono ?_
    rintro ev w10 ⟨rfl, hs⟩
    have D10 := Lib.hid (D9.out.step hs)
    have B10 := Lib.hid (B9.out.trans (hs.mono B9.out.size))
    clear hs
    try clear x1
    try clear x2
    try clear x4
    try clear x5
    try clear x6
    try clear x7
    go_wp2_with fail
    refine (mBump_nil _).mono ?_
    rintro ev w11 ⟨rfl, hs⟩
    have D11 := Lib.hid (D10.out.step hs)
    have B11 := Lib.hid (B10.out.trans (hs.mono B10.out.size))
    clear hs
    try clear x1
    try clear x2
    try clear x4
    try clear x5
    try clear x6
    try clear x7
    have x1 := D11.out.c1
    go_wp2_with fail
    refine (mAt_nil _ _).mono ?_
    rintro ev w12 ⟨rfl, hs⟩
    have D12 := Lib.hid (D11.out.step hs)
    have B12 := Lib.hid (B11.out.trans (hs.mono B11.out.size))
    clear hs
    try clear x1
    try clear x2
    try clear x4
    try clear x5
    try clear x6
    try clear x7
    have x1 := D12.out.c1
    go_wp2_with fail
    refine (mChain_nil _ _).mono ?_
    rintro ev w13 ⟨rfl, hs⟩
    have D13 := Lib.hid (D12.out.step hs)
    have B13 := Lib.hid (B12.out.trans (hs.mono B12.out.size))
    clear hs
    try clear x1
    try clear x2
    try clear x4
    try clear x5
    try clear x6
    try clear x7
    have x1 := D13.out.c1
    have x2 := D13.out.c2
    have x4 := D13.out.c4
    have x5 := D13.out.c5
    go_wp2_with fail
    have fF := fun w => mFree_nil d.xs d.xg w
    unfold refV at fF
    go_region_held3 (fun w' => w'.cell? ⟨w.heap.size, 4, none⟩ = some (.int .i64 d.xs) ∧ w'.cell? ⟨w.heap.size, 5, none⟩ = some (.int .i64 d.xg) ∧ w'.cell? ⟨w.heap.size, 1, none⟩ = some (.int .i64 d.n) ∧ w'.cell? ⟨w.heap.size, 2, none⟩ = some (.int .i64 d.at_)) (first | exact ⟨by assumption, by assumption, by assumption, by assumption⟩ | go_keep)
      (first
        | (go_at_call 24; (with_reducible refine (fF _).mono ?_); rintro e14 w14 ⟨rfl, hs⟩; have D14 := Lib.hid (D13.out.step ((Below.refl _ w13).drew.trans hs)); have B14 := Lib.hid (B13.out.trans ((((Below.refl _ w13).drew.trans hs)).mono B13.out.size)); have y1 := D14.out.c1; have y2 := D14.out.c2; have y4 := D14.out.c4; have y5 := D14.out.c5; clear hs)
        | (go_at_call 25; (with_reducible refine (mGive_nil _ _).mono ?_); rintro e15 w15 ⟨rfl, hs⟩; have D15 := Lib.hid (D14.out.step hs); have B15 := Lib.hid (B14.out.trans ((hs).mono B14.out.size)); have y1 := D15.out.c1; have y2 := D15.out.c2; have y4 := D15.out.c4; have y5 := D15.out.c5; clear hs)
        | (go_at_call 26; (with_reducible refine (mEnter_nil _ _ _).mono ?_); rintro e16 w16 ⟨rfl, hs⟩; have D16 := Lib.hid (D15.out.step hs); have B16 := Lib.hid (B15.out.trans ((hs).mono B15.out.size)); have y1 := D16.out.c1; have y2 := D16.out.c2; have y4 := D16.out.c4; have y5 := D16.out.c5; clear hs)
        | (go_at_call 27; (with_reducible refine (mLeave_nil _ _).mono ?_); rintro e17 w17 ⟨rfl, hs⟩; have D17 := Lib.hid (D16.out.step hs); have B17 := Lib.hid (B16.out.trans ((hs).mono B16.out.size)); have y1 := D17.out.c1; have y2 := D17.out.c2; have y4 := D17.out.c4; have y5 := D17.out.c5; clear hs))
    try clear x1 x2 x4 x5
    clear fF
    have b := alloc_below0 w17 (.cells #[.iface 73 (.int .i64 1), .iface 73 (.int .i64 1), .iface 73 (.int .i64 1), .iface 73 (.int .i64 1), .iface 73 (.int .i64 1), .iface 73 (.int .i64 1), .iface 73 (.int .i64 1), .iface 73 (.int .i64 1), .iface 73 (.int .i64 1), .iface 73 (.int .i64 1), .iface 73 (.int .i64 1), .iface 73 (.int .i64 1)] 31)
    have KB := Lib.hid (blk_new w17 (.cells #[.iface 73 (.int .i64 1), .iface 73 (.int .i64 1), .iface 73 (.int .i64 1), .iface 73 (.int .i64 1), .iface 73 (.int .i64 1), .iface 73 (.int .i64 1), .iface 73 (.int .i64 1), .iface 73 (.int .i64 1), .iface 73 (.int .i64 1), .iface 73 (.int .i64 1), .iface 73 (.int .i64 1), .iface 73 (.int .i64 1)] 31))
    have B18 := Lib.hid (B17.out.trans (b.mono B17.out.size))
    clear b
    go_wp2_with fail
    go_loopg [23, 123] 12 (fun g v i wr => ∃ k : Nat, k + g = 12 ∧ i = .int .i64 k ∧ wr.heap[w17.heap.size]? = some (.cells #[.iface 73 (.int .i64 1), .iface 73 (.int .i64 1), .iface 73 (.int .i64 1), .iface 73 (.int .i64 1), .iface 73 (.int .i64 1), .iface 73 (.int .i64 1), .iface 73 (.int .i64 1), .iface 73 (.int .i64 1), .iface 73 (.int .i64 1), .iface 73 (.int .i64 1), .iface 73 (.int .i64 1), .iface 73 (.int .i64 1)] 31) ∧ Below w.heap.size w wr)
    case atStart => exact ⟨0, by omega, rfl, KB.out, B18.out⟩
    case round =>
      obtain ⟨k, hk, rfl, hb, hB⟩ := hrel
      have BW := Lib.hid hB
      have KW := Lib.hid hb
      clear hB
      by_cases hlt : k < 12
      · have c0 : wr.cell? ⟨w17.heap.size, k, none⟩ = some (.iface 73 (.int .i64 1)) := by
          rw [blk_cell hb]
          have : k = 0 ∨ k = 1 ∨ k = 2 ∨ k = 3 ∨ k = 4 ∨ k = 5 ∨ k = 6 ∨ k = 7 ∨ k = 8 ∨ k = 9 ∨ k = 10 ∨ k = 11 := by omega
          rcases this with rfl | rfl | rfl | rfl | rfl | rfl | rfl | rfl | rfl | rfl | rfl | rfl <;> rfl
        have h3 : (0 : Int) ≤ (k : Int) := by omega
        have h4 : (k : Int) < 12 := by omega
        have i1 : IntKind.i64.wrap ((k : Int) + 1) = (k : Int) + 1 := Go.IntWalk.i64_in _ (by omega)
        clear hb
        go_wp2_with fail
        refine (fIs_code 1 1 _).mono ?_
        rintro ev wf ⟨rfl, hs⟩
        rw [show ((1 : Int) == 1) = true from rfl]
        have BF := Lib.hid (BW.out.trans (hs.mono BW.out.size))
        have KF := Lib.hid (blk_step KW.out hs)
        clear hs c0
        go_wp2
        go_roundg (12 - (k + 1))
        case measure => omega
        case rel => exact ⟨k + 1, by omega, by go_num, KF.out, BF.out⟩
      · obtain rfl : k = 12 := by omega
        clear hb
        go_wp2_with fail
        refine (mNow_nil _).mono ?_
        rintro ev v1 ⟨rfl, hs⟩
        have C1 := Lib.hid (BW.out.trans (hs.mono BW.out.size))
        clear hs
        go_wp2_with fail
        refine (mCount_nil _).mono ?_
        rintro ev v2 ⟨rfl, hs⟩
        have C2 := Lib.hid (C1.out.trans (hs.mono C1.out.size))
        clear hs
        go_wp2_with fail
        refine (mLive_nil _).mono ?_
        rintro ev v3 ⟨rfl, hs⟩
        have C3 := Lib.hid (C2.out.trans (hs.mono C2.out.size))
        clear hs
        go_wp2_with fail
        refine (mPages_nil _).mono ?_
        rintro ev v4 ⟨rfl, hs⟩
        have C4 := Lib.hid (C3.out.trans (hs.mono C3.out.size))
        clear hs
        go_wp2_with fail
        refine (mCopy_nil _).mono ?_
        rintro ev v5 ⟨rfl, hs⟩
        have C5 := Lib.hid (C4.out.trans (hs.mono C4.out.size))
        clear hs
        go_wp2_with fail
        refine (mLimits_nil _).mono ?_
        rintro ev v6 ⟨rfl, hs⟩
        have C6 := Lib.hid (C5.out.trans (hs.mono C5.out.size))
        clear hs
        unfold limV
        go_wp2_with fail
        refine (awakeMm _).mono ?_
        rintro ev v7 ⟨rfl, hs⟩
        have C7 := Lib.hid (C6.out.trans (hs.mono C6.out.size))
        clear hs
        go_wp2
        go_ret
        exact ⟨rfl, C7.out⟩
end Go.Proofs.Ytkkmfacngmginaa
