/- The walk of the law EpochNobody. -/
import Derived.Test.YtocigedgicgonaaEpDo
import Derived.Test.YtocigedgicgonaaEpNil
import Derived.Test.YtocigedgicgonaaEpRipe
import Derived.Test.YtocigedgicgonaaEpIs
namespace Go.Proofs.Ytocigedgicgonaa
open Go.RowKit

set_option maxRecDepth 100000 in
set_option maxHeartbeats 4000000 in
theorem lawNobody (v t a : Int) (x : It) (w : World) : Calls Try.prog 4 #[doVal v t a, x.val] w fun ev w' => ev = .returned (.bool true) ∧ Below w.heap.size w w' := by
  obtain ⟨W0, hW0⟩ : ∃ W, W = (w.alloc (doObj v t a)).alloc (.cells #[.int .i64 x.s, .int .i64 x.a, .int .i64 x.b, .int .i64 x.p] 31) := ⟨_, rfl⟩
  have b1 := alloc_below0 w (doObj v t a)
  have b2 := alloc_below0 (w.alloc (doObj v t a)) (.cells #[.int .i64 x.s, .int .i64 x.a, .int .i64 x.b, .int .i64 x.p] 31)
  have k2 := blk_new (w.alloc (doObj v t a)) (.cells #[.int .i64 x.s, .int .i64 x.a, .int .i64 x.b, .int .i64 x.p] 31)
  rw [show (w.alloc (doObj v t a)).heap.size = w.heap.size + 1 by simp, ← hW0] at k2
  have D0 := Lib.hid (show DoAt W0 w.heap.size v t a by rw [hW0]; exact (DoAt.new v t a w).step b2)
  have B0 := Lib.hid (show Below w.heap.size w W0 by rw [hW0]; exact b1.trans (b2.mono b1.size))
  have X0 := Lib.hid k2
  clear b1 b2 k2
  unfold doObj at hW0
  have fa := fun w => add_nil x w
  unfold It.val at fa
  unfold doVal It.val
  go_enter Try.func4, Try.ntmps4
  go_wp2_with fail
  rw [← hW0]
  clear hW0
  refine (bump_nil _).mono ?_
  rintro ev w1 ⟨rfl, hs⟩
  have D1 := Lib.hid (D0.out.step hs)
  have B1 := Lib.hid (B0.out.trans (hs.mono B0.out.size))
  have X1 := Lib.hid (blk_step X0.out hs)
  clear hs
  have d1 := D1.out.c1
  go_wp2_with fail
  refine (at_nil _ _).mono ?_
  rintro ev w2 ⟨rfl, hs⟩
  have D2 := Lib.hid (D1.out.step hs)
  have B2 := Lib.hid (B1.out.trans (hs.mono B1.out.size))
  have X2 := Lib.hid (blk_step X1.out hs)
  clear hs d1
  have x0 := blk_cell X2.out 0
  have x1 := blk_cell X2.out 1
  have x2 := blk_cell X2.out 2
  have x3 := blk_cell X2.out 3
  go_wp2_with fail
  refine (fa _).mono ?_
  rintro ev w3 ⟨rfl, hs⟩
  have D3 := Lib.hid (D2.out.step hs)
  have B3 := Lib.hid (B2.out.trans (hs.mono B2.out.size))
  clear hs
  clear x0 x1 x2 x3
  go_wp2_with fail
  refine (fIs_code 1 1 _).mono ?_
  rintro ev w4 ⟨rfl, hs⟩
  rw [show ((1 : Int) == 1) = true from rfl]
  have D4 := Lib.hid (D3.out.step hs)
  have B4 := Lib.hid (B3.out.trans (hs.mono B3.out.size))
  clear hs
  go_wp2_with fail
  refine (fIs_code 1 1 _).mono ?_
  rintro ev w5 ⟨rfl, hs⟩
  rw [show ((1 : Int) == 1) = true from rfl]
  have D5 := Lib.hid (D4.out.step hs)
  have B5 := Lib.hid (B4.out.trans (hs.mono B4.out.size))
  clear hs
  have d1 := D5.out.c1
  have d2 := D5.out.c2
  go_wp2_with fail
  refine (enter_nil _ _ _).mono ?_
  rintro ev w6 ⟨rfl, hs⟩
  have D6 := Lib.hid (D5.out.step hs)
  have B6 := Lib.hid (B5.out.trans (hs.mono B5.out.size))
  clear hs d1 d2
  go_wp2_with fail
  refine (fIs_code 1 1 _).mono ?_
  rintro ev w7 ⟨rfl, hs⟩
  rw [show ((1 : Int) == 1) = true from rfl]
  have D7 := Lib.hid (D6.out.step hs)
  have B7 := Lib.hid (B6.out.trans (hs.mono B6.out.size))
  clear hs
  have d1 := D7.out.c1
  go_wp2_with fail
  refine (leave_nil _ _).mono ?_
  rintro ev w8 ⟨rfl, hs⟩
  have D8 := Lib.hid (D7.out.step hs)
  have B8 := Lib.hid (B7.out.trans (hs.mono B7.out.size))
  clear hs d1
  go_wp2_with fail
  refine (fIs_code 1 1 _).mono ?_
  rintro ev w9 ⟨rfl, hs⟩
  rw [show ((1 : Int) == 1) = true from rfl]
  have D9 := Lib.hid (D8.out.step hs)
  have B9 := Lib.hid (B8.out.trans (hs.mono B8.out.size))
  clear hs
  go_wp2_with fail
  refine (now_nil _).mono ?_
  rintro ev w10 ⟨rfl, hs⟩
  have D10 := Lib.hid (D9.out.step hs)
  have B10 := Lib.hid (B9.out.trans (hs.mono B9.out.size))
  clear hs
  go_wp2_with fail
  refine (old_nil _).mono ?_
  rintro ev w11 ⟨rfl, hs⟩
  have D11 := Lib.hid (D10.out.step hs)
  have B11 := Lib.hid (B10.out.trans (hs.mono B10.out.size))
  clear hs
  go_wp2_with fail
  refine (copy_nil _).mono ?_
  rintro ev w12 ⟨rfl, hs⟩
  have D12 := Lib.hid (D11.out.step hs)
  have B12 := Lib.hid (B11.out.trans (hs.mono B11.out.size))
  clear hs
  go_wp2_with fail
  refine (len_nil _).mono ?_
  rintro ev w13 ⟨rfl, hs⟩
  have D13 := Lib.hid (D12.out.step hs)
  have B13 := Lib.hid (B12.out.trans (hs.mono B12.out.size))
  clear hs
  go_wp2_with fail
  refine (items_nil _).mono ?_
  rintro ev w14 ⟨rfl, hs⟩
  have D14 := Lib.hid (D13.out.step hs)
  have B14 := Lib.hid (B13.out.trans (hs.mono B13.out.size))
  clear hs
  have d2 := D14.out.c2
  go_wp2_with fail
  refine (ripe_nil _ _).mono ?_
  rintro ev w15 ⟨rfl, hs⟩
  have D15 := Lib.hid (D14.out.step hs)
  have B15 := Lib.hid (B14.out.trans (hs.mono B14.out.size))
  clear hs d2
  go_wp2_with fail
  refine (awakeE _).mono ?_
  rintro ev w16 ⟨rfl, hs⟩
  have D16 := Lib.hid (D15.out.step hs)
  have B16 := Lib.hid (B15.out.trans (hs.mono B15.out.size))
  clear hs
  go_wp2
  go_ret
  exact ⟨rfl, B16.out⟩
end Go.Proofs.Ytocigedgicgonaa
