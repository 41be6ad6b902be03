/- The walk of the law MappingNobody. -/
import Derived.Test.YtfdgfonffocenaaMpDo
namespace Go.Proofs.Ytfdgfonffocenaa
open Go.RowKit

set_option maxRecDepth 100000 in
set_option maxHeartbeats 4000000 in
theorem lawNobody (v x : Int) (r : Bool) (os og ns ng : Int) (w : World) : Calls Try.prog 5 #[doVal v x r os og ns ng] w fun ev w' => ev = .returned (.bool true) ∧ Below w.heap.size w w' := by
  have B0 := Lib.hid (alloc_below0 w (doObj v x r os og ns ng))
  have D0 := Lib.hid (DoAt.new v x r os og ns ng w)
  unfold doVal
  unfold doObj at B0 D0
  go_enter Try.func5, Try.ntmps5
  go_wp2_with fail
  refine (take_nil _).mono ?_
  rintro ev w1 ⟨rfl, hs⟩
  have D1 := Lib.hid (D0.out.step hs)
  have B1 := Lib.hid (B0.out.trans (hs.mono B0.out.size))
  have d1 := D1.out.c1
  clear hs
  go_wp2_with fail
  refine (head_nil _ _).mono ?_
  rintro ev w2 ⟨rfl, hs⟩
  unfold refV
  have b2 := alloc_below0 w2 (.cells #[.int .i64 0, .int .i64 0] 23)
  have D2 := Lib.hid ((D1.out.step hs).step b2)
  have B2 := Lib.hid ((B1.out.trans (hs.mono B1.out.size)).trans (b2.mono (B1.out.trans (hs.mono B1.out.size)).size))
  have R2 := Lib.hid (RfAt.new w2 0 0 23)
  have d1 := D2.out.c1
  have d3 := D2.out.c3
  have d4 := D2.out.c4
  have d5 := D2.out.c5
  have d6 := D2.out.c6
  clear hs b2
  go_wp2_with fail
  refine (swap_nil _ _ _ _ _ _).mono ?_
  rintro ev w3 ⟨rfl, hs⟩
  have D3 := Lib.hid (D2.out.step hs)
  have R3 := Lib.hid (R2.out.step hs)
  have B3 := Lib.hid (B2.out.trans (hs.mono B2.out.size))
  clear hs d1 d3 d4 d5 d6
  go_wp2_with fail
  refine (fIs_code 1 1 _).mono ?_
  rintro ev w4 ⟨rfl, hs⟩
  rw [show ((1 : Int) == 1) = true from rfl]
  have D4 := Lib.hid (D3.out.step hs)
  have R4 := Lib.hid (R3.out.step hs)
  have B4 := Lib.hid (B3.out.trans (hs.mono B3.out.size))
  have r0 := R4.out.c0
  have r1 := R4.out.c1
  clear hs
  go_wp2_with fail
  clear r0 r1
  refine (fIs_code 1 1 _).mono ?_
  rintro ev w5 ⟨rfl, hs⟩
  rw [show ((1 : Int) == 1) = true from rfl]
  have D5 := Lib.hid (D4.out.step hs)
  have B5 := Lib.hid (B4.out.trans (hs.mono B4.out.size))
  clear hs
  go_wp2_with fail
  refine (fIs_code 1 1 _).mono ?_
  rintro ev w6 ⟨rfl, hs⟩
  rw [show ((1 : Int) == 1) = true from rfl]
  have D6 := Lib.hid (D5.out.step hs)
  have B6 := Lib.hid (B5.out.trans (hs.mono B5.out.size))
  have d1 := D6.out.c1
  clear hs
  go_wp2_with fail
  refine (give_nil _ _).mono ?_
  rintro ev w7 ⟨rfl, hs⟩
  have D7 := Lib.hid (D6.out.step hs)
  have B7 := Lib.hid (B6.out.trans (hs.mono B6.out.size))
  clear hs
  go_wp2_with fail
  refine (fIs_code 1 1 _).mono ?_
  rintro ev w8 ⟨rfl, hs⟩
  rw [show ((1 : Int) == 1) = true from rfl]
  clear d1
  have D8 := Lib.hid (D7.out.step hs)
  have B8 := Lib.hid (B7.out.trans (hs.mono B7.out.size))
  clear hs
  go_wp2_with fail
  refine (pages_nil _).mono ?_
  rintro ev w9 ⟨rfl, hs⟩
  have D9 := Lib.hid (D8.out.step hs)
  have B9 := Lib.hid (B8.out.trans (hs.mono B8.out.size))
  clear hs
  go_wp2_with fail
  refine (copy_nil _).mono ?_
  rintro ev w10 ⟨rfl, hs⟩
  have D10 := Lib.hid (D9.out.step hs)
  have B10 := Lib.hid (B9.out.trans (hs.mono B9.out.size))
  clear hs
  go_wp2_with fail
  refine (awakeM _).mono ?_
  rintro ev w11 ⟨rfl, hs⟩
  have B11 := Lib.hid (B10.out.trans (hs.mono B10.out.size))
  clear hs
  go_wp2
  go_ret
  exact ⟨rfl, B11.out⟩
end Go.Proofs.Ytfdgfonffocenaa
