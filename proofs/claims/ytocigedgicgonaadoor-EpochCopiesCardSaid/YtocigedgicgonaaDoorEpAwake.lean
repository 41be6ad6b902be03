/- Package epoch: what layer 6's laws ask ahead of all: awake is true. -/
import Derived.Test.YtocigedgicgonaaDoorEpMore
namespace Go.Proofs.YtocigedgicgonaaDoor
open Go.RowKit Go.Maps

theorem cs_low {n cb mb : Nat} (h1 : n ≤ cb) (h2 : n ≤ mb) : ∀ k, CS cb mb k → n ≤ k := fun k e => by
  rcases e with rfl | rfl
  · exact h1
  · exact h2
set_option maxRecDepth 100000 in
set_option maxHeartbeats 4000000 in
theorem awakeE (w : World) : Calls Tryd.prog 9 #[] w fun ev w' => ev = .returned (.bool true) ∧ Below w.heap.size w w' := by
  go_enter Tryd.func9, Tryd.ntmps9
  go_wp2_with fail
  refine (new_any 2 9 _ (by decide)).mono ?_
  rintro ev w1 ⟨cb, mb, rfl, hT, h1, h2, hs⟩
  have T1 := Lib.hid (show ClkAt w1 cb mb ⟨1, 9, [0, 0]⟩ from hT)
  have B1 := Lib.hid hs
  have S1 := Lib.hid (cs_low h1 h2)
  clear hT h1 h2 hs
  go_wp2_with fail
  refine (enter_any _ cb mb _ T1.out 0 1).mono ?_
  rintro ev w2 ⟨rfl, hT, hk⟩
  rw [show errV (Ck.enterE ⟨1, 9, [0, 0]⟩ 0 1) = .nilIface from rfl]
  have T2 := Lib.hid (show ClkAt w2 cb mb ⟨1, 9, [1, 0]⟩ from hT)
  have B2 := Lib.hid (B1.out.trans (hk.below (n := w.heap.size) S1.out B1.out.size))
  clear hT hk
  go_wp2_with fail
  refine (bump_any _ cb mb _ T2.out).mono ?_
  rintro ev w3 ⟨rfl, hT, hk⟩
  have T3 := Lib.hid (show ClkAt w3 cb mb ⟨2, 9, [1, 0]⟩ from hT)
  have B3 := Lib.hid (B2.out.trans (hk.below (n := w.heap.size) S1.out B2.out.size))
  clear hT hk
  go_wp2_with fail
  refine (bump_any _ cb mb _ T3.out).mono ?_
  rintro ev w4 ⟨rfl, hT, hk⟩
  have T4 := Lib.hid (show ClkAt w4 cb mb ⟨3, 9, [1, 0]⟩ from hT)
  have B4 := Lib.hid (B3.out.trans (hk.below (n := w.heap.size) S1.out B3.out.size))
  clear hT hk
  go_wp2_with fail
  refine (oldest_any _ cb mb _ T4.out).mono ?_
  rintro ev w5 ⟨rfl, hs⟩
  rw [show Ck.oldest ⟨3, 9, [1, 0]⟩ = 1 from rfl]
  have T5 := Lib.hid (T4.out.low hs)
  have B5 := Lib.hid (B4.out.trans (hs.mono B4.out.size))
  clear hs
  go_wp2_with fail
  refine (leave_any _ cb mb _ T5.out 0).mono ?_
  rintro ev w6 ⟨rfl, hT, hk⟩
  rw [show errV (Ck.leaveE ⟨3, 9, [1, 0]⟩ 0) = .nilIface from rfl]
  have T6 := Lib.hid (show ClkAt w6 cb mb ⟨3, 9, [0, 0]⟩ from hT)
  have B6 := Lib.hid (B5.out.trans (hk.below (n := w.heap.size) S1.out B5.out.size))
  clear hT hk
  go_wp2_with fail
  refine (oldest_any _ cb mb _ T6.out).mono ?_
  rintro ev w7 ⟨rfl, hs⟩
  rw [show Ck.oldest ⟨3, 9, [0, 0]⟩ = 3 from rfl]
  have T7 := Lib.hid (T6.out.low hs)
  have B7 := Lib.hid (B6.out.trans (hs.mono B6.out.size))
  clear hs
  go_wp2
  trace_state
  go_ret
  exact ⟨rfl, B7.out⟩
end Go.Proofs.YtocigedgicgonaaDoor
