/- Package epoch's calls on a clock that is not there, by contracts. -/
import Derived.Test.YtocigedgicgonaaDoorEpInv
namespace Go.Proofs.YtocigedgicgonaaDoor
open Go.RowKit Go.Maps

set_option maxHeartbeats 4000000 in
theorem now_nil (w : World) : Calls Tryd.prog 16 #[.pointer none] w fun ev w' => ev = .returned (.int .i64 0) ∧ Below w.heap.size w w' := by
  have B := Lib.hid (Below.refl w.heap.size w)
  go_enter Tryd.func16, Tryd.ntmps16
  go_wp2
  go_ret
  exact ⟨rfl, B.out⟩
set_option maxHeartbeats 4000000 in
theorem has_nil (x : Int) (w : World) : Calls Tryd.prog 31 #[.pointer none, .int .i64 x] w fun ev w' => ev = .returned (.bool false) ∧ Below w.heap.size w w' := by
  have B := Lib.hid (Below.refl w.heap.size w)
  go_enter Tryd.func31, Tryd.ntmps31
  go_wp2
  go_ret
  exact ⟨rfl, B.out⟩
set_option maxHeartbeats 4000000 in
theorem bump_nil (w : World) : Calls Tryd.prog 24 #[.pointer none] w fun ev w' => ev = .returned (.tuple #[.int .i64 0, .iface 62 (.int .i64 1)]) ∧ Below w.heap.size w w' := by
  have B := Lib.hid (Below.refl w.heap.size w)
  go_enter Tryd.func24, Tryd.ntmps24
  go_wp2
  go_ret2
  exact ⟨rfl, B.out⟩
set_option maxHeartbeats 4000000 in
theorem old_nil (w : World) : Calls Tryd.prog 18 #[.pointer none] w fun ev w' => ev = .returned (.int .i64 0) ∧ Below w.heap.size w w' := by
  have B := Lib.hid (Below.refl w.heap.size w)
  go_enter Tryd.func18, Tryd.ntmps18
  go_wp2
  go_ret
  exact ⟨rfl, B.out⟩
set_option maxHeartbeats 4000000 in
theorem copy_nil (w : World) : Calls Tryd.prog 20 #[.pointer none] w fun ev w' => ev = .returned (.pointer none) ∧ Below w.heap.size w w' := by
  have B := Lib.hid (Below.refl w.heap.size w)
  go_enter Tryd.func20, Tryd.ntmps20
  go_wp2
  go_ret
  exact ⟨rfl, B.out⟩
set_option maxHeartbeats 4000000 in
theorem enter_nil (x a : Int) (w : World) : Calls Tryd.prog 23 #[.pointer none, .int .i64 x, .int .i64 a] w fun ev w' => ev = .returned (.iface 62 (.int .i64 1)) ∧ Below w.heap.size w w' := by
  go_enter Tryd.func23, Tryd.ntmps23
  go_wp2_with fail
  refine (has_nil _ _).mono ?_
  rintro ev w1 ⟨rfl, hs⟩
  have B := Lib.hid hs
  clear hs
  go_wp2
  go_ret
  exact ⟨rfl, B.out⟩
set_option maxHeartbeats 4000000 in
theorem leave_nil (x : Int) (w : World) : Calls Tryd.prog 21 #[.pointer none, .int .i64 x] w fun ev w' => ev = .returned (.iface 62 (.int .i64 1)) ∧ Below w.heap.size w w' := by
  go_enter Tryd.func21, Tryd.ntmps21
  go_wp2_with fail
  refine (has_nil _ _).mono ?_
  rintro ev w1 ⟨rfl, hs⟩
  have B := Lib.hid hs
  clear hs
  go_wp2
  go_ret
  exact ⟨rfl, B.out⟩
set_option maxHeartbeats 4000000 in
theorem at_nil (x : Int) (w : World) : Calls Tryd.prog 14 #[.pointer none, .int .i64 x] w fun ev w' => ev = .returned (.tuple #[.int .i64 0, .bool false, .iface 62 (.int .i64 1)]) ∧ Below w.heap.size w w' := by
  go_enter Tryd.func14, Tryd.ntmps14
  go_wp2_with fail
  refine (has_nil _ _).mono ?_
  rintro ev w1 ⟨rfl, hs⟩
  have B := Lib.hid hs
  clear hs
  go_wp2
  go_ret3
  exact ⟨rfl, B.out⟩
end Go.Proofs.YtocigedgicgonaaDoor
