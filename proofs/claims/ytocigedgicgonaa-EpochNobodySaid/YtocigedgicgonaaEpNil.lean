/- Package epoch's calls on a clock that is not there, by contracts. -/
import Derived.Test.YtocigedgicgonaaEpInv
namespace Go.Proofs.Ytocigedgicgonaa
open Go.RowKit Go.Maps

set_option maxHeartbeats 4000000 in
theorem now_nil (w : World) : Calls Try.prog 15 #[.pointer none] w fun ev w' => ev = .returned (.int .i64 0) ∧ Below w.heap.size w w' := by
  have B := Lib.hid (Below.refl w.heap.size w)
  go_enter Try.func15, Try.ntmps15
  go_wp2
  go_ret
  exact ⟨rfl, B.out⟩
set_option maxHeartbeats 4000000 in
theorem has_nil (x : Int) (w : World) : Calls Try.prog 21 #[.pointer none, .int .i64 x] w fun ev w' => ev = .returned (.bool false) ∧ Below w.heap.size w w' := by
  have B := Lib.hid (Below.refl w.heap.size w)
  go_enter Try.func21, Try.ntmps21
  go_wp2
  go_ret
  exact ⟨rfl, B.out⟩
set_option maxHeartbeats 4000000 in
theorem bump_nil (w : World) : Calls Try.prog 10 #[.pointer none] w fun ev w' => ev = .returned (.tuple #[.int .i64 0, .iface 48 (.int .i64 1)]) ∧ Below w.heap.size w w' := by
  have B := Lib.hid (Below.refl w.heap.size w)
  go_enter Try.func10, Try.ntmps10
  go_wp2
  go_ret2
  exact ⟨rfl, B.out⟩
set_option maxHeartbeats 4000000 in
theorem old_nil (w : World) : Calls Try.prog 16 #[.pointer none] w fun ev w' => ev = .returned (.int .i64 0) ∧ Below w.heap.size w w' := by
  have B := Lib.hid (Below.refl w.heap.size w)
  go_enter Try.func16, Try.ntmps16
  go_wp2
  go_ret
  exact ⟨rfl, B.out⟩
set_option maxHeartbeats 4000000 in
theorem copy_nil (w : World) : Calls Try.prog 17 #[.pointer none] w fun ev w' => ev = .returned (.pointer none) ∧ Below w.heap.size w w' := by
  have B := Lib.hid (Below.refl w.heap.size w)
  go_enter Try.func17, Try.ntmps17
  go_wp2
  go_ret
  exact ⟨rfl, B.out⟩
set_option maxHeartbeats 4000000 in
theorem enter_nil (x a : Int) (w : World) : Calls Try.prog 13 #[.pointer none, .int .i64 x, .int .i64 a] w fun ev w' => ev = .returned (.iface 48 (.int .i64 1)) ∧ Below w.heap.size w w' := by
  go_enter Try.func13, Try.ntmps13
  go_wp2_with fail
  refine (has_nil _ _).mono ?_
  rintro ev w1 ⟨rfl, hs⟩
  have B := Lib.hid hs
  clear hs
  go_wp2
  go_ret
  exact ⟨rfl, B.out⟩
set_option maxHeartbeats 4000000 in
theorem leave_nil (x : Int) (w : World) : Calls Try.prog 14 #[.pointer none, .int .i64 x] w fun ev w' => ev = .returned (.iface 48 (.int .i64 1)) ∧ Below w.heap.size w w' := by
  go_enter Try.func14, Try.ntmps14
  go_wp2_with fail
  refine (has_nil _ _).mono ?_
  rintro ev w1 ⟨rfl, hs⟩
  have B := Lib.hid hs
  clear hs
  go_wp2
  go_ret
  exact ⟨rfl, B.out⟩
set_option maxHeartbeats 4000000 in
theorem at_nil (x : Int) (w : World) : Calls Try.prog 11 #[.pointer none, .int .i64 x] w fun ev w' => ev = .returned (.tuple #[.int .i64 0, .bool false, .iface 48 (.int .i64 1)]) ∧ Below w.heap.size w w' := by
  go_enter Try.func11, Try.ntmps11
  go_wp2_with fail
  refine (has_nil _ _).mono ?_
  rintro ev w1 ⟨rfl, hs⟩
  have B := Lib.hid hs
  clear hs
  go_wp2
  go_ret3
  exact ⟨rfl, B.out⟩
end Go.Proofs.Ytocigedgicgonaa
