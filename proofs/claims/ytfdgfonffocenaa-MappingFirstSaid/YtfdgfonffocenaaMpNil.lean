/- Package mapping's calls on a table that is not there, by contracts. -/
import Derived.Test.YtfdgfonffocenaaMpAwake
namespace Go.Proofs.Ytfdgfonffocenaa
open Go.RowKit

set_option maxHeartbeats 4000000 in
theorem take_nil (w : World) : Calls Try.prog 8 #[.pointer none] w fun ev w' => ev = .returned (.tuple #[.int .i64 0, .iface 39 (.int .i64 1)]) ∧ Below w.heap.size w w' := by
  have B := Lib.hid (Below.refl w.heap.size w)
  go_enter Try.func8, Try.ntmps8
  go_wp2
  go_ret2
  exact ⟨rfl, B.out⟩
set_option maxHeartbeats 4000000 in
theorem give_nil (x : Int) (w : World) : Calls Try.prog 11 #[.pointer none, .int .i64 x] w fun ev w' => ev = .returned (.iface 39 (.int .i64 1)) ∧ Below w.heap.size w w' := by
  go_enter Try.func11, Try.ntmps11
  go_wp2_with fail
  refine (find_nil _ _).mono ?_
  rintro ev w1 ⟨rfl, hs⟩
  have B := Lib.hid hs
  clear hs
  go_wp2
  go_ret
  exact ⟨rfl, B.out⟩
set_option maxRecDepth 100000 in
set_option maxHeartbeats 4000000 in
theorem head_nil (x : Int) (w : World) : Calls Try.prog 10 #[.pointer none, .int .i64 x] w fun ev w' => ev = .returned (.tuple #[refV 0 0, .iface 39 (.int .i64 1)]) ∧ Below w.heap.size w w' := by
  have B0 := Lib.hid (alloc_below0 w (.cells #[.int .i64 0, .int .i64 0] 23))
  have K0 := Lib.hid (blk_new w (.cells #[.int .i64 0, .int .i64 0] 23))
  go_enter Try.func10, Try.ntmps10
  go_wp2_with fail
  refine (find_nil _ _).mono ?_
  rintro ev w1 ⟨rfl, hs⟩
  have B := Lib.hid (B0.out.trans (hs.mono B0.out.size))
  have K1 := Lib.hid (blk_step K0.out hs)
  obtain ⟨q0, q1, q2, q3, q4⟩ := two_facts K1.out (.int .i64 0) (.int .i64 0)
  have Q4 := Lib.hid q4
  clear hs q4
  go_wp2
  exact bodyPost_ret (v := .tuple #[.agg #[.int .i64 0, .int .i64 0], .iface 39 (.int .i64 1)]) (results_cellT rfl _ _ w.heap.size [.int .i64 0, .int .i64 0] _ (.iface 39 (.int .i64 1)) rfl rfl (rng2 Q4.out) Try.underlying23 rfl (by kernel_rfl)) rfl ⟨rfl, below_set (below_set B.out (Nat.le_refl _) _ _) (Nat.le_refl _) _ _⟩
set_option maxRecDepth 100000 in
set_option maxHeartbeats 4000000 in
theorem swap_nil (x os og ns ng : Int) (w : World) : Calls Try.prog 9 #[.pointer none, .int .i64 x, refV os og, refV ns ng] w fun ev w' => ev = .returned (.tuple #[.bool false, .iface 39 (.int .i64 1)]) ∧ Below w.heap.size w w' := by
  obtain ⟨W, hW⟩ : ∃ W, W = (w.alloc (.cells #[.int .i64 os, .int .i64 og] 23)).alloc (.cells #[.int .i64 ns, .int .i64 ng] 23) := ⟨_, rfl⟩
  have b1 := alloc_below0 w (.cells #[.int .i64 os, .int .i64 og] 23)
  have b2 := alloc_below0 (w.alloc (.cells #[.int .i64 os, .int .i64 og] 23)) (.cells #[.int .i64 ns, .int .i64 ng] 23)
  have B0 := Lib.hid (show Below w.heap.size w W by rw [hW]; exact b1.trans (b2.mono b1.size))
  clear b1 b2
  unfold refV
  go_enter Try.func9, Try.ntmps9
  go_wp2_with fail
  rw [← hW]
  refine (find_nil _ _).mono ?_
  rintro ev w1 ⟨rfl, hs⟩
  have B := Lib.hid (B0.out.trans (hs.mono B0.out.size))
  clear hs hW
  go_wp2
  go_quiet (fail)
  go_wp2
  go_ret2
  exact ⟨rfl, below_drewN B.out _⟩
set_option maxHeartbeats 4000000 in
theorem pages_nil (w : World) : Calls Try.prog 13 #[.pointer none] w fun ev w' => ev = .returned (.slice none 0 0) ∧ Below w.heap.size w w' := by
  have B := Lib.hid (Below.refl w.heap.size w)
  go_enter Try.func13, Try.ntmps13
  go_wp2
  go_ret
  exact ⟨rfl, B.out⟩
set_option maxHeartbeats 4000000 in
theorem copy_nil (w : World) : Calls Try.prog 14 #[.pointer none] w fun ev w' => ev = .returned (.pointer none) ∧ Below w.heap.size w w' := by
  have B := Lib.hid (Below.refl w.heap.size w)
  go_enter Try.func14, Try.ntmps14
  go_wp2
  go_ret
  exact ⟨rfl, B.out⟩
end Go.Proofs.Ytfdgfonffocenaa
