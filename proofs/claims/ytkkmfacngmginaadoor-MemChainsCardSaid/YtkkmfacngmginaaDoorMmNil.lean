/- Package mem's calls on a memory that is not there, by contracts. -/
import Derived.Test.YtkkmfacngmginaaDoorMmNew
namespace Go.Proofs.YtkkmfacngmginaaDoor
open Go.RowKit

theorem rngB {w : World} {b : Nat} {cs : Array Value} {T : TypeId} (h : w.heap[b]? = some (.cells cs T (0, 0))) (l : List Value) (hl : cs.toList = l) : w.rangeAt b 0 l := fun j u hj => by
  subst hl
  rw [Nat.zero_add, blk_cell h]
  simpa using hj
set_option maxRecDepth 100000 in
set_option maxHeartbeats 4000000 in
theorem mChain_nil (x : Int) (w : World) : Calls Tryd.prog 35 #[.pointer none, .int .i64 x] w fun ev w' => ev = .returned (.tuple #[.slice none 0 0, .slice none 0 0, .iface 45 (.int .i64 1)]) ∧ Below w.heap.size w w' := by
  go_enter Tryd.func35, Tryd.ntmps35
  go_wp2
  refine bodyPost_ret (results_tmp3 rfl _ _ _) rfl ?_
  exact ⟨rfl, Below.refl _ _⟩
set_option maxRecDepth 100000 in
set_option maxHeartbeats 4000000 in
theorem mCount_nil (w : World) : Calls Tryd.prog 50 #[.pointer none] w fun ev w' => ev = .returned (.int .i64 0) ∧ Below w.heap.size w w' := by
  go_enter Tryd.func50, Tryd.ntmps50
  go_wp2
  go_ret
  exact ⟨rfl, Below.refl _ _⟩
set_option maxRecDepth 100000 in
set_option maxHeartbeats 4000000 in
theorem mAlloc_nil (sc : Sc) (rv en : Value) (w : World) : Calls Tryd.prog 30 #[.pointer none, recVal sc rv en] w fun ev w' => ev = .returned (.tuple #[refV 0 0, .iface 45 (.int .i64 1)]) ∧ Below w.heap.size w w' := by
  have b1 := alloc_below0 w (recObj sc rv en)
  have b2 := alloc_below0 (w.alloc (recObj sc rv en)) (.cells #[.int .i64 0, .int .i64 0] 30)
  have B := Lib.hid (b1.trans (b2.mono b1.size))
  have K := Lib.hid (show ((w.alloc (recObj sc rv en)).alloc (.cells #[.int .i64 0, .int .i64 0] 30)).heap[w.heap.size + 1]? = some (.cells #[.int .i64 0, .int .i64 0] 30) by have := blk_new (w.alloc (recObj sc rv en)) (.cells #[.int .i64 0, .int .i64 0] 30); simpa using this)
  clear b1 b2
  unfold recVal refV
  go_enter Tryd.func30, Tryd.ntmps30
  go_wp2
  exact bodyPost_ret (v := .tuple #[.agg #[.int .i64 0, .int .i64 0], .iface 45 (.int .i64 1)]) (results_cellT rfl _ _ (w.heap.size + 1) [.int .i64 0, .int .i64 0] _ (.iface 45 (.int .i64 1)) rfl rfl (rngB K.out _ rfl) Tryd.underlying30 rfl (by kernel_rfl)) rfl ⟨rfl, B.out⟩
set_option maxRecDepth 100000 in
set_option maxHeartbeats 4000000 in
theorem mSwap_nil (x os og ns ng : Int) (w : World) : Calls Tryd.prog 31 #[.pointer none, .int .i64 x, refV os og, refV ns ng] w fun ev w' => ev = .returned (.tuple #[.bool false, .iface 45 (.int .i64 1)]) ∧ Below w.heap.size w w' := by
  have b1 := alloc_below0 w (.cells #[.int .i64 os, .int .i64 og] 30)
  have b2 := alloc_below0 (w.alloc (.cells #[.int .i64 os, .int .i64 og] 30)) (.cells #[.int .i64 ns, .int .i64 ng] 30)
  have B := Lib.hid (b1.trans (b2.mono b1.size))
  have K := Lib.hid (show ((w.alloc (.cells #[.int .i64 os, .int .i64 og] 30)).alloc (.cells #[.int .i64 ns, .int .i64 ng] 30)).heap[w.heap.size + 1]? = some (.cells #[.int .i64 ns, .int .i64 ng] 30) by have := blk_new (w.alloc (.cells #[.int .i64 os, .int .i64 og] 30)) (.cells #[.int .i64 ns, .int .i64 ng] 30); simpa using this)
  clear b1 b2
  unfold refV
  go_enter Tryd.func31, Tryd.ntmps31
  go_wp2
  go_ret2
  exact ⟨rfl, B.out⟩
end Go.Proofs.YtkkmfacngmginaaDoor
