/- Package mem's calls on a memory that is not there, by contracts. -/
import Derived.Test.YtaiaaljahnackaaMmNew
namespace Go.Proofs.Ytaiaaljahnackaa
open Go.RowKit

theorem rngB {w : World} {b : Nat} {cs : Array Value} {T : TypeId} (h : w.heap[b]? = some (.cells cs T (0, 0))) (l : List Value) (hl : cs.toList = l) : w.rangeAt b 0 l := fun j u hj => by
  subst hl
  rw [Nat.zero_add, blk_cell h]
  simpa using hj
set_option maxRecDepth 100000 in
set_option maxHeartbeats 4000000 in
theorem mTake_nil (w : World) : Calls Try.prog 61 #[.pointer none] w fun ev w' => ev = .returned (.tuple #[.int .i64 0, .iface 72 (.int .i64 1)]) ∧ Below w.heap.size w w' := by
  go_enter Try.func61, Try.ntmps61
  go_wp2
  go_ret2
  exact ⟨rfl, Below.refl _ _⟩
set_option maxRecDepth 100000 in
set_option maxHeartbeats 4000000 in
theorem mChain_nil (x : Int) (w : World) : Calls Try.prog 24 #[.pointer none, .int .i64 x] w fun ev w' => ev = .returned (.tuple #[.slice none 0 0, .slice none 0 0, .iface 72 (.int .i64 1)]) ∧ Below w.heap.size w w' := by
  go_enter Try.func24, Try.ntmps24
  go_wp2
  refine bodyPost_ret (results_tmp3 rfl _ _ _) rfl ?_
  exact ⟨rfl, Below.refl _ _⟩
set_option maxRecDepth 100000 in
set_option maxHeartbeats 4000000 in
theorem mGive_nil (x : Int) (w : World) : Calls Try.prog 44 #[.pointer none, .int .i64 x] w fun ev w' => ev = .returned (.iface 72 (.int .i64 1)) ∧ Below w.heap.size w w' := by
  go_enter Try.func44, Try.ntmps44
  go_wp2
  go_ret
  exact ⟨rfl, Below.refl _ _⟩
set_option maxRecDepth 100000 in
set_option maxHeartbeats 4000000 in
theorem mCount_nil (w : World) : Calls Try.prog 45 #[.pointer none] w fun ev w' => ev = .returned (.int .i64 0) ∧ Below w.heap.size w w' := by
  go_enter Try.func45, Try.ntmps45
  go_wp2
  go_ret
  exact ⟨rfl, Below.refl _ _⟩
set_option maxRecDepth 100000 in
set_option maxHeartbeats 4000000 in
theorem mLive_nil (w : World) : Calls Try.prog 19 #[.pointer none] w fun ev w' => ev = .returned (.slice none 0 0) ∧ Below w.heap.size w w' := by
  go_enter Try.func19, Try.ntmps19
  go_wp2
  go_ret
  exact ⟨rfl, Below.refl _ _⟩
set_option maxRecDepth 100000 in
set_option maxHeartbeats 4000000 in
theorem mPages_nil (w : World) : Calls Try.prog 20 #[.pointer none] w fun ev w' => ev = .returned (.slice none 0 0) ∧ Below w.heap.size w w' := by
  go_enter Try.func20, Try.ntmps20
  go_wp2
  go_ret
  exact ⟨rfl, Below.refl _ _⟩
set_option maxRecDepth 100000 in
set_option maxHeartbeats 4000000 in
theorem mLoad_nil (x y : Int) (w : World) : Calls Try.prog 15 #[.pointer none, refV x y] w fun ev w' => ev = .returned (.tuple #[recVal Sc.zero (.slice none 0 0) (.slice none 0 0), .iface 72 (.int .i64 1)]) ∧ Below w.heap.size w w' := by
  have b1 := alloc_below0 w (.cells #[.int .i64 x, .int .i64 y] 34)
  have b2 := alloc_below0 (w.alloc (.cells #[.int .i64 x, .int .i64 y] 34)) (recObj Sc.zero (.slice none 0 0) (.slice none 0 0))
  have B := Lib.hid (b1.trans (b2.mono b1.size))
  have K := Lib.hid (show ((w.alloc (.cells #[.int .i64 x, .int .i64 y] 34)).alloc (recObj Sc.zero (.slice none 0 0) (.slice none 0 0))).heap[w.heap.size + 1]? = some (recObj Sc.zero (.slice none 0 0) (.slice none 0 0)) by have := blk_new (w.alloc (.cells #[.int .i64 x, .int .i64 y] 34)) (recObj Sc.zero (.slice none 0 0) (.slice none 0 0)); simpa using this)
  clear b1 b2
  unfold refV
  go_enter Try.func15, Try.ntmps15
  go_wp2
  exact bodyPost_ret (v := .tuple #[.agg (recCells Sc.zero (.slice none 0 0) (.slice none 0 0)).toArray, .iface 72 (.int .i64 1)]) (results_cellT rfl _ _ (w.heap.size + 1) (recCells Sc.zero (.slice none 0 0) (.slice none 0 0)) _ (.iface 72 (.int .i64 1)) rfl rfl (rngB K.out _ rfl) Try.underlying44 rfl (by kernel_rfl)) rfl ⟨rfl, B.out⟩
set_option maxRecDepth 100000 in
set_option maxHeartbeats 4000000 in
theorem mAlloc_nil (sc : Sc) (rv en : Value) (w : World) : Calls Try.prog 62 #[.pointer none, recVal sc rv en] w fun ev w' => ev = .returned (.tuple #[refV 0 0, .iface 72 (.int .i64 1)]) ∧ Below w.heap.size w w' := by
  have b1 := alloc_below0 w (recObj sc rv en)
  have b2 := alloc_below0 (w.alloc (recObj sc rv en)) (.cells #[.int .i64 0, .int .i64 0] 34)
  have B := Lib.hid (b1.trans (b2.mono b1.size))
  have K := Lib.hid (show ((w.alloc (recObj sc rv en)).alloc (.cells #[.int .i64 0, .int .i64 0] 34)).heap[w.heap.size + 1]? = some (.cells #[.int .i64 0, .int .i64 0] 34) by have := blk_new (w.alloc (recObj sc rv en)) (.cells #[.int .i64 0, .int .i64 0] 34); simpa using this)
  clear b1 b2
  unfold recVal refV
  go_enter Try.func62, Try.ntmps62
  go_wp2
  exact bodyPost_ret (v := .tuple #[.agg #[.int .i64 0, .int .i64 0], .iface 72 (.int .i64 1)]) (results_cellT rfl _ _ (w.heap.size + 1) [.int .i64 0, .int .i64 0] _ (.iface 72 (.int .i64 1)) rfl rfl (rngB K.out _ rfl) Try.underlying34 rfl (by kernel_rfl)) rfl ⟨rfl, B.out⟩
set_option maxRecDepth 100000 in
set_option maxHeartbeats 4000000 in
theorem mFree_nil (x y : Int) (w : World) : Calls Try.prog 43 #[.pointer none, refV x y] w fun ev w' => ev = .returned (.iface 72 (.int .i64 1)) ∧ Below w.heap.size w w' := by
  have B := Lib.hid (alloc_below0 w (.cells #[.int .i64 x, .int .i64 y] 34))
  unfold refV
  go_enter Try.func43, Try.ntmps43
  go_wp2
  go_ret
  exact ⟨rfl, B.out⟩
set_option maxRecDepth 100000 in
set_option maxHeartbeats 4000000 in
theorem mHead_nil (x : Int) (w : World) : Calls Try.prog 9 #[.pointer none, .int .i64 x] w fun ev w' => ev = .returned (.tuple #[refV 0 0, .iface 72 (.int .i64 1)]) ∧ Below w.heap.size w w' := by
  have B := Lib.hid (alloc_below0 w (.cells #[.int .i64 0, .int .i64 0] 34))
  have K := Lib.hid (blk_new w (.cells #[.int .i64 0, .int .i64 0] 34))
  unfold refV
  go_enter Try.func9, Try.ntmps9
  go_wp2
  exact bodyPost_ret (v := .tuple #[.agg #[.int .i64 0, .int .i64 0], .iface 72 (.int .i64 1)]) (results_cellT rfl _ _ w.heap.size [.int .i64 0, .int .i64 0] _ (.iface 72 (.int .i64 1)) rfl rfl (rngB K.out _ rfl) Try.underlying34 rfl (by kernel_rfl)) rfl ⟨rfl, B.out⟩
set_option maxRecDepth 100000 in
set_option maxHeartbeats 4000000 in
theorem mSwap_nil (x os og ns ng : Int) (w : World) : Calls Try.prog 63 #[.pointer none, .int .i64 x, refV os og, refV ns ng] w fun ev w' => ev = .returned (.tuple #[.bool false, .iface 72 (.int .i64 1)]) ∧ Below w.heap.size w w' := by
  have b1 := alloc_below0 w (.cells #[.int .i64 os, .int .i64 og] 34)
  have b2 := alloc_below0 (w.alloc (.cells #[.int .i64 os, .int .i64 og] 34)) (.cells #[.int .i64 ns, .int .i64 ng] 34)
  have B := Lib.hid (b1.trans (b2.mono b1.size))
  have K := Lib.hid (show ((w.alloc (.cells #[.int .i64 os, .int .i64 og] 34)).alloc (.cells #[.int .i64 ns, .int .i64 ng] 34)).heap[w.heap.size + 1]? = some (.cells #[.int .i64 ns, .int .i64 ng] 34) by have := blk_new (w.alloc (.cells #[.int .i64 os, .int .i64 og] 34)) (.cells #[.int .i64 ns, .int .i64 ng] 34); simpa using this)
  clear b1 b2
  unfold refV
  go_enter Try.func63, Try.ntmps63
  go_wp2
  go_ret2
  exact ⟨rfl, B.out⟩
end Go.Proofs.Ytaiaaljahnackaa
