/- Layer 12's laws' own job, by contract. -/
import Derived.Test.YtaiaaljahnackaaNsFew
import Derived.Test.YtaiaaljahnackaaNsBegin
namespace Go.Proofs.Ytaiaaljahnackaa
open Go.RowKit

theorem jobInfo5 : (Try.prog.info? 51).map (·.size) = some 5 := by kernel_rfl
set_option maxRecDepth 100000 in
set_option maxHeartbeats 4000000 in
theorem job_any (d : JbD) (cl : Nat) (w : World) : Calls Try.prog 11 #[.agg d.cells.toArray, .pointer (some ⟨cl, 0, none⟩)] w fun ev w' => ev = .returned (jobV d.page d.os d.og d.news (.func (.func 35) #[] #[.pointer (some ⟨w.heap.size + 1, 0, none⟩), .pointer (some ⟨w.heap.size, 0, none⟩)])) ∧ w'.heap[w.heap.size]? = some (.cells d.cells.toArray 46 (0, 0)) ∧ w'.heap[w.heap.size + 1]? = some (.cells #[.pointer (some ⟨cl, 0, none⟩)] 53 (0, 0)) ∧ Below w.heap.size w w' := by
  have hmf := run_makeFunc
  obtain ⟨W0, hW0⟩ : ∃ W, W = ((w.alloc (.cells d.cells.toArray 46)).alloc (.cells #[.pointer (some ⟨cl, 0, none⟩)] 53)).alloc (.cells #[.int .i64 0, .int .i64 0, .int .i64 0, .int .i64 0, .nilFunc] 51) := ⟨_, rfl⟩
  have B0 := Lib.hid (show Below w.heap.size w W0 by rw [hW0]; exact (alloc_below0 _ _).trans (((alloc_below0 _ _).trans ((alloc_below0 _ _).mono (alloc_below0 _ _).size)).mono (alloc_below0 w _).size))
  have X0 := Lib.hid (show W0.heap[w.heap.size]? = some (.cells d.cells.toArray 46 (0, 0)) by rw [hW0]; exact blk_step (blk_step (blk_new w _) (alloc_below0 _ _)) (alloc_below0 _ _))
  have X1 := Lib.hid (show W0.heap[w.heap.size + 1]? = some (.cells #[.pointer (some ⟨cl, 0, none⟩)] 53 (0, 0)) by rw [hW0, show w.heap.size + 1 = (w.alloc (.cells d.cells.toArray 46)).heap.size by simp]; exact blk_step (blk_new _ _) (alloc_below0 _ _))
  have X2 := Lib.hid (show W0.heap[w.heap.size + 1 + 1]? = some (.cells #[.int .i64 0, .int .i64 0, .int .i64 0, .int .i64 0, .nilFunc] 51 (0, 0)) by rw [hW0, show w.heap.size + 1 + 1 = ((w.alloc (.cells d.cells.toArray 46)).alloc (.cells #[.pointer (some ⟨cl, 0, none⟩)] 53)).heap.size by simp]; exact blk_new _ _)
  have y0 : W0.cell? ⟨w.heap.size, 0, none⟩ = some (.int .i64 d.page) := blk_cell X0.out 0
  have y1 : W0.cell? ⟨w.heap.size, 1, none⟩ = some (.int .i64 d.os) := blk_cell X0.out 1
  have y2 : W0.cell? ⟨w.heap.size, 2, none⟩ = some (.int .i64 d.og) := blk_cell X0.out 2
  have y3 : W0.cell? ⟨w.heap.size, 3, none⟩ = some (.int .i64 d.news) := blk_cell X0.out 3
  have TH := Lib.hid (blk_there X2.out 5 (Nat.le_refl _))
  go_enter Try.func11, Try.ntmps11
  go_upto_region 1 with (fail)
  rw [← hW0]
  clear hW0
  go_wp2_with (refine wpList_store_to rfl 51 (.tmp 4) (.tmp 12) rfl (w.heap.size + 1 + 1) 0 [.int .i64 d.page, .int .i64 d.os, .int .i64 d.og, .int .i64 d.news, (.func (.func 35) #[] #[.pointer (some ⟨w.heap.size + 1, 0, none⟩), .pointer (some ⟨w.heap.size, 0, none⟩)])] rfl rfl ?_ jobInfo5 (by kernel_rfl) ?_; exact TH.out; intro W2 hW2; have Z2 := Lib.hid (show W2.heap[w.heap.size + 1 + 1]? = some (.cells ([.int .i64 d.page, .int .i64 d.os, .int .i64 d.og, .int .i64 d.news, (.func (.func 35) #[] #[.pointer (some ⟨w.heap.size + 1, 0, none⟩), .pointer (some ⟨w.heap.size, 0, none⟩)])] : List Value).toArray 51 (0, 0)) by rw [hW2]; exact list_laid [.int .i64 d.page, .int .i64 d.os, .int .i64 d.og, .int .i64 d.news, (.func (.func 35) #[] #[.pointer (some ⟨w.heap.size + 1, 0, none⟩), .pointer (some ⟨w.heap.size, 0, none⟩)])] X2.out rfl); have KB := Lib.hid (show Kept (fun k => k = w.heap.size + 1 + 1) W0 W2 by rw [hW2]; exact Kept.setCells _ _ _ (Kept.refl _ _)); clear hW2)
  exact bodyPost_ret (v := .agg ([.int .i64 d.page, .int .i64 d.os, .int .i64 d.og, .int .i64 d.news, (.func (.func 35) #[] #[.pointer (some ⟨w.heap.size + 1, 0, none⟩), .pointer (some ⟨w.heap.size, 0, none⟩)])] : List Value).toArray) (results_cell1 rfl _ _ (w.heap.size + 1 + 1) [.int .i64 d.page, .int .i64 d.os, .int .i64 d.og, .int .i64 d.news, (.func (.func 35) #[] #[.pointer (some ⟨w.heap.size + 1, 0, none⟩), .pointer (some ⟨w.heap.size, 0, none⟩)])] _ rfl (blk_rng Z2.out) Try.underlying51 rfl jobInfo5) rfl ⟨rfl, (KB.out.block _ (Array.getElem?_eq_some_iff.1 X0.out).1 (by omega)).trans X0.out, (KB.out.block _ (Array.getElem?_eq_some_iff.1 X1.out).1 (by omega)).trans X1.out, B0.out.trans (KB.out.below (n := w.heap.size) (fun k e => by omega) B0.out.size)⟩
end Go.Proofs.Ytaiaaljahnackaa
