/- Layer 12's laws' own job, by contract. -/
import Derived.Test.YtejmdmaebkdjoaaGreatDoorNsFew
import Derived.Test.YtejmdmaebkdjoaaGreatDoorNsBegin
namespace Go.Proofs.YtejmdmaebkdjoaaGreatDoor
set_option linter.unusedVariables false
set_option linter.unusedSimpArgs false
set_option maxRecDepth 100000
set_option maxHeartbeats 4000000
open Go.RowKit
theorem jobInfo5 : (Tryz.prog.info? 62).map (·.size) = some 5 := by kernel_rfl
theorem job_any (d : JbD) (cl ci : Nat) (w : World) : Calls Tryz.prog 9 #[.agg d.cells.toArray, .pointer (some ⟨cl, ci, none⟩)] w fun ev w' => ev = .returned (jobV d.page d.os d.og d.news (.func (.func 37) #[] #[.pointer (some ⟨w.heap.size + 1, 0, none⟩), .pointer (some ⟨w.heap.size, 0, none⟩)])) ∧ w'.heap[w.heap.size]? = some (.cells d.cells.toArray 57 (0, 0)) ∧ w'.heap[w.heap.size + 1]? = some (.cells #[.pointer (some ⟨cl, ci, none⟩)] 64 (0, 0)) ∧ Below w.heap.size w w' := by
 have hmf := run_makeFunc
 obtain ⟨W0, hW0⟩ : ∃ W, W = ((w.alloc (.cells d.cells.toArray 57)).alloc (.cells #[.pointer (some ⟨cl, ci, none⟩)] 64)).alloc (.cells #[.int .i64 0, .int .i64 0, .int .i64 0, .int .i64 0, .nilFunc] 62) := ⟨_, rfl⟩
 have B0 := Lib.hid (show Below w.heap.size w W0 by rw [hW0]; exact (alloc_below0 _ _).trans (((alloc_below0 _ _).trans ((alloc_below0 _ _).mono (alloc_below0 _ _).size)).mono (alloc_below0 w _).size))
 have X0 := Lib.hid (show W0.heap[w.heap.size]? = some (.cells d.cells.toArray 57 (0, 0)) by rw [hW0]; exact blk_step (blk_step (blk_new w _) (alloc_below0 _ _)) (alloc_below0 _ _))
 have X1 := Lib.hid (show W0.heap[w.heap.size + 1]? = some (.cells #[.pointer (some ⟨cl, ci, none⟩)] 64 (0, 0)) by rw [hW0, show w.heap.size + 1 = (w.alloc (.cells d.cells.toArray 57)).heap.size by simp]; exact blk_step (blk_new _ _) (alloc_below0 _ _))
 have X2 := Lib.hid (show W0.heap[w.heap.size + 1 + 1]? = some (.cells #[.int .i64 0, .int .i64 0, .int .i64 0, .int .i64 0, .nilFunc] 62 (0, 0)) by rw [hW0, show w.heap.size + 1 + 1 = ((w.alloc (.cells d.cells.toArray 57)).alloc (.cells #[.pointer (some ⟨cl, ci, none⟩)] 64)).heap.size by simp]; exact blk_new _ _)
 have y0 : W0.cell? ⟨w.heap.size, 0, none⟩ = some (.int .i64 d.page) := blk_cell X0.out 0
 have y1 : W0.cell? ⟨w.heap.size, 1, none⟩ = some (.int .i64 d.os) := blk_cell X0.out 1
 have y2 : W0.cell? ⟨w.heap.size, 2, none⟩ = some (.int .i64 d.og) := blk_cell X0.out 2
 have y3 : W0.cell? ⟨w.heap.size, 3, none⟩ = some (.int .i64 d.news) := blk_cell X0.out 3
 have TH := Lib.hid (blk_there X2.out 5 (Nat.le_refl _))
 go_enter Tryz.func9, Tryz.ntmps9
 go_upto_region 1 with (fail)
 rw [← hW0]
 clear hW0
 go_wp2_with (refine wpList_store_to rfl 62 (.tmp 4) (.tmp 12) rfl (w.heap.size + 1 + 1) 0 [.int .i64 d.page, .int .i64 d.os, .int .i64 d.og, .int .i64 d.news, (.func (.func 37) #[] #[.pointer (some ⟨w.heap.size + 1, 0, none⟩), .pointer (some ⟨w.heap.size, 0, none⟩)])] rfl rfl ?_ jobInfo5 (by kernel_rfl) ?_; exact TH.out; intro W2 hW2; have Z2 := Lib.hid (show W2.heap[w.heap.size + 1 + 1]? = some (.cells ([.int .i64 d.page, .int .i64 d.os, .int .i64 d.og, .int .i64 d.news, (.func (.func 37) #[] #[.pointer (some ⟨w.heap.size + 1, 0, none⟩), .pointer (some ⟨w.heap.size, 0, none⟩)])] : List Value).toArray 62 (0, 0)) by rw [hW2]; exact list_laid [.int .i64 d.page, .int .i64 d.os, .int .i64 d.og, .int .i64 d.news, (.func (.func 37) #[] #[.pointer (some ⟨w.heap.size + 1, 0, none⟩), .pointer (some ⟨w.heap.size, 0, none⟩)])] X2.out rfl); have KB := Lib.hid (show Kept (fun k => k = w.heap.size + 1 + 1) W0 W2 by rw [hW2]; exact Kept.setCells _ _ _ (Kept.refl _ _)); clear hW2)
 exact bodyPost_ret (v := .agg ([.int .i64 d.page, .int .i64 d.os, .int .i64 d.og, .int .i64 d.news, (.func (.func 37) #[] #[.pointer (some ⟨w.heap.size + 1, 0, none⟩), .pointer (some ⟨w.heap.size, 0, none⟩)])] : List Value).toArray) (results_cell1 rfl _ _ (w.heap.size + 1 + 1) [.int .i64 d.page, .int .i64 d.os, .int .i64 d.og, .int .i64 d.news, (.func (.func 37) #[] #[.pointer (some ⟨w.heap.size + 1, 0, none⟩), .pointer (some ⟨w.heap.size, 0, none⟩)])] _ rfl (blk_rng Z2.out) Tryz.underlying62 rfl jobInfo5) rfl ⟨rfl, (KB.out.block _ (Array.getElem?_eq_some_iff.1 X0.out).1 (by omega)).trans X0.out, (KB.out.block _ (Array.getElem?_eq_some_iff.1 X1.out).1 (by omega)).trans X1.out, B0.out.trans (KB.out.below (n := w.heap.size) (fun k e => by omega) B0.out.size)⟩
end Go.Proofs.YtejmdmaebkdjoaaGreatDoor
