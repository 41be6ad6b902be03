/- Package mapping's Copy, by a contract. -/
import Derived.Test.YtkkmfacngmginaaMm
import Derived.Test.YtkkmfacngmginaaMpNew
namespace Go.Proofs.Ytkkmfacngmginaa
open Go.RowKit

set_option maxRecDepth 100000 in
set_option maxHeartbeats 4000000 in
theorem mp_copy_any (w : World) (ab pb n : Nat) (L : List Pg) (h : TabAt w ab pb n L) :
    Calls Try.prog 71 #[.pointer (some ⟨ab, 0, none⟩)] w fun ev w' => ∃ a' p', ev = .returned (.pointer (some ⟨a', 0, none⟩)) ∧ TabAt w' a' p' n L ∧ w.heap.size ≤ a' ∧ w.heap.size ≤ p' ∧ Below w.heap.size w w' := by
  have I := Lib.hid h
  have a0 := h.a0
  have hn := h.hi
  obtain ⟨zs, hz, hmk⟩ := run_makeS lPage 159 Try.underlying159 lPage_known (by decide) n (by omega)
  have hb := alloc_below0 w (.cells zs lPage.ty)
  have hcp : ∀ ty, (Builtin.copy_ #[159, 159] ty #[.slice (some ⟨w.heap.size, 0, none⟩) n n, .slice (some ⟨pb, 0, none⟩) n n]).run Try.prog (w.alloc (.cells zs 158)) = .ok (goInt n) (w.alloc (.cells (lPage.flat L).toArray 158)) := fun ty => run_copyS lPage 159 Try.underlying159 lPage_known w ty w.heap.size n n zs _ L rfl hz (h.own.sv.below hb) h.len (fun c e => by cases e)
  have c1 := cell_step a0 hb
  have T := Lib.hid (show TabAt ((w.alloc (.cells (lPage.flat L).toArray 158)).alloc (.cells #[.slice (some ⟨w.heap.size, 0, none⟩) n n] 161)) (w.heap.size + 1) w.heap.size n L from by
    have b := OwnS.lit lPage w.heap.size w w.heap.size rfl L (Nat.le_refl _) (by rw [h.len]; simp [maxLen]; omega)
    rw [h.len] at b
    have k := blk_new (w.alloc (.cells (lPage.flat L).toArray 158)) (.cells #[.slice (some ⟨w.heap.size, 0, none⟩) n n] 161)
    rw [show (w.alloc (.cells (lPage.flat L).toArray 158)).heap.size = w.heap.size + 1 by simp] at k
    exact ⟨h.len, h.lo, h.hi, k, (b.below (alloc_below0 _ _)).mono (Nat.zero_le _)⟩)
  have B := Lib.hid ((alloc_below0 w (.cells (lPage.flat L).toArray 158)).trans ((alloc_below0 _ (.cells #[.slice (some ⟨w.heap.size, 0, none⟩) n n] 161)).mono (alloc_below0 w _).size))
  simp only [lPage] at hmk c1
  clear h hb
  go_enter Try.func71, Try.ntmps71
  go_wp2
  go_ret
  exact ⟨w.heap.size + 1, w.heap.size, rfl, T.out, by omega, Nat.le_refl _, B.out⟩
end Go.Proofs.Ytkkmfacngmginaa
