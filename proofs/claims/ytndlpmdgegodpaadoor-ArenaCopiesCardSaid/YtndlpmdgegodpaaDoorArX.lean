/- Package arena's contracts, all of them: the bundle of the landed code. -/
import Derived.Test.YtndlpmdgegodpaaDoorArCopy
namespace Go.Proofs.YtndlpmdgegodpaaDoor
open Go.RowKit

set_option maxRecDepth 100000 in
set_option maxHeartbeats 4000000 in
theorem alloc_nil (v : Value) (d : RecD) (w : World) (hv : RecV w v d) : Calls Tryd.prog 16 #[.pointer none, v] w fun ev w' => ev = .returned (.tuple #[refV 0 0, .iface 59 (.int .i64 1)]) ∧ Below w.heap.size w w' := by
  obtain ⟨sc, rows, ents⟩ := d
  obtain ⟨rv, en, rfl, -, -⟩ := hv
  obtain ⟨W, hW⟩ : ∃ W, W = (w.alloc (recObj sc rv en)).alloc (.cells #[.int .i64 0, .int .i64 0] 38) := ⟨_, rfl⟩
  have z1 : (w.alloc (recObj sc rv en)).heap.size = w.heap.size + 1 := by simp
  have b1 := alloc_below0 w (recObj sc rv en)
  have b2 := alloc_below0 (w.alloc (recObj sc rv en)) (.cells #[.int .i64 0, .int .i64 0] 38)
  have B := Lib.hid (show Below w.heap.size w W by rw [hW]; exact b1.trans (b2.mono b1.size))
  have K1 := Lib.hid (show W.heap[w.heap.size + 1]? = some (.cells #[.int .i64 0, .int .i64 0] 38 (0, 0)) by rw [hW, ← z1]; exact blk_new _ _)
  unfold recObj at hW
  clear b1 b2 z1
  unfold recVal
  go_enter Tryd.func16, Tryd.ntmps16
  go_wp2
  rw [← hW]
  exact alloc_end K1.out rfl rfl rfl rfl ⟨rfl, B.out⟩
set_option maxRecDepth 100000 in
set_option maxHeartbeats 4000000 in
theorem find_nil (x y : Int) (w : World) : Calls Tryd.prog 30 #[.pointer none, refV x y] w fun ev w' => ev = .returned (.tuple #[.pointer none, .iface 59 (.int .i64 1)]) ∧ Below w.heap.size w w' := by
  have b1 := alloc_below0 w (.cells #[.int .i64 x, .int .i64 y] 38)
  have B := Lib.hid b1
  clear b1
  unfold refV
  go_enter Tryd.func30, Tryd.ntmps30
  go_wp2
  go_quiet (fail)
  go_wp2
  go_ret2
  exact ⟨rfl, below_drewN B.out _⟩
set_option maxRecDepth 100000 in
set_option maxHeartbeats 4000000 in
theorem free_nil (x y : Int) (w : World) : Calls Tryd.prog 17 #[.pointer none, refV x y] w fun ev w' => ev = .returned (.iface 59 (.int .i64 1)) ∧ Below w.heap.size w w' := by
  have b0 := alloc_below0 w (.cells #[.int .i64 x, .int .i64 y] 38)
  have hc := find_nil x y (w.alloc (.cells #[.int .i64 x, .int .i64 y] 38))
  have B0 := Lib.hid b0
  clear b0
  unfold refV at hc ⊢
  go_enter Tryd.func17, Tryd.ntmps17
  go_wp2_with fail
  refine hc.mono ?_
  rintro ev w1 ⟨rfl, hs⟩
  have B := Lib.hid (B0.out.trans (hs.mono B0.out.size))
  clear hs hc
  go_wp2
  go_ret
  exact ⟨rfl, B.out⟩
set_option maxRecDepth 100000 in
set_option maxHeartbeats 4000000 in
theorem load_nil (x y : Int) (w : World) : Calls Tryd.prog 18 #[.pointer none, refV x y] w fun ev w' => ∃ rv en, ev = .returned (.tuple #[recVal Sc.zero rv en, .iface 59 (.int .i64 1)]) ∧ SV lRow w' rv [] ∧ SV lEnt w' en [] ∧ Below w.heap.size w w' := by
  obtain ⟨W, hW⟩ : ∃ W, W = (w.alloc (.cells #[.int .i64 x, .int .i64 y] 38)).alloc (recObj Sc.zero (.slice none 0 0) (.slice none 0 0)) := ⟨_, rfl⟩
  have z1 : (w.alloc (.cells #[.int .i64 x, .int .i64 y] 38)).heap.size = w.heap.size + 1 := by simp
  have b1 := alloc_below0 w (.cells #[.int .i64 x, .int .i64 y] 38)
  have b2 := alloc_below0 (w.alloc (.cells #[.int .i64 x, .int .i64 y] 38)) (recObj Sc.zero (.slice none 0 0) (.slice none 0 0))
  have B0 := Lib.hid (show Below w.heap.size w W by rw [hW]; exact b1.trans (b2.mono b1.size))
  have K1 := Lib.hid (show W.heap[w.heap.size + 1]? = some (recObj Sc.zero (.slice none 0 0) (.slice none 0 0)) by rw [hW, ← z1]; exact blk_new _ _)
  have hc := find_nil x y W
  simp only [recObj, Sc.zero] at hW
  clear b1 b2 z1
  unfold refV at hc ⊢
  go_enter Tryd.func18, Tryd.ntmps18
  go_wp2_with fail
  rw [← hW]
  refine hc.mono ?_
  rintro ev w1 ⟨rfl, hs⟩
  have B := Lib.hid (B0.out.trans (hs.mono B0.out.size))
  have K2 := Lib.hid (blk_step K1.out hs)
  clear hs hc hW
  go_wp2_with (refine wpList_store_mid rfl 40 (.tmp 4) (.tmp 16) rfl (w.heap.size + 1) 0 (recCells Sc.zero (.slice none 0 0) (.slice none 0 0)).toArray rfl rfl (blk_there K2.out 15 (Nat.le_refl _)) (by kernel_rfl) (rec_one ..) ?_)
  exact load_end K2.out rfl rfl rfl (Nat.le_refl 15) (by kernel_rfl) ⟨_, _, rfl, SV.nil _ _, SV.nil _ _, B.out.trans ((Kept.setCells (b := w.heap.size + 1) (recCells Sc.zero (.slice none 0 0) (.slice none 0 0)) 0 _ (Kept.refl _ w1)).below (n := w.heap.size) (fun k h => by omega) B.out.size)⟩
set_option maxRecDepth 100000 in
theorem live_nil (w : World) : Calls Tryd.prog 11 #[.pointer none] w fun ev w' => ∃ v', ev = .returned v' ∧ SV lRef w' v' [] ∧ Below w.heap.size w w' := by
  go_enter Tryd.func11, Tryd.ntmps11
  go_wp2
  go_ret
  exact ⟨_, rfl, SV.nil _ _, Below.refl _ _⟩
set_option maxRecDepth 100000 in
theorem left_nil (w : World) : Calls Tryd.prog 13 #[.pointer none] w fun ev w' => ev = .returned (.int .i64 0) ∧ Below w.heap.size w w' := by
  go_enter Tryd.func13, Tryd.ntmps13
  go_wp2
  go_ret
  exact ⟨rfl, Below.refl _ _⟩
set_option maxRecDepth 100000 in
theorem copy_nil (w : World) : Calls Tryd.prog 15 #[.pointer none] w fun ev w' => ev = .returned (.pointer none) ∧ Below w.heap.size w w' := by
  go_enter Tryd.func15, Tryd.ntmps15
  go_wp2
  go_ret
  exact ⟨rfl, Below.refl _ _⟩
def arc : ArC where
  Inv := ArInv
  keep := fun h hk => by obtain ⟨ab, sb, ss, e, I⟩ := h; exact ⟨ab, sb, ss, e, I.keep hk⟩
  foot := fun h k hk => by obtain ⟨ab, sb, ss, e, I⟩ := h; exact I.foot k hk
  new := fun n l w h => new_any n l w h
  newNo := fun n l w h => new_no n l w h
  alloc := fun a v S n l ps d w h hv h1 h2 => alloc_any a v S n l ps d w h hv h1 h2
  load := fun a S n l ps x y w h => load_any a S n l ps x y w h
  free := fun a S n l ps x y w h => free_any a S n l ps x y w h
  live := fun a S n l ps w h => live_any a S n l ps w h
  left := fun a S n l ps w h => left_any a S n l ps w h
  copy := fun a S n l ps w h => copy_any a S n l ps w h
  clone := fun v d w hv h1 h2 => clone_any v d w hv h1 h2
  allocNil := fun v d w hv _ _ => alloc_nil v d w hv
  loadNil := load_nil
  freeNil := free_nil
  liveNil := live_nil
  leftNil := left_nil
  copyNil := copy_nil
end Go.Proofs.YtndlpmdgegodpaaDoor
