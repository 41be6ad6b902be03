/- Package mapping: what layer 5's laws ask ahead of all: awake is true. -/
import Derived.Test.YtfdgfonffocenaaDoorMpNew
namespace Go.Proofs.YtfdgfonffocenaaDoor
open Go.RowKit

theorem errV_at {e : Int} (h : e = 0) : errV e = .nilIface := by unfold errV; rw [if_pos h]
theorem swapB_zero : swapB [some (0, 0), none] 0 (0, 0) = true := by decide
theorem swapL_zero : swapL [some (0, 0), none] 0 (0, 0) (1, 1) = [some (1, 1), none] := by decide
theorem swapB_one : swapB [some (1, 1), none] 0 (0, 0) = false := by decide
theorem swapL_one : swapL [some (1, 1), none] 0 (0, 0) (2, 1) = [some (1, 1), none] := by decide
set_option maxRecDepth 100000 in
set_option maxHeartbeats 4000000 in
theorem awakeM (w : World) : Calls Tryd.prog 6 #[] w fun ev w' => ev = .returned (.bool true) ∧ Below w.heap.size w w' := by
  go_enter Tryd.func6, Tryd.ntmps6
  go_wp2_with fail
  refine (new_any 2 _ (by decide) (by decide)).mono ?_
  rintro ev w1 ⟨ab, pb, rfl, hT, h1, h2, hs⟩
  have T1 := Lib.hid hT
  have B1 := Lib.hid hs
  have S1 := Lib.hid h2
  clear hT h1 h2 hs
  go_wp2_with fail
  refine (take_any _ ab pb 2 _ T1.out).mono ?_
  rintro ev w2 ⟨rfl, hT, hk⟩
  have T2 := Lib.hid (show TabAt w2 ab pb 2 [some (0, 0), none] from hT)
  have B2 := Lib.hid (B1.out.trans (hk.below (n := w.heap.size) (fun k e => e ▸ S1.out) B1.out.size))
  rw [show takeN (pages0 2) = 0 from rfl, show errV (takeE (pages0 2)) = .nilIface from rfl]
  clear hT hk
  go_wp2_with fail
  refine (swap_any _ ab pb 2 _ 0 0 0 1 1 T2.out).mono ?_
  rintro ev w3 ⟨rfl, hT, hk⟩
  rw [swapB_zero, errV_at (show codeT [some (0, 0), none] 0 = 0 by decide)]
  rw [swapL_zero] at hT
  have T3 := Lib.hid hT
  have B3 := Lib.hid (B2.out.trans (hk.below (n := w.heap.size) (fun k e => e ▸ S1.out) B2.out.size))
  clear hT hk
  go_wp2_with fail
  refine (swap_any _ ab pb 2 _ 0 0 0 2 1 T3.out).mono ?_
  rintro ev w4 ⟨rfl, hT, hk⟩
  rw [swapB_one, errV_at (show codeT [some (1, 1), none] 0 = 0 by decide)]
  rw [swapL_one] at hT
  have T4 := Lib.hid hT
  have B4 := Lib.hid (B3.out.trans (hk.below (n := w.heap.size) (fun k e => e ▸ S1.out) B3.out.size))
  clear hT hk
  go_wp2_with fail
  refine (pages_any _ ab pb 2 _ T4.out).mono ?_
  rintro ev w5 ⟨v5, rfl, ho, hs⟩
  obtain ⟨a5, c5, rfl, -, -⟩ := ho.lenN (n := 1) (by decide)
  have B5 := Lib.hid (B4.out.trans (hs.mono B4.out.size))
  clear ho hs
  go_wp2
  go_ret
  exact ⟨rfl, B5.out⟩
end Go.Proofs.YtfdgfonffocenaaDoor
