/- A step done in both clocks: does at one verb, by a contract. -/
import Derived.Test.YtocigedgicgonaaDoorEpDoes
namespace Go.Proofs.YtocigedgicgonaaDoor
open Go.RowKit

set_option maxRecDepth 100000 in
set_option maxHeartbeats 4000000 in
theorem does_x (cb mb : Nat) (c r : Ck) (v : Value) (v0 t a : Int) (w : World) (hT : ClkAt w cb mb c) (hr : r.ok) (hv : OwnS lInt 0 w v r.L) (hg : Ea.Glob w) (hcs : ¬ CS cb mb 0)  (h0 : v0 ≠ 0) (h1 : v0 ≠ 1) (h2 : v0 ≠ 2) :
    Calls Tryd.prog 12 #[.pointer (some ⟨cb, 0, none⟩), refC r v, doVal v0 t a] w (DoesP w cb mb c r true) := by
  have s0 : (v0 == 0) = false := by simp [h0]
  have s1 : (v0 == 1) = false := by simp [h1]
  have s2 : (v0 == 2) = false := by simp [h2]
  obtain ⟨N, hN⟩ : ∃ N, r.L.length = N := ⟨_, rfl⟩
  obtain ⟨va, vc, rfl, -, -⟩ := hv.lenN hN
  have RO := Lib.hid (show r.ok ∧ r.L.length = N from ⟨hr, hN⟩)
  have NP := Lib.hid (show cb < w.heap.size ∧ mb < w.heap.size ∧ ¬ CS cb mb 0 from ⟨hT.ltC, hT.ltM, hcs⟩)
  have NC := Lib.hid (show ∀ b, w.heap.size ≤ b → ¬ CS cb mb b from fun b hb => CS.ne hT hb)
  obtain ⟨w1, hw1⟩ : ∃ W, W = w.alloc (refO r.n r.l (.slice va N vc)) := ⟨_, rfl⟩
  obtain ⟨w2, hw2⟩ : ∃ W, W = w1.alloc (doObj v0 t a) := ⟨_, rfl⟩
  obtain ⟨W, hW⟩ : ∃ W, W = w2.alloc (refO 0 0 (.slice none 0 0)) := ⟨_, rfl⟩
  have b1 := alloc_below0 w (refO r.n r.l (.slice va N vc))
  have k1 := blk_new w (refO r.n r.l (.slice va N vc))
  rw [← hw1] at b1 k1
  have b2 := alloc_below0 w1 (doObj v0 t a)
  have k2 := blk_new w1 (doObj v0 t a)
  rw [← hw2] at b2 k2
  have b3 := alloc_below0 w2 (refO 0 0 (.slice none 0 0))
  have k3 := blk_new w2 (refO 0 0 (.slice none 0 0))
  rw [← hW] at b3 k3
  have z1 : w1.heap.size = w.heap.size + 1 := by rw [hw1]; simp
  have z2 : w2.heap.size = w.heap.size + 1 + 1 := by rw [hw2]; simp [z1]
  have Z0 := Lib.hid (show w.heap.size + 3 ≤ W.heap.size by rw [hW]; simp [z2])
  have B0 := Lib.hid (show Below w.heap.size w W from (b1.trans (b2.mono b1.size)).trans (b3.mono (Nat.le_trans b1.size b2.size)))
  have KT0 := Lib.hid (blk_step (blk_step k1 b2) b3)
  have KD0 := blk_step k2 b3
  have KR0 := k3
  rw [z1] at KD0
  rw [z2] at KR0
  have KD0 := Lib.hid (DoAt.of KD0)
  have KR0 := Lib.hid KR0
  rw [hw2, hw1] at hW
  have T0 := Lib.hid (hT.low B0.out)
  have V0 := Lib.hid (hv.below B0.out)
  have G0 := Lib.hid (Ea.Glob.below B0.out hg)
  have M0 := Lib.hid (show Kept (CS cb mb) w W from Kept.of_below B0.out)
  have T00 := Lib.hid hT
  have V00 := Lib.hid hv
  clear hT hv hr hN hg hcs b1 b2 b3 k1 k2 k3 z1 z2 hw1 hw2
  clear w1 w2
  unfold refO doObj at hW
  unfold refC doVal
  go_enter Tryd.func12, Tryd.ntmps12
  have d0 := KD0.out.c0
  have d1 := KD0.out.c1
  have d2 := KD0.out.c2
  go_wp2
  have b1 := alloc_below0 w (refO r.n r.l (.slice va N vc))
  have b2 := alloc_below0 (w.alloc (refO r.n r.l (.slice va N vc))) (doObj v0 t a)
  have b3 := alloc_below0 ((w.alloc (refO r.n r.l (.slice va N vc))).alloc (doObj v0 t a)) (refO r.n r.l (.slice va N vc))
  have k3 := blk_new ((w.alloc (refO r.n r.l (.slice va N vc))).alloc (doObj v0 t a)) (refO r.n r.l (.slice va N vc))
  rw [show ((w.alloc (refO r.n r.l (.slice va N vc))).alloc (doObj v0 t a)).heap.size = w.heap.size + 1 + 1 by simp] at k3
  have B := (b1.trans (b2.mono b1.size)).trans (b3.mono (Nat.le_trans b1.size b2.size))
  exact bodyPost_ret (v := .tuple #[.agg #[.int .i64 r.n, .int .i64 r.l, .slice va N vc], .bool true]) (results_cellT rfl _ _ (w.heap.size + 1 + 1) [.int .i64 r.n, .int .i64 r.l, .slice va N vc] _ (.bool true) rfl rfl (rng3 k3) Tryd.underlying28 rfl (by kernel_rfl)) rfl ⟨_, rfl, T00.out.low B, V00.out.below B, Kept.of_below B⟩
end Go.Proofs.YtocigedgicgonaaDoor
