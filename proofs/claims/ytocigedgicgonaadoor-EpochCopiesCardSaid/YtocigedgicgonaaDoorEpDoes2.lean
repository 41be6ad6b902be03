/- A step done in both clocks: does at one verb, by a contract. -/
import Derived.Test.YtocigedgicgonaaDoorEpDoes
namespace Go.Proofs.YtocigedgicgonaaDoor
open Go.RowKit

set_option maxRecDepth 100000 in
set_option maxHeartbeats 4000000 in
theorem does_2 (cb mb : Nat) (c r : Ck) (v : Value) (t a : Int) (w : World) (hT : ClkAt w cb mb c) (hr : r.ok) (hv : OwnS lInt 0 w v r.L) (hg : Ea.Glob w) (hcs : ¬ CS cb mb 0) :
    Calls Tryd.prog 12 #[.pointer (some ⟨cb, 0, none⟩), refC r v, doVal 2 t a] w (DoesP w cb mb (c.leave t) (r.leave t) (c.leaveE t == r.leaveE t)) := by
  obtain ⟨N, hN⟩ : ∃ N, r.L.length = N := ⟨_, rfl⟩
  obtain ⟨va, vc, rfl, -, -⟩ := hv.lenN hN
  have RO := Lib.hid (show r.ok ∧ r.L.length = N from ⟨hr, hN⟩)
  have NP := Lib.hid (show cb < w.heap.size ∧ mb < w.heap.size ∧ ¬ CS cb mb 0 from ⟨hT.ltC, hT.ltM, hcs⟩)
  have NC := Lib.hid (show ∀ b, w.heap.size ≤ b → ¬ CS cb mb b from fun b hb => CS.ne hT hb)
  obtain ⟨w1, hw1⟩ : ∃ W, W = w.alloc (refO r.n r.l (.slice va N vc)) := ⟨_, rfl⟩
  obtain ⟨w2, hw2⟩ : ∃ W, W = w1.alloc (doObj 2 t a) := ⟨_, rfl⟩
  obtain ⟨W, hW⟩ : ∃ W, W = w2.alloc (refO 0 0 (.slice none 0 0)) := ⟨_, rfl⟩
  have b1 := alloc_below0 w (refO r.n r.l (.slice va N vc))
  have k1 := blk_new w (refO r.n r.l (.slice va N vc))
  rw [← hw1] at b1 k1
  have b2 := alloc_below0 w1 (doObj 2 t a)
  have k2 := blk_new w1 (doObj 2 t a)
  rw [← hw2] at b2 k2
  have b3 := alloc_below0 w2 (refO 0 0 (.slice none 0 0))
  have k3 := blk_new w2 (refO 0 0 (.slice none 0 0))
  rw [← hW] at b3 k3
  have z1 : w1.heap.size = w.heap.size + 1 := by rw [hw1]; simp
  have z2 : w2.heap.size = w.heap.size + 1 + 1 := by rw [hw2]; simp [z1]
  have Z0 := Lib.hid (show w.heap.size + 3 ≤ W.heap.size by rw [hW]; simp [z2])
  have B0 := Lib.hid (show Below w.heap.size w W from (b1.trans (b2.mono b1.size)).trans (b3.mono (Nat.le_trans b1.size b2.size)))
  have KT0 := Lib.hid (blk_step (blk_step k1 b2) b3)
  have KD0 := blk_step k2 b3
  have KR0 := k3
  rw [z1] at KD0
  rw [z2] at KR0
  have KD0 := Lib.hid (DoAt.of KD0)
  have KR0 := Lib.hid KR0
  rw [hw2, hw1] at hW
  have T0 := Lib.hid (hT.low B0.out)
  have V0 := Lib.hid (hv.below B0.out)
  have G0 := Lib.hid (Ea.Glob.below B0.out hg)
  have M0 := Lib.hid (show Kept (CS cb mb) w W from Kept.of_below B0.out)
  clear hT hv hr hN hg hcs b1 b2 b3 k1 k2 k3 z1 z2 hw1 hw2
  clear w1 w2
  unfold refO doObj at hW
  unfold refC doVal
  go_enter Tryd.func12, Tryd.ntmps12
  have d0 := KD0.out.c0
  have d1 := KD0.out.c1
  have d2 := KD0.out.c2
  go_wp2_with fail
  rw [← hW]
  refine (leave_any _ cb mb c T0.out t).mono ?_
  rintro ev w3 ⟨rfl, hT, hk⟩
  have M3 := Lib.hid (M0.out.trans hk)
  have KT3 := Lib.hid (blk_keep KT0.out hk (NC.out _ (by omega)))
  have KD3 := Lib.hid (KD0.out.keep hk (NC.out _ (by omega)))
  have KR3 := Lib.hid (blk_keep KR0.out hk (NC.out _ (by omega)))
  have V3 := Lib.hid (V0.out.clk T0.out hk)
  have G3 := Lib.hid (Glob.keep G0.out hk NP.out.2.2)
  have Z3 := Lib.hid (show w.heap.size + 3 ≤ w3.heap.size from Nat.le_trans Z0.out hk.size)
  have T3 := Lib.hid hT
  obtain ⟨e, he⟩ : ∃ e, errV (c.leaveE t) = e := ⟨_, rfl⟩
  have EE := Lib.hid he
  rw [he]
  have t0 := blk_cell KT3.out 0
  have t1 := blk_cell KT3.out 1
  have t2 := blk_cell KT3.out 2
  have fr := rf_leave r (.slice va N vc) t w3 RO.out.1 V3.out
  unfold refC at fr
  clear hT hk he d0 d1 d2
  have d1 := KD3.out.c1
  have d2 := KD3.out.c2
  go_wp2_with fail
  refine fr.mono ?_
  rintro ev w4 ⟨v4, rfl, ho, hs⟩
  obtain ⟨a4, c4, rfl, -, -⟩ := ho.lenN (n := N) (by rw [Ck.leave_len]; exact RO.out.2)
  have M4 := Lib.hid (M3.out.trans (Kept.of_below hs))
  have KT4 := Lib.hid (blk_step KT3.out hs)
  have KD4 := Lib.hid (KD3.out.step hs)
  have KR4 := Lib.hid (blk_step KR3.out hs)
  have T4 := Lib.hid (T3.out.low hs)
  have G4 := Lib.hid (Ea.Glob.below hs G3.out)
  have Z4 := Lib.hid (show w.heap.size + 3 ≤ w4.heap.size from Nat.le_trans Z3.out hs.size)
  have V4 := Lib.hid ho
  obtain ⟨R, hR⟩ : ∃ R, r.leave t = R := ⟨_, rfl⟩
  obtain ⟨f, hf⟩ : ∃ f, r.leaveE t = f := ⟨_, rfl⟩
  have HR := Lib.hid hR
  have HF := Lib.hid hf
  rw [hR] at V4 ⊢
  rw [hf]
  clear hs fr t0 t1 t2 ho d1 d2 hR hf
  go_wp2_with fail
  have bq := alloc_below0 w4 (refO R.n R.l (.slice a4 N c4))
  have kq := blk_new w4 (refO R.n R.l (.slice a4 N c4))
  obtain ⟨w5, hw5⟩ : ∃ W, W = w4.alloc (refO R.n R.l (.slice a4 N c4)) := ⟨_, rfl⟩
  rw [← hw5] at bq kq
  unfold refO at hw5
  rw [← hw5]
  have M5 := Lib.hid (M4.out.trans (Kept.of_below bq))
  have KT5 := Lib.hid (blk_step KT4.out bq)
  have KD5 := Lib.hid (KD4.out.step bq)
  have KR5 := Lib.hid (blk_step KR4.out bq)
  have T5 := Lib.hid (T4.out.low bq)
  have G5 := Lib.hid (Ea.Glob.below bq G4.out)
  have Z5 := Lib.hid (show w.heap.size + 3 ≤ w5.heap.size from Nat.le_trans Z4.out bq.size)
  have V5 := Lib.hid (V4.out.below bq)
  have g0 : w5.cell? ⟨w4.heap.size, 0, none⟩ = some (.int .i64 R.n) := blk_cell kq 0
  have g1 : w5.cell? ⟨w4.heap.size, 1, none⟩ = some (.int .i64 R.l) := blk_cell kq 1
  have g2 : w5.cell? ⟨w4.heap.size, 2, none⟩ = some ((.slice a4 N c4)) := blk_cell kq 2
  have nz0 : ¬ w4.heap.size = w.heap.size + 1 + 1 := by have := Z4.out; omega
  have nz1 : ¬ w.heap.size + 1 + 1 = w4.heap.size := by have := Z4.out; omega
  have fcode := fun w h => code_of (c.leaveE t) w h
  rw [EE.out] at fcode
  clear bq kq hw5
  go_region_held3 (fun w' => w'.cell? ⟨w4.heap.size, 0, none⟩ = some (.int .i64 R.n) ∧ w'.cell? ⟨w4.heap.size, 1, none⟩ = some (.int .i64 R.l) ∧ w'.cell? ⟨w4.heap.size, 2, none⟩ = some ((.slice a4 N c4))) (first | exact ⟨by assumption, by assumption, by assumption⟩ | go_keep)
    (first
      | (go_at_call 26; (with_reducible refine (fcode _ ?_).mono ?_); exact Ea.Glob.below (Below.refl _ _).drew G5.out; rintro e6 w6 ⟨rfl, hs⟩; have BD := Lib.hid ((Below.refl _ w5).drew.trans hs); have u0 := cell_step g0 BD.out; have u1 := cell_step g1 BD.out; have u2 := cell_step g2 BD.out; obtain ⟨z0, z1, z2, z3, z4, z5, -⟩ := three_facts (blk_step KR5.out BD.out) (.int .i64 R.n) (.int .i64 R.l) ((.slice a4 N c4)); clear hs))
  go_wp2
  rw [HR.out, HF.out]
  exact does_end (T5.out.low BD.out) (V5.out.below BD.out) (M5.out.trans (Kept.of_below BD.out)) (by omega) NP.out.1 NP.out.2.1 (blk_step KR5.out BD.out) rfl rfl rfl
end Go.Proofs.YtocigedgicgonaaDoor
