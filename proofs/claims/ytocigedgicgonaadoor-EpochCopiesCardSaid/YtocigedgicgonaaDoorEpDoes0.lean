/- A step done in both clocks: does where the two numbers are unlike, by a contract. -/
import Derived.Test.YtocigedgicgonaaDoorEpDoes
import Derived.Test.YtocigedgicgonaaDoorArLast
namespace Go.Proofs.YtocigedgicgonaaDoor
open Go.RowKit

set_option maxRecDepth 100000 in
set_option maxHeartbeats 4000000 in
theorem does_0n (cb mb : Nat) (c r : Ck) (v : Value) (t a : Int) (w : World) (hT : ClkAt w cb mb c) (hr : r.ok) (hv : OwnS lInt 0 w v r.L) (hg : Ea.Glob w) (hcs : ¬ CS cb mb 0) (hm : (c.bump.n == r.bump.n) = false) :
    Calls Tryd.prog 12 #[.pointer (some ⟨cb, 0, none⟩), refC r v, doVal 0 t a] w (DoesP w cb mb c.bump r.bump false) := by
  obtain ⟨N, hN⟩ : ∃ N, r.L.length = N := ⟨_, rfl⟩
  obtain ⟨va, vc, rfl, -, -⟩ := hv.lenN hN
  have RO := Lib.hid (show r.ok ∧ r.L.length = N from ⟨hr, hN⟩)
  have NP := Lib.hid (show cb < w.heap.size ∧ mb < w.heap.size ∧ ¬ CS cb mb 0 from ⟨hT.ltC, hT.ltM, hcs⟩)
  have NC := Lib.hid (show ∀ b, w.heap.size ≤ b → ¬ CS cb mb b from fun b hb => CS.ne hT hb)
  obtain ⟨w1, hw1⟩ : ∃ W, W = w.alloc (refO r.n r.l (.slice va N vc)) := ⟨_, rfl⟩
  obtain ⟨w2, hw2⟩ : ∃ W, W = w1.alloc (doObj 0 t a) := ⟨_, rfl⟩
  obtain ⟨W, hW⟩ : ∃ W, W = w2.alloc (refO 0 0 (.slice none 0 0)) := ⟨_, rfl⟩
  have b1 := alloc_below0 w (refO r.n r.l (.slice va N vc))
  have k1 := blk_new w (refO r.n r.l (.slice va N vc))
  rw [← hw1] at b1 k1
  have b2 := alloc_below0 w1 (doObj 0 t a)
  have k2 := blk_new w1 (doObj 0 t a)
  rw [← hw2] at b2 k2
  have b3 := alloc_below0 w2 (refO 0 0 (.slice none 0 0))
  have k3 := blk_new w2 (refO 0 0 (.slice none 0 0))
  rw [← hW] at b3 k3
  have z1 : w1.heap.size = w.heap.size + 1 := by rw [hw1]; simp
  have z2 : w2.heap.size = w.heap.size + 1 + 1 := by rw [hw2]; simp [z1]
  have Z0 := Lib.hid (show w.heap.size + 3 ≤ W.heap.size by rw [hW]; simp [z2])
  have B0 := Lib.hid (show Below w.heap.size w W from (b1.trans (b2.mono b1.size)).trans (b3.mono (Nat.le_trans b1.size b2.size)))
  have KT0 := Lib.hid (blk_step (blk_step k1 b2) b3)
  have KD0 := blk_step k2 b3
  have KR0 := k3
  rw [z1] at KD0
  rw [z2] at KR0
  have KD0 := Lib.hid (DoAt.of KD0)
  have KR0 := Lib.hid KR0
  rw [hw2, hw1] at hW
  have T0 := Lib.hid (hT.low B0.out)
  have V0 := Lib.hid (hv.below B0.out)
  have G0 := Lib.hid (Ea.Glob.below B0.out hg)
  have M0 := Lib.hid (show Kept (CS cb mb) w W from Kept.of_below B0.out)
  clear hT hv hr hN hg hcs b1 b2 b3 k1 k2 k3 z1 z2 hw1 hw2
  clear w1 w2
  unfold refO doObj at hW
  unfold refC doVal
  go_enter Tryd.func12, Tryd.ntmps12
  have d0 := KD0.out.c0
  have d1 := KD0.out.c1
  have d2 := KD0.out.c2
  go_wp2_with fail
  rw [← hW]
  refine (bump_any _ cb mb c T0.out).mono ?_
  rintro ev w3 ⟨rfl, hT, hk⟩
  have M3 := Lib.hid (M0.out.trans hk)
  have KT3 := Lib.hid (blk_keep KT0.out hk (NC.out _ (by omega)))
  have KD3 := Lib.hid (KD0.out.keep hk (NC.out _ (by omega)))
  have KR3 := Lib.hid (blk_keep KR0.out hk (NC.out _ (by omega)))
  have V3 := Lib.hid (V0.out.clk T0.out hk)
  have G3 := Lib.hid (Glob.keep G0.out hk NP.out.2.2)
  have Z3 := Lib.hid (show w.heap.size + 3 ≤ w3.heap.size from Nat.le_trans Z0.out hk.size)
  have T3 := Lib.hid hT
  obtain ⟨e, he⟩ : ∃ e, errV c.bumpE = e := ⟨_, rfl⟩
  have EE := Lib.hid he
  rw [he]
  have t0 := blk_cell KT3.out 0
  have t1 := blk_cell KT3.out 1
  have t2 := blk_cell KT3.out 2
  have fr := rf_bump r (.slice va N vc) w3 RO.out.1 V3.out
  unfold refC at fr
  clear hT hk he d0 d1 d2
  go_wp2_with fail
  refine fr.mono ?_
  rintro ev w4 ⟨rfl, hs⟩
  have M4 := Lib.hid (M3.out.trans (Kept.of_below hs))
  have KT4 := Lib.hid (blk_step KT3.out hs)
  have KD4 := Lib.hid (KD3.out.step hs)
  have KR4 := Lib.hid (blk_step KR3.out hs)
  have T4 := Lib.hid (T3.out.low hs)
  have G4 := Lib.hid (Ea.Glob.below hs G3.out)
  have Z4 := Lib.hid (show w.heap.size + 3 ≤ w4.heap.size from Nat.le_trans Z3.out hs.size)
  have V4 := Lib.hid (show OwnS lInt 0 w4 (.slice va N vc) r.bump.L by rw [show r.bump.L = r.L by unfold Ck.bump; split <;> rfl]; exact V3.out.below hs)
  clear hs fr t0 t1 t2
  go_wp2_with fail
  have bq := alloc_below0 w4 (refO r.bump.n r.bump.l (.slice va N vc))
  have kq := blk_new w4 (refO r.bump.n r.bump.l (.slice va N vc))
  obtain ⟨w5, hw5⟩ : ∃ W, W = w4.alloc (refO r.bump.n r.bump.l (.slice va N vc)) := ⟨_, rfl⟩
  rw [← hw5] at bq kq
  unfold refO at hw5
  rw [← hw5]
  have M5 := Lib.hid (M4.out.trans (Kept.of_below bq))
  have KT5 := Lib.hid (blk_step KT4.out bq)
  have KD5 := Lib.hid (KD4.out.step bq)
  have KR5 := Lib.hid (blk_step KR4.out bq)
  have T5 := Lib.hid (T4.out.low bq)
  have G5 := Lib.hid (Ea.Glob.below bq G4.out)
  have Z5 := Lib.hid (show w.heap.size + 3 ≤ w5.heap.size from Nat.le_trans Z4.out bq.size)
  have V5 := Lib.hid (V4.out.below bq)
  have g0 : w5.cell? ⟨w4.heap.size, 0, none⟩ = some (.int .i64 r.bump.n) := blk_cell kq 0
  have g1 : w5.cell? ⟨w4.heap.size, 1, none⟩ = some (.int .i64 r.bump.l) := blk_cell kq 1
  have g2 : w5.cell? ⟨w4.heap.size, 2, none⟩ = some ((.slice va N vc)) := blk_cell kq 2
  have nz0 : ¬ w4.heap.size = w.heap.size + 1 + 1 := by have := Z4.out; omega
  have nz1 : ¬ w.heap.size + 1 + 1 = w4.heap.size := by have := Z4.out; omega
  have fcode := fun w h => code_of (c.bumpE) w h
  rw [EE.out] at fcode
  clear bq kq hw5
  clear fcode
  have SD := Lib.hid (show (fun w' => w'.cell? ⟨w4.heap.size, 0, none⟩ = some (.int .i64 r.bump.n) ∧ w'.cell? ⟨w4.heap.size, 1, none⟩ = some (.int .i64 r.bump.l) ∧ w'.cell? ⟨w4.heap.size, 2, none⟩ = some (.slice va N vc)) w5.drew from ⟨g0, g1, g2⟩)
  clear g0 g1 g2
  refine AnyBut.region (fun w' => w'.cell? ⟨w4.heap.size, 0, none⟩ = some (.int .i64 r.bump.n) ∧ w'.cell? ⟨w4.heap.size, 1, none⟩ = some (.int .i64 r.bump.l) ∧ w'.cell? ⟨w4.heap.size, 2, none⟩ = some (.slice va N vc)) 11 (by kernel_rfl) ?_
  refine AnyBut.take (i := 0) (oi := ⟨some 34, _, _, _, _, none⟩) (v := ?va0) rfl (by kernel_rfl) (by kernel_rfl) (by kernel_rfl) (by kernel_rfl) (fun _ _ _ h => h) (Or.inl ⟨by rfl, ?hya0⟩) SD.out ?resta0
  case hya0 => (intro w hSw; go_simp; try (with_reducible rfl))
  simp only [Act.put, List.setIfInBounds_toArray, List.set_cons_zero, List.set_cons_succ]
  refine AnyBut.take (i := 1) (oi := ⟨some 35, _, _, _, _, none⟩) (v := ?va1) rfl (by kernel_rfl) (by kernel_rfl) (by kernel_rfl) (by kernel_rfl) (fun _ _ _ h => h) (Or.inl ⟨by rfl, ?hya1⟩) SD.out ?resta1
  case hya1 => (intro w hSw; go_simp; try (with_reducible rfl))
  simp only [Act.put, List.setIfInBounds_toArray, List.set_cons_zero, List.set_cons_succ]
  refine AnyBut.take (i := 2) (oi := ⟨some 36, _, _, _, _, none⟩) (v := ?va2) rfl (by kernel_rfl) (by kernel_rfl) (by kernel_rfl) (by kernel_rfl) (fun _ _ _ h => h) (Or.inl ⟨by rfl, ?hya2⟩) SD.out ?resta2
  case hya2 => (intro w hSw; go_simp; try (with_reducible rfl))
  simp only [Act.put, List.setIfInBounds_toArray, List.set_cons_zero, List.set_cons_succ]
  refine AnyBut.take (i := 3) (oi := ⟨some 37, _, _, _, _, none⟩) (v := ?va3) rfl (by kernel_rfl) (by kernel_rfl) (by kernel_rfl) (by kernel_rfl) (fun _ _ _ h => h) (Or.inl ⟨by rfl, ?hya3⟩) SD.out ?resta3
  case hya3 => (intro w hSw; go_simp; try (with_reducible rfl))
  simp only [Act.put, List.setIfInBounds_toArray, List.set_cons_zero, List.set_cons_succ]
  refine AnyBut.take (i := 4) (oi := ⟨some 38, _, _, _, _, none⟩) (v := ?va4) rfl (by kernel_rfl) (by kernel_rfl) (by kernel_rfl) (by kernel_rfl) (fun _ _ _ h => h) (Or.inl ⟨by rfl, ?hya4⟩) SD.out ?resta4
  case hya4 => (intro w hSw; go_simp; try (with_reducible rfl))
  simp only [Act.put, List.setIfInBounds_toArray, List.set_cons_zero, List.set_cons_succ]
  refine AnyBut.take (i := 5) (oi := ⟨some 39, _, _, _, _, _⟩) (v := undef) rfl (by kernel_rfl) (by kernel_rfl) (by kernel_rfl) (by kernel_rfl) (fun _ _ _ h => h) (Or.inr ⟨by rfl, rfl⟩) SD.out ?resta5
  simp only [Act.put, List.setIfInBounds_toArray, List.set_cons_zero, List.set_cons_succ]
  refine AnyBut.take (i := 7) (oi := ⟨some 41, _, _, _, _, _⟩) (v := undef) rfl (by kernel_rfl) (by kernel_rfl) (by kernel_rfl) (by kernel_rfl) (fun _ _ _ h => h) (Or.inr ⟨by rfl, rfl⟩) SD.out ?resta7
  simp only [Act.put, List.setIfInBounds_toArray, List.set_cons_zero, List.set_cons_succ]
  refine AnyBut.one (i := 6) (o := ⟨some 40, _, _, _, _, _⟩) (by kernel_rfl) rfl (fun K hK => ?_)
  rw [if_neg (Bool.eq_false_iff.1 (by rfl))]
  refine hK.out _ _ (fun _ => SD.out) ?_
  clear hK K
  try simp only [Act.put, List.setIfInBounds_toArray, List.set_cons_zero, List.set_cons_succ]
  refine AnyBut.take (i := 8) (oi := ⟨some 42, _, _, _, _, _⟩) (v := undef) rfl (by kernel_rfl) (by kernel_rfl) (by kernel_rfl) (by kernel_rfl) (fun _ _ _ h => h) (Or.inr ⟨by rfl, rfl⟩) SD.out ?restb8
  simp only [Act.put, List.setIfInBounds_toArray, List.set_cons_zero, List.set_cons_succ]
  refine AnyBut.take (i := 9) (oi := ⟨some 43, _, _, _, _, none⟩) (v := ?vb9) rfl (by kernel_rfl) (by kernel_rfl) (by kernel_rfl) (by kernel_rfl) (fun _ _ _ h => h) (Or.inl ⟨by rfl, ?hyb9⟩) SD.out ?restb9
  case hyb9 => (intro w hSw; go_simp; try (with_reducible rfl))
  simp only [Act.put, List.setIfInBounds_toArray, List.set_cons_zero, List.set_cons_succ]
  obtain ⟨z0, z1, z2, z3, z4, z5, -⟩ := three_facts KR5.out (.int .i64 r.bump.n) (.int .i64 r.bump.l) (.slice va N vc)
  refine AnyBut.one (i := 10) (o := ⟨none, _, _, _, _, none⟩) (by kernel_rfl) rfl (fun K hK => ?_)
  go_simp
  refine hK.out _ _ (fun _ => ?SX) ?_
  clear hK K
  case SX => (have kk := (((Kept.refl (fun k => k = w.heap.size + 1 + 1) w5).setCell 0 (.int .i64 r.bump.n)).setCell 1 (.int .i64 r.bump.l)).setCell 2 (.slice va N vc); exact ⟨kk.cell nz0 SD.out.1, kk.cell nz0 SD.out.2.1, kk.cell nz0 SD.out.2.2⟩)
  try simp only [Act.put, List.setIfInBounds_toArray, List.set_cons_zero, List.set_cons_succ]
  refine AnyBut.one (i := 11) (o := ⟨some 7, _, _, _, _, none⟩) (by kernel_rfl) rfl (fun K hK => ?_)
  go_simp
  refine hK.out _ _ (fun h => absurd rfl h) ?_
  clear hK K
  try simp only [Act.put, List.setIfInBounds_toArray, List.set_cons_zero, List.set_cons_succ]
  refine AnyBut.done (by kernel_rfl) ?_ _
  go_wp2
  exact does_end (T5.out.low (Below.refl _ _).drew) (V5.out.below (Below.refl _ _).drew) (M5.out.trans (Kept.of_below (Below.refl _ _).drew)) (by omega) NP.out.1 NP.out.2.1 KR5.out rfl rfl rfl
end Go.Proofs.YtocigedgicgonaaDoor
