/- The document's own why, Split and Grow (layer 8), by contracts. -/
import Derived.Test.YtkkmfacngmginaaDoorInAskB
import Derived.Test.YtkkmfacngmginaaDoorInGrowN
namespace Go.Proofs.YtkkmfacngmginaaDoor
open Go.RowKit

/-- a record's value, its cells left closed -/
structure RecA (w : World) (cs : List Value) (d : RecD) : Prop where
  len : cs.length = 15
  one : cs.toArray.all (fun x => x.oneCell') = true
  rd : RecV w (.agg cs.toArray) d
theorem RecA.below {w w' : World} {cs : List Value} {d : RecD} (h : RecA w cs d) (hs : Below w.heap.size w w') : RecA w' cs d := ⟨h.len, h.one, h.rd.below hs⟩
theorem RecA.of {w : World} {sc : Sc} {ra ea : Option Addr} {rn rc en ec : Nat} {rows : List Rw} {ents : List En} (hr : SV lRow w (.slice ra rn rc) rows) (he : SV lEnt w (.slice ea en ec) ents) : RecA w (recCells sc (.slice ra rn rc) (.slice ea en ec)) ⟨sc, rows, ents⟩ :=
  ⟨rfl, rec_one .., ⟨_, _, rfl, hr, he⟩⟩
theorem RecA.zero (w : World) : RecA w (recCells Sc.zero (.slice none 0 0) (.slice none 0 0)) RecD.zero := RecA.of (SV.nil _ _) (SV.nil _ _)
theorem RecA.of_recO {base : Nat} {w : World} {u : Value} {r : RecD} (h : RecO base w u r) : ∃ cs, u = .agg cs.toArray ∧ RecA w cs r := by
  obtain ⟨ra, rc, ea, ec, rfl, ho⟩ := h.open
  exact ⟨recCells r.sc (.slice ra r.rows.length rc) (.slice ea r.ents.length ec), rfl, RecA.of ho.rows.sv ho.ents.sv⟩
set_option maxRecDepth 100000 in
set_option maxHeartbeats 4000000 in
theorem refWhy_any (v : IvD) (a : Option Addr) (n c : Nat) (w : World) (hn : v.ents.length = n) :
    Calls Tryd.prog 47 #[ivVal v (.slice a n c)] w fun ev w' => ev = .returned (.int .i64 (whyI v)) ∧ Below w.heap.size w w' := by
  have B0 := Lib.hid (alloc_below0 w (ivObjR v (.slice a n c)))
  unfold ivObjR at B0
  obtain ⟨hb, hhb⟩ : ∃ b, v.held = b := ⟨_, rfl⟩
  have WH := Lib.hid (show whyI v = if hb = true then 13 else if n < 2 then 2 else 0 by unfold whyI; rw [hhb, hn])
  rw [WH.out]
  unfold ivVal
  rw [hhb] at B0 ⊢
  clear hhb hn WH
  cases hb with
  | true =>
    rw [if_pos rfl]
    go_enter Tryd.func47, Tryd.ntmps47
    go_wp2
    go_ret
    exact ⟨rfl, B0.out⟩
  | false =>
    rw [if_neg (by decide)]
    by_cases h2 : n < 2
    · rw [if_pos h2]
      go_enter Tryd.func47, Tryd.ntmps47
      go_wp2
      go_ret
      exact ⟨rfl, B0.out⟩
    · rw [if_neg h2]
      go_enter Tryd.func47, Tryd.ntmps47
      go_wp2
      go_ret
      exact ⟨rfl, B0.out⟩
set_option maxRecDepth 100000 in
set_option maxHeartbeats 4000000 in
theorem refSplit_no (v : IvD) (a : Option Addr) (n c : Nat) (p : Int) (w : World) (hn : v.ents.length = n) (hw : whyI v ≠ 0) :
    Calls Tryd.prog 19 #[ivVal v (.slice a n c), .int .i64 p] w fun ev w' => ev = .returned (.tuple #[.agg (recCells Sc.zero (.slice none 0 0) (.slice none 0 0)).toArray, .agg (recCells Sc.zero (.slice none 0 0) (.slice none 0 0)).toArray, .int .i64 (whyI v)]) ∧ Below w.heap.size w w' := by
  obtain ⟨W0, hW0⟩ : ∃ W, W = (((w.alloc (ivObjR v (.slice a n c))).alloc recZ).alloc recZ) := ⟨_, rfl⟩
  have q0 := alloc_below0 w (ivObjR v (.slice a n c))
  have q1 := q0.trans ((alloc_below0 (w.alloc (ivObjR v (.slice a n c))) recZ).mono q0.size)
  have q2 := q1.trans ((alloc_below0 ((w.alloc (ivObjR v (.slice a n c))).alloc recZ) recZ).mono q1.size)
  have B0 := Lib.hid (show Below w.heap.size w W0 by rw [hW0]; exact q2)
  have H0_0 := Lib.hid (show HB (w.heap.size) (ivObjR v (.slice a n c)) W0 by rw [hW0]; exact (((HB.new (ivObjR v (.slice a n c)) w).below (alloc_below0 (w.alloc (ivObjR v (.slice a n c))) recZ)).below (alloc_below0 ((w.alloc (ivObjR v (.slice a n c))).alloc recZ) recZ)))
  have H1_0 := Lib.hid (show HB (w.heap.size + 1) recZ W0 by rw [hW0, show w.heap.size + 1 = (w.alloc (ivObjR v (.slice a n c))).heap.size from by simp]; exact ((HB.new recZ (w.alloc (ivObjR v (.slice a n c)))).below (alloc_below0 ((w.alloc (ivObjR v (.slice a n c))).alloc recZ) recZ)))
  have H2_0 := Lib.hid (show HB (w.heap.size + 1 + 1) recZ W0 by rw [hW0, show w.heap.size + 1 + 1 = ((w.alloc (ivObjR v (.slice a n c))).alloc recZ).heap.size from by simp]; exact (HB.new recZ ((w.alloc (ivObjR v (.slice a n c))).alloc recZ)))
  have ZS := Lib.hid (show W0.heap.size = w.heap.size + 3 by rw [hW0]; simp)
  clear q0 q1 q2
  unfold ivObjR recZ at hW0
  obtain ⟨y, hy⟩ : ∃ y, whyI v = y := ⟨_, rfl⟩
  have fw := fun w => refWhy_any v a n c w hn
  rw [hy] at fw hw ⊢
  have e1 : (y != 0) = true := by rw [bne_iff_ne]; exact hw
  clear hy hw
  unfold ivVal at fw ⊢
  go_enter Tryd.func19, Tryd.ntmps19
  go_wp2_with fail
  rw [← hW0]
  clear hW0
  refine (fw _).mono ?_
  rintro ev w1 ⟨rfl, hs⟩
  have B1 := Lib.hid (B0.out.trans (hs.mono B0.out.size))
  have H0_1 := Lib.hid (H0_0.out.below hs)
  have H1_1 := Lib.hid (H1_0.out.below hs)
  have H2_1 := Lib.hid (H2_0.out.below hs)
  clear hs
  have v_0 := H0_1.out.cell 0
  have v_1 := H0_1.out.cell 1
  have v_2 := H0_1.out.cell 2
  have v_3 := H0_1.out.cell 3
  have v_4 := H0_1.out.cell 4
  have v_5 := H0_1.out.cell 5
  have v_6 := H0_1.out.cell 6
  have v_7 := H0_1.out.cell 7
  have v_8 := H0_1.out.cell 8
  simp at v_0 v_1 v_2 v_3 v_4 v_5 v_6 v_7 v_8
  go_wp2_with fail
  refine (fw _).mono ?_
  rintro ev w2 ⟨rfl, hs⟩
  clear v_0 v_1 v_2 v_3 v_4 v_5 v_6 v_7 v_8
  have B2 := Lib.hid (B1.out.trans (hs.mono B1.out.size))
  have H1_2 := Lib.hid (H1_1.out.below hs)
  have H2_2 := Lib.hid (H2_1.out.below hs)
  clear hs
  have B3 := Lib.hid (show Below w.heap.size w (World.setCells w2 (w.heap.size + 1) 0 (recCells Sc.zero (.slice none 0 0) (.slice none 0 0)).toArray.toList) from below_setCells (b := w.heap.size + 1) (by omega) (recCells Sc.zero (.slice none 0 0) (.slice none 0 0)) 0 _ B2.out)
  have H1_3 := Lib.hid (show HB (w.heap.size + 1) (.cells (recCells Sc.zero (.slice none 0 0) (.slice none 0 0)).toArray 32) (World.setCells w2 (w.heap.size + 1) 0 (recCells Sc.zero (.slice none 0 0) (.slice none 0 0)).toArray.toList) from H1_2.out.sets (recCells Sc.zero (.slice none 0 0) (.slice none 0 0)) rfl)
  have H2_3 := Lib.hid (show HB (w.heap.size + 1 + 1) recZ (World.setCells w2 (w.heap.size + 1) 0 (recCells Sc.zero (.slice none 0 0) (.slice none 0 0)).toArray.toList) from H2_2.out.off (b2 := w.heap.size + 1) (by omega) (recCells Sc.zero (.slice none 0 0) (.slice none 0 0)) 0)
  have B4 := Lib.hid (show Below w.heap.size w (World.setCells (World.setCells w2 (w.heap.size + 1) 0 (recCells Sc.zero (.slice none 0 0) (.slice none 0 0)).toArray.toList) (w.heap.size + 1 + 1) 0 (recCells Sc.zero (.slice none 0 0) (.slice none 0 0)).toArray.toList) from below_setCells (b := w.heap.size + 1 + 1) (by omega) (recCells Sc.zero (.slice none 0 0) (.slice none 0 0)) 0 _ B3.out)
  have H1_4 := Lib.hid (show HB (w.heap.size + 1) (.cells (recCells Sc.zero (.slice none 0 0) (.slice none 0 0)).toArray 32) (World.setCells (World.setCells w2 (w.heap.size + 1) 0 (recCells Sc.zero (.slice none 0 0) (.slice none 0 0)).toArray.toList) (w.heap.size + 1 + 1) 0 (recCells Sc.zero (.slice none 0 0) (.slice none 0 0)).toArray.toList) from H1_3.out.off (b2 := w.heap.size + 1 + 1) (by omega) (recCells Sc.zero (.slice none 0 0) (.slice none 0 0)) 0)
  have H2_4 := Lib.hid (show HB (w.heap.size + 1 + 1) (.cells (recCells Sc.zero (.slice none 0 0) (.slice none 0 0)).toArray 32) (World.setCells (World.setCells w2 (w.heap.size + 1) 0 (recCells Sc.zero (.slice none 0 0) (.slice none 0 0)).toArray.toList) (w.heap.size + 1 + 1) 0 (recCells Sc.zero (.slice none 0 0) (.slice none 0 0)).toArray.toList) from H2_3.out.sets (recCells Sc.zero (.slice none 0 0) (.slice none 0 0)) rfl)
  go_wp2_with (first | (refine wpList_store_mid rfl 32 (.tmp 4) (.tmp 12) rfl (w.heap.size + 1) 0 (recCells Sc.zero (.slice none 0 0) (.slice none 0 0)).toArray rfl rfl ?_ recInfoS (rec_one ..) ?_; exact H1_2.out.there 15 (Nat.le_refl _)) | (refine wpList_store_mid rfl 32 (.tmp 5) (.tmp 13) rfl (w.heap.size + 1 + 1) 0 (recCells Sc.zero (.slice none 0 0) (.slice none 0 0)).toArray rfl rfl ?_ recInfoS (rec_one ..) ?_; exact H2_3.out.there 15 (Nat.le_refl _)))
  refine bodyPost_ret (v := .tuple #[.agg (recCells Sc.zero (.slice none 0 0) (.slice none 0 0)).toArray, .agg (recCells Sc.zero (.slice none 0 0) (.slice none 0 0)).toArray, .int .i64 y]) (results_cellCCT rfl _ _ (w.heap.size + 1) (w.heap.size + 1 + 1) _ _ _ _ _ rfl rfl rfl (rec_range H1_4.out.b) (rec_range H2_4.out.b) Tryd.underlying32 rfl recInfoS Tryd.underlying32 rfl recInfoS) rfl ?_
  exact ⟨rfl, B4.out⟩
set_option maxRecDepth 100000 in
set_option maxHeartbeats 4000000 in
theorem refGrow_no (v : IvD) (a : Option Addr) (n c : Nat) (l r : Int) (w : World) (hn : v.ents.length = n) (hw : whyI v ≠ 0) :
    Calls Tryd.prog 21 #[ivVal v (.slice a n c), .int .i64 l, .int .i64 r] w fun ev w' => ev = .returned (.tuple #[.agg (recCells Sc.zero (.slice none 0 0) (.slice none 0 0)).toArray, .agg (recCells Sc.zero (.slice none 0 0) (.slice none 0 0)).toArray, .agg (recCells Sc.zero (.slice none 0 0) (.slice none 0 0)).toArray, .int .i64 (whyI v)]) ∧ Below w.heap.size w w' := by
  obtain ⟨W0, hW0⟩ : ∃ W, W = ((((w.alloc (ivObjR v (.slice a n c))).alloc recZ).alloc recZ).alloc recZ) := ⟨_, rfl⟩
  have q0 := alloc_below0 w (ivObjR v (.slice a n c))
  have q1 := q0.trans ((alloc_below0 (w.alloc (ivObjR v (.slice a n c))) recZ).mono q0.size)
  have q2 := q1.trans ((alloc_below0 ((w.alloc (ivObjR v (.slice a n c))).alloc recZ) recZ).mono q1.size)
  have q3 := q2.trans ((alloc_below0 (((w.alloc (ivObjR v (.slice a n c))).alloc recZ).alloc recZ) recZ).mono q2.size)
  have B0 := Lib.hid (show Below w.heap.size w W0 by rw [hW0]; exact q3)
  have H0_0 := Lib.hid (show HB (w.heap.size) (ivObjR v (.slice a n c)) W0 by rw [hW0]; exact ((((HB.new (ivObjR v (.slice a n c)) w).below (alloc_below0 (w.alloc (ivObjR v (.slice a n c))) recZ)).below (alloc_below0 ((w.alloc (ivObjR v (.slice a n c))).alloc recZ) recZ)).below (alloc_below0 (((w.alloc (ivObjR v (.slice a n c))).alloc recZ).alloc recZ) recZ)))
  have H1_0 := Lib.hid (show HB (w.heap.size + 1) recZ W0 by rw [hW0, show w.heap.size + 1 = (w.alloc (ivObjR v (.slice a n c))).heap.size from by simp]; exact (((HB.new recZ (w.alloc (ivObjR v (.slice a n c)))).below (alloc_below0 ((w.alloc (ivObjR v (.slice a n c))).alloc recZ) recZ)).below (alloc_below0 (((w.alloc (ivObjR v (.slice a n c))).alloc recZ).alloc recZ) recZ)))
  have H2_0 := Lib.hid (show HB (w.heap.size + 1 + 1) recZ W0 by rw [hW0, show w.heap.size + 1 + 1 = ((w.alloc (ivObjR v (.slice a n c))).alloc recZ).heap.size from by simp]; exact ((HB.new recZ ((w.alloc (ivObjR v (.slice a n c))).alloc recZ)).below (alloc_below0 (((w.alloc (ivObjR v (.slice a n c))).alloc recZ).alloc recZ) recZ)))
  have H3_0 := Lib.hid (show HB (w.heap.size + 1 + 1 + 1) recZ W0 by rw [hW0, show w.heap.size + 1 + 1 + 1 = (((w.alloc (ivObjR v (.slice a n c))).alloc recZ).alloc recZ).heap.size from by simp]; exact (HB.new recZ (((w.alloc (ivObjR v (.slice a n c))).alloc recZ).alloc recZ)))
  have ZS := Lib.hid (show W0.heap.size = w.heap.size + 4 by rw [hW0]; simp)
  clear q0 q1 q2 q3
  unfold ivObjR recZ at hW0
  obtain ⟨y, hy⟩ : ∃ y, whyI v = y := ⟨_, rfl⟩
  have fw := fun w => refWhy_any v a n c w hn
  rw [hy] at fw hw ⊢
  have e1 : (y != 0) = true := by rw [bne_iff_ne]; exact hw
  clear hy hw
  unfold ivVal at fw ⊢
  go_enter Tryd.func21, Tryd.ntmps21
  go_wp2_with fail
  rw [← hW0]
  clear hW0
  refine (fw _).mono ?_
  rintro ev w1 ⟨rfl, hs⟩
  have B1 := Lib.hid (B0.out.trans (hs.mono B0.out.size))
  have H0_1 := Lib.hid (H0_0.out.below hs)
  have H1_1 := Lib.hid (H1_0.out.below hs)
  have H2_1 := Lib.hid (H2_0.out.below hs)
  have H3_1 := Lib.hid (H3_0.out.below hs)
  clear hs
  have v_0 := H0_1.out.cell 0
  have v_1 := H0_1.out.cell 1
  have v_2 := H0_1.out.cell 2
  have v_3 := H0_1.out.cell 3
  have v_4 := H0_1.out.cell 4
  have v_5 := H0_1.out.cell 5
  have v_6 := H0_1.out.cell 6
  have v_7 := H0_1.out.cell 7
  have v_8 := H0_1.out.cell 8
  simp at v_0 v_1 v_2 v_3 v_4 v_5 v_6 v_7 v_8
  go_wp2_with fail
  refine (fw _).mono ?_
  rintro ev w2 ⟨rfl, hs⟩
  clear v_0 v_1 v_2 v_3 v_4 v_5 v_6 v_7 v_8
  have B2 := Lib.hid (B1.out.trans (hs.mono B1.out.size))
  have H1_2 := Lib.hid (H1_1.out.below hs)
  have H2_2 := Lib.hid (H2_1.out.below hs)
  have H3_2 := Lib.hid (H3_1.out.below hs)
  clear hs
  have B3 := Lib.hid (show Below w.heap.size w (World.setCells w2 (w.heap.size + 1) 0 (recCells Sc.zero (.slice none 0 0) (.slice none 0 0)).toArray.toList) from below_setCells (b := w.heap.size + 1) (by omega) (recCells Sc.zero (.slice none 0 0) (.slice none 0 0)) 0 _ B2.out)
  have H1_3 := Lib.hid (show HB (w.heap.size + 1) (.cells (recCells Sc.zero (.slice none 0 0) (.slice none 0 0)).toArray 32) (World.setCells w2 (w.heap.size + 1) 0 (recCells Sc.zero (.slice none 0 0) (.slice none 0 0)).toArray.toList) from H1_2.out.sets (recCells Sc.zero (.slice none 0 0) (.slice none 0 0)) rfl)
  have H2_3 := Lib.hid (show HB (w.heap.size + 1 + 1) recZ (World.setCells w2 (w.heap.size + 1) 0 (recCells Sc.zero (.slice none 0 0) (.slice none 0 0)).toArray.toList) from H2_2.out.off (b2 := w.heap.size + 1) (by omega) (recCells Sc.zero (.slice none 0 0) (.slice none 0 0)) 0)
  have H3_3 := Lib.hid (show HB (w.heap.size + 1 + 1 + 1) recZ (World.setCells w2 (w.heap.size + 1) 0 (recCells Sc.zero (.slice none 0 0) (.slice none 0 0)).toArray.toList) from H3_2.out.off (b2 := w.heap.size + 1) (by omega) (recCells Sc.zero (.slice none 0 0) (.slice none 0 0)) 0)
  have B4 := Lib.hid (show Below w.heap.size w (World.setCells (World.setCells w2 (w.heap.size + 1) 0 (recCells Sc.zero (.slice none 0 0) (.slice none 0 0)).toArray.toList) (w.heap.size + 1 + 1) 0 (recCells Sc.zero (.slice none 0 0) (.slice none 0 0)).toArray.toList) from below_setCells (b := w.heap.size + 1 + 1) (by omega) (recCells Sc.zero (.slice none 0 0) (.slice none 0 0)) 0 _ B3.out)
  have H1_4 := Lib.hid (show HB (w.heap.size + 1) (.cells (recCells Sc.zero (.slice none 0 0) (.slice none 0 0)).toArray 32) (World.setCells (World.setCells w2 (w.heap.size + 1) 0 (recCells Sc.zero (.slice none 0 0) (.slice none 0 0)).toArray.toList) (w.heap.size + 1 + 1) 0 (recCells Sc.zero (.slice none 0 0) (.slice none 0 0)).toArray.toList) from H1_3.out.off (b2 := w.heap.size + 1 + 1) (by omega) (recCells Sc.zero (.slice none 0 0) (.slice none 0 0)) 0)
  have H2_4 := Lib.hid (show HB (w.heap.size + 1 + 1) (.cells (recCells Sc.zero (.slice none 0 0) (.slice none 0 0)).toArray 32) (World.setCells (World.setCells w2 (w.heap.size + 1) 0 (recCells Sc.zero (.slice none 0 0) (.slice none 0 0)).toArray.toList) (w.heap.size + 1 + 1) 0 (recCells Sc.zero (.slice none 0 0) (.slice none 0 0)).toArray.toList) from H2_3.out.sets (recCells Sc.zero (.slice none 0 0) (.slice none 0 0)) rfl)
  have H3_4 := Lib.hid (show HB (w.heap.size + 1 + 1 + 1) recZ (World.setCells (World.setCells w2 (w.heap.size + 1) 0 (recCells Sc.zero (.slice none 0 0) (.slice none 0 0)).toArray.toList) (w.heap.size + 1 + 1) 0 (recCells Sc.zero (.slice none 0 0) (.slice none 0 0)).toArray.toList) from H3_3.out.off (b2 := w.heap.size + 1 + 1) (by omega) (recCells Sc.zero (.slice none 0 0) (.slice none 0 0)) 0)
  have B5 := Lib.hid (show Below w.heap.size w (World.setCells (World.setCells (World.setCells w2 (w.heap.size + 1) 0 (recCells Sc.zero (.slice none 0 0) (.slice none 0 0)).toArray.toList) (w.heap.size + 1 + 1) 0 (recCells Sc.zero (.slice none 0 0) (.slice none 0 0)).toArray.toList) (w.heap.size + 1 + 1 + 1) 0 (recCells Sc.zero (.slice none 0 0) (.slice none 0 0)).toArray.toList) from below_setCells (b := w.heap.size + 1 + 1 + 1) (by omega) (recCells Sc.zero (.slice none 0 0) (.slice none 0 0)) 0 _ B4.out)
  have H1_5 := Lib.hid (show HB (w.heap.size + 1) (.cells (recCells Sc.zero (.slice none 0 0) (.slice none 0 0)).toArray 32) (World.setCells (World.setCells (World.setCells w2 (w.heap.size + 1) 0 (recCells Sc.zero (.slice none 0 0) (.slice none 0 0)).toArray.toList) (w.heap.size + 1 + 1) 0 (recCells Sc.zero (.slice none 0 0) (.slice none 0 0)).toArray.toList) (w.heap.size + 1 + 1 + 1) 0 (recCells Sc.zero (.slice none 0 0) (.slice none 0 0)).toArray.toList) from H1_4.out.off (b2 := w.heap.size + 1 + 1 + 1) (by omega) (recCells Sc.zero (.slice none 0 0) (.slice none 0 0)) 0)
  have H2_5 := Lib.hid (show HB (w.heap.size + 1 + 1) (.cells (recCells Sc.zero (.slice none 0 0) (.slice none 0 0)).toArray 32) (World.setCells (World.setCells (World.setCells w2 (w.heap.size + 1) 0 (recCells Sc.zero (.slice none 0 0) (.slice none 0 0)).toArray.toList) (w.heap.size + 1 + 1) 0 (recCells Sc.zero (.slice none 0 0) (.slice none 0 0)).toArray.toList) (w.heap.size + 1 + 1 + 1) 0 (recCells Sc.zero (.slice none 0 0) (.slice none 0 0)).toArray.toList) from H2_4.out.off (b2 := w.heap.size + 1 + 1 + 1) (by omega) (recCells Sc.zero (.slice none 0 0) (.slice none 0 0)) 0)
  have H3_5 := Lib.hid (show HB (w.heap.size + 1 + 1 + 1) (.cells (recCells Sc.zero (.slice none 0 0) (.slice none 0 0)).toArray 32) (World.setCells (World.setCells (World.setCells w2 (w.heap.size + 1) 0 (recCells Sc.zero (.slice none 0 0) (.slice none 0 0)).toArray.toList) (w.heap.size + 1 + 1) 0 (recCells Sc.zero (.slice none 0 0) (.slice none 0 0)).toArray.toList) (w.heap.size + 1 + 1 + 1) 0 (recCells Sc.zero (.slice none 0 0) (.slice none 0 0)).toArray.toList) from H3_4.out.sets (recCells Sc.zero (.slice none 0 0) (.slice none 0 0)) rfl)
  go_wp2_with (first | (refine wpList_store_mid rfl 32 (.tmp 6) (.tmp 20) rfl (w.heap.size + 1) 0 (recCells Sc.zero (.slice none 0 0) (.slice none 0 0)).toArray rfl rfl ?_ recInfoS (rec_one ..) ?_; exact H1_2.out.there 15 (Nat.le_refl _)) | (refine wpList_store_mid rfl 32 (.tmp 7) (.tmp 21) rfl (w.heap.size + 1 + 1) 0 (recCells Sc.zero (.slice none 0 0) (.slice none 0 0)).toArray rfl rfl ?_ recInfoS (rec_one ..) ?_; exact H2_3.out.there 15 (Nat.le_refl _)) | (refine wpList_store_mid rfl 32 (.tmp 8) (.tmp 22) rfl (w.heap.size + 1 + 1 + 1) 0 (recCells Sc.zero (.slice none 0 0) (.slice none 0 0)).toArray rfl rfl ?_ recInfoS (rec_one ..) ?_; exact H3_4.out.there 15 (Nat.le_refl _)))
  refine bodyPost_ret (v := .tuple #[.agg (recCells Sc.zero (.slice none 0 0) (.slice none 0 0)).toArray, .agg (recCells Sc.zero (.slice none 0 0) (.slice none 0 0)).toArray, .agg (recCells Sc.zero (.slice none 0 0) (.slice none 0 0)).toArray, .int .i64 y]) (results_cellC3T rfl _ _ (w.heap.size + 1) (w.heap.size + 1 + 1) (w.heap.size + 1 + 1 + 1) _ _ _ _ _ rfl rfl rfl rfl (rec_range H1_5.out.b) (rec_range H2_5.out.b) (rec_range H3_5.out.b) Tryd.underlying32 rfl recInfoS recInfoS recInfoS) rfl ?_
  exact ⟨rfl, B5.out⟩
set_option maxRecDepth 100000 in
set_option maxHeartbeats 4000000 in
theorem refSplit_yes (v : IvD) (a : Option Addr) (c : Nat) (p : Int) (w : World) (hv : ViewW w v a c) (hw : whyI v = 0) :
    Calls Tryd.prog 19 #[ivVal v (.slice a v.ents.length c), .int .i64 p] w fun ev w' => ∃ cs1 cs2, ev = .returned (.tuple #[.agg cs1.toArray, .agg cs2.toArray, .int .i64 0]) ∧ (∀ W, SV lEnt W (.slice a v.ents.length c) v.ents → RecA W cs1 (splitI9 (halfK v) p) ∧ RecA W cs2 (rightR v)) ∧ Below w.heap.size w w' := by
  obtain ⟨-, h2⟩ := why_two hw
  obtain ⟨_, _, e1, hlc, hcm⟩ := hv.sv.lenform
  obtain ⟨rfl, -, rfl⟩ := Value.slice.inj e1
  obtain ⟨b, off, ha⟩ := hv.sv.addr (by omega)
  subst ha
  clear e1
  obtain ⟨h, hhe⟩ : ∃ h, v.ents.length / 2 = h := ⟨_, rfl⟩
  have hk : halfK v = (v.ents.getD h e0).1 := by unfold halfK; rw [hhe]
  have hx := mem_at (es := v.ents) (i := h) (by omega)
  obtain ⟨⟨kx, px⟩, he⟩ : ∃ e, v.ents.getD h e0 = e := ⟨_, rfl⟩
  rw [he] at hx hk
  simp only at hk
  have RR := Lib.hid (show rightR v = baseI7 kx v.high v.unb v.right (v.ents.drop h) by unfold rightR; rw [hk, hhe])
  have VW := Lib.hid hv
  have X0 := Lib.hid (hv.sv.cellAt (j := 0) hx rfl)
  simp only [lEnt, Nat.add_zero] at X0
  have TK := Lib.hid (hv.sv.takeV (k := h) (by omega))
  have DK := Lib.hid (show ∀ W, SV lEnt W (.slice (some ⟨b, off, none⟩) v.ents.length c) v.ents → SV lEnt W (.slice (some ⟨b, off + h * 2, none⟩) (v.ents.length - h) (c - h)) (v.ents.drop h) from fun W hW => hW.dropV (by omega) (by omega))
  obtain ⟨n, hn⟩ : ∃ n, v.ents.length = n := ⟨_, rfl⟩
  have LN := Lib.hid hn
  have fw := fun w => refWhy_any v (some ⟨b, off, none⟩) n c w hn
  rw [hw] at fw
  rw [hn] at hlc h2 hhe DK ⊢
  unfold maxLen at hcm
  have i1 : (n : Int) / 2 = (h : Int) := by omega
  have i2 : (0 : Int) ≤ (h : Int) := by omega
  have i3 : (h : Int) < (n : Int) := by omega
  have i4 : (h : Int) ≤ (c : Int) := by omega
  have i5 : (h : Int) ≤ (n : Int) := by omega
  have i6 : (n : Int) ≤ (c : Int) := by omega
  have i7 : h ≤ c := by omega
  have i8 : ¬ c = h := by omega
  have i9 : (2 : Int) ≤ (n : Int) := by omega
  obtain ⟨W0, hW0⟩ : ∃ W, W = (((w.alloc (ivObjR v (.slice (some ⟨b, off, none⟩) n c))).alloc recZ).alloc recZ) := ⟨_, rfl⟩
  have q0 := alloc_below0 w (ivObjR v (.slice (some ⟨b, off, none⟩) n c))
  have q1 := q0.trans ((alloc_below0 (w.alloc (ivObjR v (.slice (some ⟨b, off, none⟩) n c))) recZ).mono q0.size)
  have q2 := q1.trans ((alloc_below0 ((w.alloc (ivObjR v (.slice (some ⟨b, off, none⟩) n c))).alloc recZ) recZ).mono q1.size)
  have B0 := Lib.hid (show Below w.heap.size w W0 by rw [hW0]; exact q2)
  have H0_0 := Lib.hid (show HB (w.heap.size) (ivObjR v (.slice (some ⟨b, off, none⟩) n c)) W0 by rw [hW0]; exact (((HB.new (ivObjR v (.slice (some ⟨b, off, none⟩) n c)) w).below (alloc_below0 (w.alloc (ivObjR v (.slice (some ⟨b, off, none⟩) n c))) recZ)).below (alloc_below0 ((w.alloc (ivObjR v (.slice (some ⟨b, off, none⟩) n c))).alloc recZ) recZ)))
  have H1_0 := Lib.hid (show HB (w.heap.size + 1) recZ W0 by rw [hW0, show w.heap.size + 1 = (w.alloc (ivObjR v (.slice (some ⟨b, off, none⟩) n c))).heap.size from by simp]; exact ((HB.new recZ (w.alloc (ivObjR v (.slice (some ⟨b, off, none⟩) n c)))).below (alloc_below0 ((w.alloc (ivObjR v (.slice (some ⟨b, off, none⟩) n c))).alloc recZ) recZ)))
  have H2_0 := Lib.hid (show HB (w.heap.size + 1 + 1) recZ W0 by rw [hW0, show w.heap.size + 1 + 1 = ((w.alloc (ivObjR v (.slice (some ⟨b, off, none⟩) n c))).alloc recZ).heap.size from by simp]; exact (HB.new recZ ((w.alloc (ivObjR v (.slice (some ⟨b, off, none⟩) n c))).alloc recZ)))
  have ZS := Lib.hid (show W0.heap.size = w.heap.size + 3 by rw [hW0]; simp)
  clear q0 q1 q2
  unfold ivObjR recZ at hW0
  clear hv hn hx he hhe hw h2
  unfold ivVal at fw ⊢
  rw [hk]
  clear hk
  go_enter Tryd.func19, Tryd.ntmps19
  go_wp2_with fail
  rw [← hW0]
  clear hW0
  refine (fw _).mono ?_
  rintro ev w1 ⟨rfl, hs⟩
  have B1 := Lib.hid (B0.out.trans (hs.mono B0.out.size))
  have S1 := Lib.hid hs.size
  have H0_1 := Lib.hid (H0_0.out.below hs)
  have H1_1 := Lib.hid (H1_0.out.below hs)
  have H2_1 := Lib.hid (H2_0.out.below hs)
  clear hs fw
  have v_0 := H0_1.out.cell 0
  have v_1 := H0_1.out.cell 1
  have v_2 := H0_1.out.cell 2
  have v_3 := H0_1.out.cell 3
  have v_4 := H0_1.out.cell 4
  have v_5 := H0_1.out.cell 5
  have v_6 := H0_1.out.cell 6
  have v_7 := H0_1.out.cell 7
  have v_8 := H0_1.out.cell 8
  simp at v_0 v_1 v_2 v_3 v_4 v_5 v_6 v_7 v_8
  have x0 := cell_step X0.out B1.out
  go_wp2_with fail
  clear v_0 v_1 v_2 v_3 v_4 v_5 v_6 v_7 v_8 x0
  have SD := Lib.hid (show (fun w' => w'.cell? ⟨w.heap.size, 1, none⟩ = some (.string v.high) ∧ w'.cell? ⟨w.heap.size, 2, none⟩ = some (.bool v.unb) ∧ w'.cell? ⟨w.heap.size, 3, none⟩ = some (.int .i64 v.right) ∧ w'.cell? ⟨w.heap.size, 4, none⟩ = some (.slice (some ⟨b, off, none⟩) n c)) w1.drew from ⟨H0_1.out.drew.cell 1, H0_1.out.drew.cell 2, H0_1.out.drew.cell 3, H0_1.out.drew.cell 4⟩)
  refine anyH_region (fun w' => w'.cell? ⟨w.heap.size, 1, none⟩ = some (.string v.high) ∧ w'.cell? ⟨w.heap.size, 2, none⟩ = some (.bool v.unb) ∧ w'.cell? ⟨w.heap.size, 3, none⟩ = some (.int .i64 v.right) ∧ w'.cell? ⟨w.heap.size, 4, none⟩ = some (.slice (some ⟨b, off, none⟩) n c)) (by kernel_rfl) ?_
  refine wpAnyH_take (i := 0) (oi := ⟨some 26, _, _, _, _, _⟩) (v := ?va0) rfl (by kernel_rfl) (by kernel_rfl) (by kernel_rfl) (fun _ _ _ h => h) (Or.inl ⟨by rfl, ?hya0⟩) SD.out ?resta0
  case hya0 => (intro w hSw; go_simp; try (with_reducible rfl))
  simp only [Act.put, List.setIfInBounds_toArray, List.set_cons_zero, List.set_cons_succ]
  refine wpAnyH_take (i := 1) (oi := ⟨some 27, _, _, _, _, _⟩) (v := ?va1) rfl (by kernel_rfl) (by kernel_rfl) (by kernel_rfl) (fun _ _ _ h => h) (Or.inl ⟨by rfl, ?hya1⟩) SD.out ?resta1
  case hya1 => (intro w hSw; go_simp; try (with_reducible rfl))
  simp only [Act.put, List.setIfInBounds_toArray, List.set_cons_zero, List.set_cons_succ]
  refine wpAnyH_take (i := 2) (oi := ⟨some 28, _, _, _, _, _⟩) (v := ?va2) rfl (by kernel_rfl) (by kernel_rfl) (by kernel_rfl) (fun _ _ _ h => h) (Or.inl ⟨by rfl, ?hya2⟩) SD.out ?resta2
  case hya2 => (intro w hSw; go_simp; try (with_reducible rfl))
  simp only [Act.put, List.setIfInBounds_toArray, List.set_cons_zero, List.set_cons_succ]
  refine wpAnyH_take (i := 3) (oi := ⟨some 29, _, _, _, _, _⟩) (v := ?va3) rfl (by kernel_rfl) (by kernel_rfl) (by kernel_rfl) (fun _ _ _ h => h) (Or.inl ⟨by rfl, ?hya3⟩) SD.out ?resta3
  case hya3 => (intro w hSw; go_simp; try (with_reducible rfl))
  simp only [Act.put, List.setIfInBounds_toArray, List.set_cons_zero, List.set_cons_succ]
  refine wpAnyH_take (i := 4) (oi := ⟨some 30, _, _, _, _, _⟩) (v := ?va4) rfl (by kernel_rfl) (by kernel_rfl) (by kernel_rfl) (fun _ _ _ h => h) (Or.inl ⟨by rfl, ?hya4⟩) SD.out ?resta4
  case hya4 => (intro w hSw; go_simp; try (with_reducible rfl))
  simp only [Act.put, List.setIfInBounds_toArray, List.set_cons_zero, List.set_cons_succ]
  refine wpAnyH_take (i := 5) (oi := ⟨some 31, _, _, _, _, _⟩) (v := ?va5) rfl (by kernel_rfl) (by kernel_rfl) (by kernel_rfl) (fun _ _ _ h => h) (Or.inl ⟨by rfl, ?hya5⟩) SD.out ?resta5
  case hya5 => (intro w hSw; go_simp; try (with_reducible rfl))
  simp only [Act.put, List.setIfInBounds_toArray, List.set_cons_zero, List.set_cons_succ]
  refine wpAnyH_take (i := 6) (oi := ⟨some 32, _, _, _, _, _⟩) (v := ?va6) rfl (by kernel_rfl) (by kernel_rfl) (by kernel_rfl) (fun _ _ _ h => h) (Or.inl ⟨by rfl, ?hya6⟩) SD.out ?resta6
  case hya6 => (intro w hSw; go_simp; try (with_reducible rfl))
  simp only [Act.put, List.setIfInBounds_toArray, List.set_cons_zero, List.set_cons_succ]
  refine wpAnyH_take (i := 7) (oi := ⟨some 33, _, _, _, _, _⟩) (v := ?va7) rfl (by kernel_rfl) (by kernel_rfl) (by kernel_rfl) (fun _ _ _ h => h) (Or.inl ⟨by rfl, ?hya7⟩) SD.out ?resta7
  case hya7 => (intro w hSw; go_simp; try (with_reducible rfl))
  simp only [Act.put, List.setIfInBounds_toArray, List.set_cons_zero, List.set_cons_succ]
  refine wpAnyH_take (i := 8) (oi := ⟨some 34, _, _, _, _, _⟩) (v := ?va8) rfl (by kernel_rfl) (by kernel_rfl) (by kernel_rfl) (fun _ _ _ h => h) (Or.inl ⟨by rfl, ?hya8⟩) SD.out ?resta8
  case hya8 => (intro w hSw; go_simp; try (with_reducible rfl))
  simp only [Act.put, List.setIfInBounds_toArray, List.set_cons_zero, List.set_cons_succ]
  refine wpAnyH_take (i := 9) (oi := ⟨some 35, _, _, _, _, _⟩) (v := ?va9) rfl (by kernel_rfl) (by kernel_rfl) (by kernel_rfl) (fun _ _ _ h => h) (Or.inl ⟨by rfl, ?hya9⟩) SD.out ?resta9
  case hya9 => (intro w hSw; go_simp; try (with_reducible rfl))
  simp only [Act.put, List.setIfInBounds_toArray, List.set_cons_zero, List.set_cons_succ]
  refine wpAnyH_take (i := 10) (oi := ⟨some 36, _, _, _, _, _⟩) (v := ?va10) rfl (by kernel_rfl) (by kernel_rfl) (by kernel_rfl) (fun _ _ _ h => h) (Or.inl ⟨by rfl, ?hya10⟩) SD.out ?resta10
  case hya10 => (intro w hSw; go_simp; try (with_reducible rfl))
  simp only [Act.put, List.setIfInBounds_toArray, List.set_cons_zero, List.set_cons_succ]
  refine wpAnyH_take (i := 11) (oi := ⟨some 37, _, _, _, _, _⟩) (v := ?va11) rfl (by kernel_rfl) (by kernel_rfl) (by kernel_rfl) (fun _ _ _ h => h) (Or.inl ⟨by rfl, ?hya11⟩) SD.out ?resta11
  case hya11 => (intro w hSw; go_simp; try (with_reducible rfl))
  simp only [Act.put, List.setIfInBounds_toArray, List.set_cons_zero, List.set_cons_succ]
  refine wpAnyH_take (i := 12) (oi := ⟨some 38, _, _, _, _, _⟩) (v := ?va12) rfl (by kernel_rfl) (by kernel_rfl) (by kernel_rfl) (fun _ _ _ h => h) (Or.inl ⟨by rfl, ?hya12⟩) SD.out ?resta12
  case hya12 => (intro w hSw; go_simp; try (with_reducible rfl))
  simp only [Act.put, List.setIfInBounds_toArray, List.set_cons_zero, List.set_cons_succ]
  refine wpAnyH_take (i := 13) (oi := ⟨some 39, _, _, _, _, _⟩) (v := ?va13) rfl (by kernel_rfl) (by kernel_rfl) (by kernel_rfl) (fun _ _ _ h => h) (Or.inl ⟨by rfl, ?hya13⟩) SD.out ?resta13
  case hya13 => (intro w hSw; go_simp; try (with_reducible rfl))
  simp only [Act.put, List.setIfInBounds_toArray, List.set_cons_zero, List.set_cons_succ]
  refine wpAnyH_take (i := 14) (oi := ⟨some 40, _, _, _, _, _⟩) (v := ?va14) rfl (by kernel_rfl) (by kernel_rfl) (by kernel_rfl) (fun _ _ _ h => h) (Or.inl ⟨by rfl, ?hya14⟩) SD.out ?resta14
  case hya14 => (intro w hSw; go_simp; try (with_reducible rfl))
  simp only [Act.put, List.setIfInBounds_toArray, List.set_cons_zero, List.set_cons_succ]
  refine anyH_one (i := 15) (o := ⟨some 41, _, _, _, _, _⟩) (by kernel_rfl) rfl (fun K hK => ?_)
  rw [if_pos (by rfl)]
  go_simp
  refine (refBase_any (⟨kx, v.high, v.unb, v.right, v.ents.drop h, false, 0, 0, ⟨#[]⟩⟩ : IvD) (some ⟨b, off + h * 2, none⟩) (n - h) (c - h) _).mono ?_
  rintro ev w2 ⟨rfl, hs⟩
  have hs := (Below.refl w1.heap.size w1).drew.trans hs
  have B2 := Lib.hid (B1.out.trans (hs.mono B1.out.size))
  have H0_2 := Lib.hid (H0_1.out.below hs)
  have H1_2 := Lib.hid (H1_1.out.below hs)
  have H2_2 := Lib.hid (H2_1.out.below hs)
  clear hs
  refine hK.out _ _ ⟨H0_2.out.cell 1, H0_2.out.cell 2, H0_2.out.cell 3, H0_2.out.cell 4⟩ ?_
  clear hK K
  try simp only [Act.put, List.setIfInBounds_toArray, List.set_cons_zero, List.set_cons_succ]
  have B3 := Lib.hid (below_setCells (b := w.heap.size + 1) (show w.heap.size ≤ w.heap.size + 1 by omega) (recCells { Sc.zero with kind := 9, key := kx, page := p } (.slice none 0 0) (.slice none 0 0)) 0 _ B2.out)
  have H0_3 := Lib.hid (H0_2.out.off (b2 := w.heap.size + 1) (by omega) (recCells { Sc.zero with kind := 9, key := kx, page := p } (.slice none 0 0) (.slice none 0 0)) 0)
  have H1_3 := Lib.hid (H1_2.out.sets (recCells { Sc.zero with kind := 9, key := kx, page := p } (.slice none 0 0) (.slice none 0 0)) rfl)
  have H2_3 := Lib.hid (H2_2.out.off (b2 := w.heap.size + 1) (by omega) (recCells { Sc.zero with kind := 9, key := kx, page := p } (.slice none 0 0) (.slice none 0 0)) 0)
  refine anyH_one (i := 16) (o := ⟨none, _, _, _, _, _⟩) (by kernel_rfl) rfl (fun K hK => ?_)
  rw [if_pos (by rfl)]
  refine wp_store_mid 32 (.tmp 4) (.tmp 28) rfl (w.heap.size + 1) 0 (recCells { Sc.zero with kind := 9, key := kx, page := p } (.slice none 0 0) (.slice none 0 0)).toArray rfl rfl (H1_2.out.there 15 (Nat.le_refl _)) recInfoS (rec_one ..) ?_
  refine hK.out _ _ ⟨H0_3.out.cell 1, H0_3.out.cell 2, H0_3.out.cell 3, H0_3.out.cell 4⟩ ?_
  clear hK K
  try simp only [Act.put]
  generalize hG2 : World.setCells _ _ _ _ = G2 at *
  clear hG2
  have B4 := Lib.hid (below_setCells (b := w.heap.size + 1 + 1) (show w.heap.size ≤ w.heap.size + 1 + 1 by omega) (recCells (baseS (⟨kx, v.high, v.unb, v.right, v.ents.drop h, false, 0, 0, ⟨#[]⟩⟩ : IvD)) (.slice none 0 0) (.slice (some ⟨b, off + h * 2, none⟩) (n - h) (c - h))) 0 _ B3.out)
  have H0_4 := Lib.hid (H0_3.out.off (b2 := w.heap.size + 1 + 1) (by omega) (recCells (baseS (⟨kx, v.high, v.unb, v.right, v.ents.drop h, false, 0, 0, ⟨#[]⟩⟩ : IvD)) (.slice none 0 0) (.slice (some ⟨b, off + h * 2, none⟩) (n - h) (c - h))) 0)
  have H1_4 := Lib.hid (H1_3.out.off (b2 := w.heap.size + 1 + 1) (by omega) (recCells (baseS (⟨kx, v.high, v.unb, v.right, v.ents.drop h, false, 0, 0, ⟨#[]⟩⟩ : IvD)) (.slice none 0 0) (.slice (some ⟨b, off + h * 2, none⟩) (n - h) (c - h))) 0)
  have H2_4 := Lib.hid (H2_3.out.sets (recCells (baseS (⟨kx, v.high, v.unb, v.right, v.ents.drop h, false, 0, 0, ⟨#[]⟩⟩ : IvD)) (.slice none 0 0) (.slice (some ⟨b, off + h * 2, none⟩) (n - h) (c - h))) rfl)
  refine anyH_one (i := 17) (o := ⟨none, _, _, _, _, _⟩) (by kernel_rfl) rfl (fun K hK => ?_)
  rw [if_pos (by rfl)]
  refine wp_store_mid 32 (.tmp 5) (.tmp 41) rfl (w.heap.size + 1 + 1) 0 (recCells (baseS (⟨kx, v.high, v.unb, v.right, v.ents.drop h, false, 0, 0, ⟨#[]⟩⟩ : IvD)) (.slice none 0 0) (.slice (some ⟨b, off + h * 2, none⟩) (n - h) (c - h))).toArray rfl rfl (H2_3.out.there 15 (Nat.le_refl _)) recInfoS (rec_one ..) ?_
  refine hK.out _ _ ⟨H0_4.out.cell 1, H0_4.out.cell 2, H0_4.out.cell 3, H0_4.out.cell 4⟩ ?_
  clear hK K
  try simp only [Act.put]
  generalize hG3 : World.setCells _ _ _ _ = G3 at *
  clear hG3
  refine anyH_one (i := 18) (o := ⟨some 6, _, _, _, _, _⟩) (by kernel_rfl) rfl (fun K hK => ?_)
  rw [if_pos (by rfl)]
  go_simp
  refine hK.out _ _ ⟨H0_4.out.cell 1, H0_4.out.cell 2, H0_4.out.cell 3, H0_4.out.cell 4⟩ ?_
  clear hK K
  try simp only [Act.put, List.setIfInBounds_toArray, List.set_cons_zero, List.set_cons_succ]
  refine wpAnyH_done (by kernel_rfl) ?_ _
  go_wp2
  refine bodyPost_ret (v := .tuple #[.agg (recCells { Sc.zero with kind := 9, key := kx, page := p } (.slice none 0 0) (.slice none 0 0)).toArray, .agg (recCells (baseS (⟨kx, v.high, v.unb, v.right, v.ents.drop h, false, 0, 0, ⟨#[]⟩⟩ : IvD)) (.slice none 0 0) (.slice (some ⟨b, off + h * 2, none⟩) (n - h) (c - h))).toArray, .int .i64 0]) (results_cellCCT rfl _ _ (w.heap.size + 1) (w.heap.size + 1 + 1) _ _ _ _ _ rfl rfl rfl (rec_range H1_4.out.b) (rec_range H2_4.out.b) Tryd.underlying32 rfl recInfoS Tryd.underlying32 rfl recInfoS) rfl ?_
  refine ⟨_, _, rfl, fun W hW => ⟨RecA.of (SV.nil _ _) (SV.nil _ _), ?_⟩, B4.out⟩
  rw [RR.out]
  exact RecA.of (sc := baseS (⟨kx, v.high, v.unb, v.right, v.ents.drop h, false, 0, 0, ⟨#[]⟩⟩ : IvD)) (SV.nil _ _) (DK.out W hW)
/-- what Split tells of either -/
def splA (v : IvD) (p : Int) : RecD := if whyI v = 0 then splitI9 (halfK v) p else RecD.zero
def splB (v : IvD) : RecD := if whyI v = 0 then rightR v else RecD.zero
theorem refSplit_any (v : IvD) (a : Option Addr) (c : Nat) (p : Int) (w : World) (hv : ViewW w v a c) :
    Calls Tryd.prog 19 #[ivVal v (.slice a v.ents.length c), .int .i64 p] w fun ev w' => ∃ cs1 cs2, ev = .returned (.tuple #[.agg cs1.toArray, .agg cs2.toArray, .int .i64 (whyI v)]) ∧ (∀ W, SV lEnt W (.slice a v.ents.length c) v.ents → RecA W cs1 (splA v p) ∧ RecA W cs2 (splB v)) ∧ Below w.heap.size w w' := by
  by_cases hw : whyI v = 0
  · unfold splA splB
    rw [if_pos hw, if_pos hw, hw]
    exact refSplit_yes v a c p w hv hw
  · unfold splA splB
    rw [if_neg hw, if_neg hw]
    refine (refSplit_no v a _ c p w rfl hw).mono ?_
    rintro ev w' ⟨rfl, hs⟩
    exact ⟨_, _, rfl, fun W _ => ⟨RecA.zero _, RecA.zero _⟩, hs⟩
end Go.Proofs.YtkkmfacngmginaaDoor
