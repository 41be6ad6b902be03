/- The document's own Grow (layer 8), by a contract. -/
import Derived.Test.YtkkmfacngmginaaDoorInBldA
import Derived.Deep.CutRange
namespace Go.Proofs.YtkkmfacngmginaaDoor
open Go.RowKit

theorem HB.rng {n : Nat} {cs : List Value} {T : TypeId} {w : World} (h : HB n (.cells cs.toArray T) w) : w.rangeAt n 0 cs := fun j u hj => by
  rw [Nat.zero_add, blk_cell h.b, ← hj]; simp
/-- a closed record laid into a new block -/
theorem laid1 {w gw : World} {cs : List Value} (hg : gw = w.alloc recZ) (hl : cs.length = 15) :
    gw.there w.heap.size 0 cs.toArray.size ∧ HB w.heap.size (.cells cs.toArray 32) (gw.setCells w.heap.size 0 cs.toArray.toList) ∧ Below w.heap.size w (gw.setCells w.heap.size 0 cs.toArray.toList) := by
  have h : HB w.heap.size recZ gw := by rw [hg]; exact HB.new _ _
  refine ⟨h.there _ (by simp [hl]), h.sets cs (by rw [hl]; rfl), below_setCells (Nat.le_refl _) cs 0 _ (by rw [hg]; exact alloc_below0 _ _)⟩
/-- two of them -/
theorem laid2 {w gw : World} {c1 c2 : List Value} (hg : gw = (w.alloc recZ).alloc recZ) (h1 : c1.length = 15) (h2 : c2.length = 15) :
    gw.there w.heap.size 0 c1.toArray.size ∧ (gw.setCells w.heap.size 0 c1.toArray.toList).there (w.heap.size + 1) 0 c2.toArray.size ∧
    HB w.heap.size (.cells c1.toArray 32) ((gw.setCells w.heap.size 0 c1.toArray.toList).setCells (w.heap.size + 1) 0 c2.toArray.toList) ∧ HB (w.heap.size + 1) (.cells c2.toArray 32) ((gw.setCells w.heap.size 0 c1.toArray.toList).setCells (w.heap.size + 1) 0 c2.toArray.toList) ∧
    Below w.heap.size w ((gw.setCells w.heap.size 0 c1.toArray.toList).setCells (w.heap.size + 1) 0 c2.toArray.toList) := by
  have k1 : HB w.heap.size recZ gw := by rw [hg]; exact HB.fst _ _ _
  have k2 : HB (w.heap.size + 1) recZ gw := by rw [hg]; exact HB.snd _ _ _
  have m1 := k1.sets c1 (by rw [h1]; rfl)
  have m2 := k2.off (b2 := w.heap.size) (by omega) c1 0
  exact ⟨k1.there _ (by simp [h1]), m2.there _ (by simp [h2]), m1.off (b2 := w.heap.size + 1) (by omega) c2 0, m2.sets c2 (by rw [h2]; rfl),
    below_setCells (by omega) c2 0 _ (below_setCells (Nat.le_refl _) c1 0 _ (by rw [hg]; exact alloc2_below _ _ _))⟩
/-- three of them -/
theorem laid3 {w gw : World} {c1 c2 c3 : List Value} (hg : gw = ((w.alloc recZ).alloc recZ).alloc recZ) (h1 : c1.length = 15) (h2 : c2.length = 15) (h3 : c3.length = 15) :
    gw.there w.heap.size 0 c1.toArray.size ∧ (gw.setCells w.heap.size 0 c1.toArray.toList).there (w.heap.size + 1) 0 c2.toArray.size ∧ ((gw.setCells w.heap.size 0 c1.toArray.toList).setCells (w.heap.size + 1) 0 c2.toArray.toList).there (w.heap.size + 1 + 1) 0 c3.toArray.size ∧
    HB w.heap.size (.cells c1.toArray 32) (((gw.setCells w.heap.size 0 c1.toArray.toList).setCells (w.heap.size + 1) 0 c2.toArray.toList).setCells (w.heap.size + 1 + 1) 0 c3.toArray.toList) ∧
    HB (w.heap.size + 1) (.cells c2.toArray 32) (((gw.setCells w.heap.size 0 c1.toArray.toList).setCells (w.heap.size + 1) 0 c2.toArray.toList).setCells (w.heap.size + 1 + 1) 0 c3.toArray.toList) ∧
    HB (w.heap.size + 1 + 1) (.cells c3.toArray 32) (((gw.setCells w.heap.size 0 c1.toArray.toList).setCells (w.heap.size + 1) 0 c2.toArray.toList).setCells (w.heap.size + 1 + 1) 0 c3.toArray.toList) ∧
    Below w.heap.size w (((gw.setCells w.heap.size 0 c1.toArray.toList).setCells (w.heap.size + 1) 0 c2.toArray.toList).setCells (w.heap.size + 1 + 1) 0 c3.toArray.toList) := by
  have k1 : HB w.heap.size recZ gw := by rw [hg]; exact (HB.fst _ _ _).below (alloc_below0 _ _)
  have k2 : HB (w.heap.size + 1) recZ gw := by rw [hg]; exact (HB.snd _ _ _).below (alloc_below0 _ _)
  have k3 : HB (w.heap.size + 1 + 1) recZ gw := by rw [hg, show w.heap.size + 1 + 1 = ((w.alloc recZ).alloc recZ).heap.size by simp]; exact HB.new _ _
  have m1 := k1.sets c1 (by rw [h1]; rfl)
  have m2 := k2.off (b2 := w.heap.size) (by omega) c1 0
  have m3 := k3.off (b2 := w.heap.size) (by omega) c1 0
  have n1 := m1.off (b2 := w.heap.size + 1) (by omega) c2 0
  have n2 := m2.sets c2 (by rw [h2]; rfl)
  have n3 := m3.off (b2 := w.heap.size + 1) (by omega) c2 0
  exact ⟨k1.there _ (by simp [h1]), m2.there _ (by simp [h2]), n3.there _ (by simp [h3]), n1.off (b2 := w.heap.size + 1 + 1) (by omega) c3 0, n2.off (b2 := w.heap.size + 1 + 1) (by omega) c3 0, n3.sets c3 (by rw [h3]; rfl),
    below_setCells (by omega) c3 0 _ (below_setCells (by omega) c2 0 _ (below_setCells (Nat.le_refl _) c1 0 _ (by rw [hg]; exact (alloc2_below _ _ _).trans ((alloc_below0 _ _).mono (alloc2_below _ _ _).size))))⟩
theorem RecA.info {w : World} {cs : List Value} {d : RecD} (h : RecA w cs d) : (Tryd.prog.info? 32).map (·.size) = some cs.toArray.size := by rw [recInfoS, List.size_toArray, h.len]
set_option maxRecDepth 100000 in
set_option maxHeartbeats 8000000 in
theorem refGrow_yes (v : IvD) (a : Option Addr) (c : Nat) (l r : Int) (w : World) (hv : ViewW w v a c) (hw : whyI v = 0) :
    Calls Tryd.prog 21 #[ivVal v (.slice a v.ents.length c), .int .i64 l, .int .i64 r] w fun ev w' => ∃ cs1 cs2 cs3, ev = .returned (.tuple #[.agg cs1.toArray, .agg cs2.toArray, .agg cs3.toArray, .int .i64 0]) ∧ RecA w' cs1 (leftR v r) ∧ RecA w' cs2 (rightR v) ∧ RecA w' cs3 (topR v l r) ∧ Below w.heap.size w w' := by
  obtain ⟨-, h2⟩ := why_two hw
  obtain ⟨_, _, e1, hlc, hcm⟩ := hv.sv.lenform
  obtain ⟨rfl, -, rfl⟩ := Value.slice.inj e1
  obtain ⟨b, off, ha⟩ := hv.sv.addr (by omega)
  subst ha
  clear e1
  obtain ⟨h, hhe⟩ : ∃ h, v.ents.length / 2 = h := ⟨_, rfl⟩
  have hk : halfK v = (v.ents.getD h e0).1 := by unfold halfK; rw [hhe]
  have hx := mem_at (es := v.ents) (i := h) (by omega)
  obtain ⟨⟨kx, px⟩, he⟩ : ∃ e, v.ents.getD h e0 = e := ⟨_, rfl⟩
  rw [he] at hx hk
  simp only at hk
  have RR := Lib.hid (show rightR v = baseI7 kx v.high v.unb v.right (v.ents.drop h) by unfold rightR; rw [hk, hhe])
  have VW := Lib.hid hv
  have X0 := Lib.hid (hv.sv.cellAt (j := 0) hx rfl)
  simp only [lEnt, Nat.add_zero] at X0
  have TK := Lib.hid (hv.sv.takeV (k := h) (by omega))
  have DK := Lib.hid (show ∀ W, SV lEnt W (.slice (some ⟨b, off, none⟩) v.ents.length c) v.ents → SV lEnt W (.slice (some ⟨b, off + h * 2, none⟩) (v.ents.length - h) (c - h)) (v.ents.drop h) from fun W hW => hW.dropV (by omega) (by omega))
  obtain ⟨n, hn⟩ : ∃ n, v.ents.length = n := ⟨_, rfl⟩
  have LN := Lib.hid hn
  have fw := fun w => refWhy_any v (some ⟨b, off, none⟩) n c w hn
  have fs := fun w h => refSplit_yes v (some ⟨b, off, none⟩) c 0 w h hw
  have LR := Lib.hid (show leftR v r = baseI7 v.low kx false r (v.ents.take h) by unfold leftR; rw [hk, hhe])
  have TR := Lib.hid (show topR v l r = baseI7 v.low v.high v.unb v.right [(v.low, l), (kx, r)] by unfold topR; rw [hk])
  rw [hw] at fw
  have VS := Lib.hid hv.sv
  rw [hn] at hlc h2 hhe DK VS fs ⊢
  unfold maxLen at hcm
  have i1 : (n : Int) / 2 = (h : Int) := by omega
  have i2 : (0 : Int) ≤ (h : Int) := by omega
  have i3 : (h : Int) < (n : Int) := by omega
  have i4 : (h : Int) ≤ (c : Int) := by omega
  have i5 : (h : Int) ≤ (n : Int) := by omega
  have i6 : (n : Int) ≤ (c : Int) := by omega
  have i7 : h ≤ c := by omega
  have i8 : ¬ c = h := by omega
  have i9 : (2 : Int) ≤ (n : Int) := by omega
  obtain ⟨W0, hW0⟩ : ∃ W, W = ((((w.alloc (ivObjR v (.slice (some ⟨b, off, none⟩) n c))).alloc recZ).alloc recZ).alloc recZ) := ⟨_, rfl⟩
  have q0 := alloc_below0 w (ivObjR v (.slice (some ⟨b, off, none⟩) n c))
  have q1 := q0.trans ((alloc_below0 (w.alloc (ivObjR v (.slice (some ⟨b, off, none⟩) n c))) recZ).mono q0.size)
  have q2 := q1.trans ((alloc_below0 ((w.alloc (ivObjR v (.slice (some ⟨b, off, none⟩) n c))).alloc recZ) recZ).mono q1.size)
  have q3 := q2.trans ((alloc_below0 (((w.alloc (ivObjR v (.slice (some ⟨b, off, none⟩) n c))).alloc recZ).alloc recZ) recZ).mono q2.size)
  have B0 := Lib.hid (show Below w.heap.size w W0 by rw [hW0]; exact q3)
  have H0_0 := Lib.hid (show HB (w.heap.size) (ivObjR v (.slice (some ⟨b, off, none⟩) n c)) W0 by rw [hW0]; exact ((((HB.new (ivObjR v (.slice (some ⟨b, off, none⟩) n c)) w).below (alloc_below0 (w.alloc (ivObjR v (.slice (some ⟨b, off, none⟩) n c))) recZ)).below (alloc_below0 ((w.alloc (ivObjR v (.slice (some ⟨b, off, none⟩) n c))).alloc recZ) recZ)).below (alloc_below0 (((w.alloc (ivObjR v (.slice (some ⟨b, off, none⟩) n c))).alloc recZ).alloc recZ) recZ)))
  have H1_0 := Lib.hid (show HB (w.heap.size + 1) recZ W0 by rw [hW0, show w.heap.size + 1 = (w.alloc (ivObjR v (.slice (some ⟨b, off, none⟩) n c))).heap.size from by simp]; exact (((HB.new recZ (w.alloc (ivObjR v (.slice (some ⟨b, off, none⟩) n c)))).below (alloc_below0 ((w.alloc (ivObjR v (.slice (some ⟨b, off, none⟩) n c))).alloc recZ) recZ)).below (alloc_below0 (((w.alloc (ivObjR v (.slice (some ⟨b, off, none⟩) n c))).alloc recZ).alloc recZ) recZ)))
  have H2_0 := Lib.hid (show HB (w.heap.size + 1 + 1) recZ W0 by rw [hW0, show w.heap.size + 1 + 1 = ((w.alloc (ivObjR v (.slice (some ⟨b, off, none⟩) n c))).alloc recZ).heap.size from by simp]; exact ((HB.new recZ ((w.alloc (ivObjR v (.slice (some ⟨b, off, none⟩) n c))).alloc recZ)).below (alloc_below0 (((w.alloc (ivObjR v (.slice (some ⟨b, off, none⟩) n c))).alloc recZ).alloc recZ) recZ)))
  have H3_0 := Lib.hid (show HB (w.heap.size + 1 + 1 + 1) recZ W0 by rw [hW0, show w.heap.size + 1 + 1 + 1 = (((w.alloc (ivObjR v (.slice (some ⟨b, off, none⟩) n c))).alloc recZ).alloc recZ).heap.size from by simp]; exact (HB.new recZ (((w.alloc (ivObjR v (.slice (some ⟨b, off, none⟩) n c))).alloc recZ).alloc recZ)))
  have ZS := Lib.hid (show W0.heap.size = w.heap.size + 4 by rw [hW0]; simp)
  clear q0 q1 q2 q3
  unfold ivObjR recZ at hW0
  clear hv hn hx he hhe hw h2 hk
  unfold ivVal at fw fs ⊢
  go_enter Tryd.func21, Tryd.ntmps21
  go_wp2_with fail
  rw [← hW0]
  clear hW0
  refine (fw _).mono ?_
  rintro ev w1 ⟨rfl, hs⟩
  have B1 := Lib.hid (B0.out.trans (hs.mono B0.out.size))
  have S1 := Lib.hid hs.size
  have H0_1 := Lib.hid (H0_0.out.below hs)
  have H1_1 := Lib.hid (H1_0.out.below hs)
  have H2_1 := Lib.hid (H2_0.out.below hs)
  have H3_1 := Lib.hid (H3_0.out.below hs)
  clear hs fw
  have v_0 := H0_1.out.cell 0
  have v_1 := H0_1.out.cell 1
  have v_2 := H0_1.out.cell 2
  have v_3 := H0_1.out.cell 3
  have v_4 := H0_1.out.cell 4
  have v_5 := H0_1.out.cell 5
  have v_6 := H0_1.out.cell 6
  have v_7 := H0_1.out.cell 7
  have v_8 := H0_1.out.cell 8
  simp at v_0 v_1 v_2 v_3 v_4 v_5 v_6 v_7 v_8
  have x0 := cell_step X0.out B1.out
  go_wp2_with fail
  clear v_0 v_1 v_2 v_3 v_4 v_5 v_6 v_7 v_8 x0
  go_cut [12] from 35 to 45 (fun s12 wc => ∃ nb : Nat, s12 = .pointer (some ⟨nb, 0, none⟩) ∧ w1.heap.size ≤ nb ∧ HB nb (.cells (recCells (baseS (⟨v.low, kx, false, r, v.ents.take h, false, 0, 0, ⟨#[]⟩⟩ : IvD)) (.slice none 0 0) (.slice (some ⟨b, off, none⟩) h c)).toArray 32) wc ∧ Below w1.heap.size w1 wc)
  case first =>
    go_wp2_with fail
    have HS := Lib.hid (show ∀ w', Below w1.heap.size w1 w' → (fun w' => w'.cell? ⟨w.heap.size, 0, none⟩ = some (.string v.low) ∧ w'.cell? ⟨w.heap.size, 4, none⟩ = some (.slice (some ⟨b, off, none⟩) n c)) w' from fun w' hs => ⟨(H0_1.out.below hs).cell 0, (H0_1.out.below hs).cell 4⟩)
    have SD := Lib.hid (HS.out _ (Below.refl w1.heap.size w1).drew)
    refine anyH_region (fun w' => w'.cell? ⟨w.heap.size, 0, none⟩ = some (.string v.low) ∧ w'.cell? ⟨w.heap.size, 4, none⟩ = some (.slice (some ⟨b, off, none⟩) n c)) (by kernel_rfl) ?_
    refine wpAnyH_take (i := 0) (oi := ⟨some 35, _, _, _, _, _⟩) (v := ?va0) rfl (by kernel_rfl) (by kernel_rfl) (by kernel_rfl) (fun _ _ _ h => h) (Or.inl ⟨by rfl, ?hya0⟩) SD.out ?resta0
    case hya0 => (intro w hSw; go_simp; try (with_reducible rfl))
    simp only [Act.put, List.setIfInBounds_toArray, List.set_cons_zero, List.set_cons_succ]
    refine wpAnyH_take (i := 1) (oi := ⟨some 36, _, _, _, _, _⟩) (v := ?va1) rfl (by kernel_rfl) (by kernel_rfl) (by kernel_rfl) (fun _ _ _ h => h) (Or.inl ⟨by rfl, ?hya1⟩) SD.out ?resta1
    case hya1 => (intro w hSw; go_simp; try (with_reducible rfl))
    simp only [Act.put, List.setIfInBounds_toArray, List.set_cons_zero, List.set_cons_succ]
    refine wpAnyH_take (i := 2) (oi := ⟨some 37, _, _, _, _, _⟩) (v := ?va2) rfl (by kernel_rfl) (by kernel_rfl) (by kernel_rfl) (fun _ _ _ h => h) (Or.inl ⟨by rfl, ?hya2⟩) SD.out ?resta2
    case hya2 => (intro w hSw; go_simp; try (with_reducible rfl))
    simp only [Act.put, List.setIfInBounds_toArray, List.set_cons_zero, List.set_cons_succ]
    refine wpAnyH_take (i := 3) (oi := ⟨some 38, _, _, _, _, _⟩) (v := ?va3) rfl (by kernel_rfl) (by kernel_rfl) (by kernel_rfl) (fun _ _ _ h => h) (Or.inl ⟨by rfl, ?hya3⟩) SD.out ?resta3
    case hya3 => (intro w hSw; go_simp; try (with_reducible rfl))
    simp only [Act.put, List.setIfInBounds_toArray, List.set_cons_zero, List.set_cons_succ]
    refine wpAnyH_take (i := 4) (oi := ⟨some 39, _, _, _, _, _⟩) (v := ?va4) rfl (by kernel_rfl) (by kernel_rfl) (by kernel_rfl) (fun _ _ _ h => h) (Or.inl ⟨by rfl, ?hya4⟩) SD.out ?resta4
    case hya4 => (intro w hSw; go_simp; try (with_reducible rfl))
    simp only [Act.put, List.setIfInBounds_toArray, List.set_cons_zero, List.set_cons_succ]
    refine wpAnyH_take (i := 5) (oi := ⟨some 40, _, _, _, _, _⟩) (v := ?va5) rfl (by kernel_rfl) (by kernel_rfl) (by kernel_rfl) (fun _ _ _ h => h) (Or.inl ⟨by rfl, ?hya5⟩) SD.out ?resta5
    case hya5 => (intro w hSw; go_simp; try (with_reducible rfl))
    simp only [Act.put, List.setIfInBounds_toArray, List.set_cons_zero, List.set_cons_succ]
    refine wpAnyH_take (i := 6) (oi := ⟨some 41, _, _, _, _, _⟩) (v := ?va6) rfl (by kernel_rfl) (by kernel_rfl) (by kernel_rfl) (fun _ _ _ h => h) (Or.inl ⟨by rfl, ?hya6⟩) SD.out ?resta6
    case hya6 => (intro w hSw; go_simp; try (with_reducible rfl))
    simp only [Act.put, List.setIfInBounds_toArray, List.set_cons_zero, List.set_cons_succ]
    refine wpAnyH_take (i := 7) (oi := ⟨some 42, _, _, _, _, _⟩) (v := ?va7) rfl (by kernel_rfl) (by kernel_rfl) (by kernel_rfl) (fun _ _ _ h => h) (Or.inl ⟨by rfl, ?hya7⟩) SD.out ?resta7
    case hya7 => (intro w hSw; go_simp; try (with_reducible rfl))
    simp only [Act.put, List.setIfInBounds_toArray, List.set_cons_zero, List.set_cons_succ]
    refine wpAnyH_take (i := 8) (oi := ⟨some 43, _, _, _, _, _⟩) (v := ?va8) rfl (by kernel_rfl) (by kernel_rfl) (by kernel_rfl) (fun _ _ _ h => h) (Or.inl ⟨by rfl, ?hya8⟩) SD.out ?resta8
    case hya8 => (intro w hSw; go_simp; try (with_reducible rfl))
    simp only [Act.put, List.setIfInBounds_toArray, List.set_cons_zero, List.set_cons_succ]
    refine anyH_two (i := 9) (j := 10) (o := ⟨some 44, _, _, _, _, _⟩) (u := ⟨some 12, _, _, _, _, _⟩) (by kernel_rfl) rfl rfl (fun K hK => ?_) (fun K hK => ?_)
    · rw [if_pos (by rfl)]
      go_simp
      refine (refBase_any (⟨v.low, kx, false, r, v.ents.take h, false, 0, 0, ⟨#[]⟩⟩ : IvD) (some ⟨b, off, none⟩) h c _).mono ?_
      rintro ev w2 ⟨rfl, hs⟩
      have bd := Lib.hid ((Below.refl w1.heap.size w1).drew.trans hs)
      clear hs
      refine hK.out _ _ (HS.out _ bd.out) ?_
      clear hK K
      try simp only [Act.put, List.setIfInBounds_toArray, List.set_cons_zero, List.set_cons_succ]
      have b3 := Lib.hid (bd.out.trans ((alloc_below0 w2 recZ).mono bd.out.size))
      have h3 := Lib.hid (HB.new recZ w2)
      refine anyH_one (i := 10) (o := ⟨some 12, _, _, _, _, _⟩) (by kernel_rfl) rfl (fun K hK => ?_)
      rw [if_pos (by rfl)]
      go_simp
      refine hK.out _ _ (HS.out _ b3.out) ?_
      clear hK K
      try simp only [Act.put, List.setIfInBounds_toArray, List.set_cons_zero, List.set_cons_succ]
      refine anyH_one (i := 11) (o := ⟨none, _, _, _, _, _⟩) (by kernel_rfl) rfl (fun K hK => ?_)
      rw [if_pos (by rfl)]
      have bz := Lib.hid (below_setCells (b := w2.heap.size) (show w1.heap.size ≤ w2.heap.size by have := bd.out.size; first | omega | exact this) (recCells (baseS (⟨v.low, kx, false, r, v.ents.take h, false, 0, 0, ⟨#[]⟩⟩ : IvD)) (.slice none 0 0) (.slice (some ⟨b, off, none⟩) h c)) 0 _ b3.out)
      have hz := Lib.hid (h3.out.sets (recCells (baseS (⟨v.low, kx, false, r, v.ents.take h, false, 0, 0, ⟨#[]⟩⟩ : IvD)) (.slice none 0 0) (.slice (some ⟨b, off, none⟩) h c)) rfl)
      refine wp_store_mid 32 (.tmp 12) (.tmp 44) rfl (w2.heap.size) 0 (recCells (baseS (⟨v.low, kx, false, r, v.ents.take h, false, 0, 0, ⟨#[]⟩⟩ : IvD)) (.slice none 0 0) (.slice (some ⟨b, off, none⟩) h c)).toArray rfl rfl (h3.out.there 15 (Nat.le_refl _)) recInfoS (rec_one ..) ?_
      refine hK.out _ _ (HS.out _ bz.out) ?_
      clear hK K
      try simp only [Act.put]
      refine wpAnyH_done (by kernel_rfl) ?_ _
      go_wp2
      go_meet
      case rel => exact ⟨w2.heap.size, rfl, (by have := bd.out.size; first | omega | exact this), hz.out, bz.out⟩
    · have b2 := Lib.hid ((Below.refl w1.heap.size w1).drew.trans (alloc_below0 w1.drew recZ))
      have h2 := Lib.hid (HB.new recZ w1.drew)
      rw [if_pos (by rfl)]
      go_simp
      refine hK.out _ _ (HS.out _ b2.out) ?_
      clear hK K
      try simp only [Act.put, List.setIfInBounds_toArray, List.set_cons_zero, List.set_cons_succ]
      refine anyH_one (i := 9) (o := ⟨some 44, _, _, _, _, _⟩) (by kernel_rfl) rfl (fun K hK => ?_)
      rw [if_pos (by rfl)]
      go_simp
      refine (refBase_any (⟨v.low, kx, false, r, v.ents.take h, false, 0, 0, ⟨#[]⟩⟩ : IvD) (some ⟨b, off, none⟩) h c _).mono ?_
      rintro ev w2 ⟨rfl, hs⟩
      have b3 := Lib.hid (b2.out.trans (hs.mono b2.out.size))
      have h3 := Lib.hid (h2.out.below hs)
      clear hs
      refine hK.out _ _ (HS.out _ b3.out) ?_
      clear hK K
      try simp only [Act.put, List.setIfInBounds_toArray, List.set_cons_zero, List.set_cons_succ]
      refine anyH_one (i := 11) (o := ⟨none, _, _, _, _, _⟩) (by kernel_rfl) rfl (fun K hK => ?_)
      rw [if_pos (by rfl)]
      have bz := Lib.hid (below_setCells (b := w1.heap.size) (show w1.heap.size ≤ w1.heap.size by have := b3.out.size; first | omega | exact this) (recCells (baseS (⟨v.low, kx, false, r, v.ents.take h, false, 0, 0, ⟨#[]⟩⟩ : IvD)) (.slice none 0 0) (.slice (some ⟨b, off, none⟩) h c)) 0 _ b3.out)
      have hz := Lib.hid (h3.out.sets (recCells (baseS (⟨v.low, kx, false, r, v.ents.take h, false, 0, 0, ⟨#[]⟩⟩ : IvD)) (.slice none 0 0) (.slice (some ⟨b, off, none⟩) h c)) rfl)
      refine wp_store_mid 32 (.tmp 12) (.tmp 44) rfl (w1.heap.size) 0 (recCells (baseS (⟨v.low, kx, false, r, v.ents.take h, false, 0, 0, ⟨#[]⟩⟩ : IvD)) (.slice none 0 0) (.slice (some ⟨b, off, none⟩) h c)).toArray rfl rfl (h3.out.there 15 (Nat.le_refl _)) recInfoS (rec_one ..) ?_
      refine hK.out _ _ (HS.out _ bz.out) ?_
      clear hK K
      try simp only [Act.put]
      refine wpAnyH_done (by kernel_rfl) ?_ _
      go_wp2
      go_meet
      case rel => exact ⟨w1.heap.size, rfl, (by have := b3.out.size; first | omega | exact this), hz.out, bz.out⟩
  case rest =>
    obtain ⟨nb, rfl, hnb, hL, hs⟩ := hcut
    obtain ⟨wL, hwq⟩ : ∃ x, x = wc := ⟨_, rfl⟩
    subst hwq
    have B2 := Lib.hid (B1.out.trans (hs.mono B1.out.size))
    have H0_2 := Lib.hid (H0_1.out.below hs)
    have H1_2 := Lib.hid (H1_1.out.below hs)
    have H2_2 := Lib.hid (H2_1.out.below hs)
    have H3_2 := Lib.hid (H3_1.out.below hs)
    have NB := Lib.hid (show w.heap.size + 4 ≤ nb by have := ZS.out; have := S1.out; omega)
    have L_2 := Lib.hid hL
    have S2 := Lib.hid (show w.heap.size + 4 ≤ wL.heap.size by have := hs.size; have := ZS.out; have := S1.out; omega)
    clear hs hL hnb
    have v_0 := H0_2.out.cell 0
    have v_1 := H0_2.out.cell 1
    have v_2 := H0_2.out.cell 2
    have v_3 := H0_2.out.cell 3
    have v_4 := H0_2.out.cell 4
    have v_5 := H0_2.out.cell 5
    have v_6 := H0_2.out.cell 6
    have v_7 := H0_2.out.cell 7
    have v_8 := H0_2.out.cell 8
    simp at v_0 v_1 v_2 v_3 v_4 v_5 v_6 v_7 v_8
    have vw := VW.out.below B2.out
    go_wp2_with fail
    refine (fs _ vw).mono ?_
    rintro ev w3 ⟨c1, c2, rfl, hra, hs⟩
    clear v_0 v_1 v_2 v_3 v_4 v_5 v_6 v_7 v_8 vw
    have B3 := Lib.hid (B2.out.trans (hs.mono B2.out.size))
    have H0_3 := Lib.hid (H0_2.out.below hs)
    have H1_3 := Lib.hid (H1_2.out.below hs)
    have H2_3 := Lib.hid (H2_2.out.below hs)
    have H3_3 := Lib.hid (H3_2.out.below hs)
    have L_3 := Lib.hid (L_2.out.below hs)
    have S3 := Lib.hid (Nat.le_trans S2.out hs.size)
    have RA := Lib.hid hra
    have R0 := Lib.hid (hra _ (VS.out.below B3.out))
    clear hs hra
    obtain ⟨gw, hgw⟩ : ∃ W, W = (w3.alloc (.cells #[.int .i64 0, .string ⟨#[]⟩, .string ⟨#[]⟩, .bool false, .int .i64 0, .slice none 0 0, .slice none 0 0, .string ⟨#[]⟩, .string ⟨#[]⟩, .int .i64 0, .int .i64 0, .int .i64 0, .string ⟨#[]⟩, .int .i64 0, .int .i64 0] 32)).alloc (.cells #[.int .i64 0, .string ⟨#[]⟩, .string ⟨#[]⟩, .bool false, .int .i64 0, .slice none 0 0, .slice none 0 0, .string ⟨#[]⟩, .string ⟨#[]⟩, .int .i64 0, .int .i64 0, .int .i64 0, .string ⟨#[]⟩, .int .i64 0, .int .i64 0] 32) := ⟨_, rfl⟩
    have LD := Lib.hid (laid2 (w := w3) (gw := gw) (c1 := c1) (c2 := c2) hgw R0.out.1.len R0.out.2.len)
    have hs := LD.out.2.2.2.2
    have B4 := Lib.hid (B3.out.trans (hs.mono B3.out.size))
    have H0_4 := Lib.hid (H0_3.out.below hs)
    have H1_4 := Lib.hid (H1_3.out.below hs)
    have H2_4 := Lib.hid (H2_3.out.below hs)
    have H3_4 := Lib.hid (H3_3.out.below hs)
    have L_4 := Lib.hid (L_3.out.below hs)
    have S4 := Lib.hid (Nat.le_trans S3.out hs.size)
    have M_4 := Lib.hid LD.out.2.2.2.1
    have NM := Lib.hid (show w.heap.size + 4 ≤ w3.heap.size + 1 by have := S3.out; omega)
    clear hs
    have v_0 := H0_4.out.cell 0
    have v_1 := H0_4.out.cell 1
    have v_2 := H0_4.out.cell 2
    have v_3 := H0_4.out.cell 3
    have v_4 := H0_4.out.cell 4
    have v_5 := H0_4.out.cell 5
    have v_6 := H0_4.out.cell 6
    have v_7 := H0_4.out.cell 7
    have v_8 := H0_4.out.cell 8
    simp at v_0 v_1 v_2 v_3 v_4 v_5 v_6 v_7 v_8
    have z1 := R0.out.1.info
    have z2 := R0.out.2.info
    have y1 := R0.out.1.one
    have y2 := R0.out.2.one
    go_wp2_with (first | (rw [← hgw]; refine wpList_store_mid rfl 32 (.tmp 13) (.tmp 48) rfl w3.heap.size 0 c1.toArray rfl rfl ?_ z1 y1 ?_; exact LD.out.1) | (refine wpList_store_mid rfl 32 (.tmp 14) (.tmp 49) rfl (w3.heap.size + 1) 0 c2.toArray rfl rfl ?_ z2 y2 ?_; exact LD.out.2.1; clear LD z1 z2 y1 y2; generalize hG : World.setCells (World.setCells _ _ _ _) _ _ _ = w4 at *; clear hG hgw))
    refine (refBase_any (⟨v.low, v.high, v.unb, v.right, [(v.low, l), (kx, r)], false, 0, 0, ⟨#[]⟩⟩ : IvD) (some ⟨w4.heap.size, 0, none⟩) 2 2 _).mono ?_
    rintro ev w5 ⟨rfl, h5⟩
    clear v_0 v_1 v_2 v_3 v_4 v_5 v_6 v_7 v_8
    have ET := Lib.hid (((OwnS.lit lEnt w4.heap.size w4 w4.heap.size rfl [(v.low, l), (kx, r)] (Nat.le_refl _) (show 2 ≤ maxLen by decide)).sv).below h5)
    have hs := (alloc_below0 w4 (.cells #[.string v.low, .int .i64 l, .string kx, .int .i64 r] 40)).trans (h5.mono (alloc_below0 w4 _).size)
    have B5 := Lib.hid (B4.out.trans (hs.mono B4.out.size))
    have H0_5 := Lib.hid (H0_4.out.below hs)
    have H1_5 := Lib.hid (H1_4.out.below hs)
    have H2_5 := Lib.hid (H2_4.out.below hs)
    have H3_5 := Lib.hid (H3_4.out.below hs)
    have L_5 := Lib.hid (L_4.out.below hs)
    have M_5 := Lib.hid (M_4.out.below hs)
    have S5 := Lib.hid (Nat.le_trans S4.out hs.size)
    have NW := Lib.hid (show w4.heap.size < w5.heap.size by have := h5.size; simp at this; omega)
    clear hs h5
    have LE := Lib.hid (laid1 (w := w5) (gw := w5.alloc recZ) (cs := (recCells (baseS (⟨v.low, v.high, v.unb, v.right, [(v.low, l), (kx, r)], false, 0, 0, ⟨#[]⟩⟩ : IvD)) (.slice none 0 0) (.slice (some ⟨w4.heap.size, 0, none⟩) 2 2))) rfl rfl)
    have hs := LE.out.2.2
    have B6 := Lib.hid (B5.out.trans (hs.mono B5.out.size))
    have H0_6 := Lib.hid (H0_5.out.below hs)
    have H1_6 := Lib.hid (H1_5.out.below hs)
    have H2_6 := Lib.hid (H2_5.out.below hs)
    have H3_6 := Lib.hid (H3_5.out.below hs)
    have L_6 := Lib.hid (L_5.out.below hs)
    have M_6 := Lib.hid (M_5.out.below hs)
    have ET6 := Lib.hid (ET.out.below hs)
    have T_6 := Lib.hid LE.out.2.1
    have NT := Lib.hid (show w.heap.size + 4 ≤ w5.heap.size from S5.out)
    have S6 := Lib.hid (show w5.heap.size ≤ _ from hs.size)
    clear hs ET
    unfold recVal
    go_wp2_with (refine wpList_store_mid rfl 32 (.tmp 16) (.tmp 68) rfl w5.heap.size 0 (recCells (baseS (⟨v.low, v.high, v.unb, v.right, [(v.low, l), (kx, r)], false, 0, 0, ⟨#[]⟩⟩ : IvD)) (.slice none 0 0) (.slice (some ⟨w4.heap.size, 0, none⟩) 2 2)).toArray rfl rfl ?_ recInfoS (rec_one ..) ?_; exact LE.out.1; clear LE; unfold recZ at B6 H0_6 H1_6 H2_6 H3_6 L_6 M_6 T_6 ET6 S6; generalize hG : World.setCells _ _ _ _ = w6 at *; clear hG)
    have SD := Lib.hid (show (fun w' => w'.rangeAt nb 0 (recCells (baseS (⟨v.low, kx, false, r, v.ents.take h, false, 0, 0, ⟨#[]⟩⟩ : IvD)) (.slice none 0 0) (.slice (some ⟨b, off, none⟩) h c)) ∧ w'.rangeAt (w3.heap.size + 1) 0 c2 ∧ w'.rangeAt w5.heap.size 0 (recCells (baseS (⟨v.low, v.high, v.unb, v.right, [(v.low, l), (kx, r)], false, 0, 0, ⟨#[]⟩⟩ : IvD)) (.slice none 0 0) (.slice (some ⟨w4.heap.size, 0, none⟩) 2 2))) w6.drew from ⟨L_6.out.drew.rng, M_6.out.drew.rng, T_6.out.drew.rng⟩)
    have hs := (Below.refl w6.heap.size w6).drew
    have B7 := Lib.hid (B6.out.trans (hs.mono B6.out.size))
    have H0_7 := Lib.hid (H0_6.out.below hs)
    have H1_7 := Lib.hid (H1_6.out.below hs)
    have H2_7 := Lib.hid (H2_6.out.below hs)
    have H3_7 := Lib.hid (H3_6.out.below hs)
    have L_7 := Lib.hid (L_6.out.below hs)
    have M_7 := Lib.hid (M_6.out.below hs)
    have T_7 := Lib.hid (T_6.out.below hs)
    have ET7 := Lib.hid (ET6.out.below hs)
    clear hs ET6
    obtain ⟨W7, hW7⟩ : ∃ W, W = w6.drew := ⟨_, rfl⟩
    refine anyH_region (fun w' => w'.rangeAt nb 0 (recCells (baseS (⟨v.low, kx, false, r, v.ents.take h, false, 0, 0, ⟨#[]⟩⟩ : IvD)) (.slice none 0 0) (.slice (some ⟨b, off, none⟩) h c)) ∧ w'.rangeAt (w3.heap.size + 1) 0 c2 ∧ w'.rangeAt w5.heap.size 0 (recCells (baseS (⟨v.low, v.high, v.unb, v.right, [(v.low, l), (kx, r)], false, 0, 0, ⟨#[]⟩⟩ : IvD)) (.slice none 0 0) (.slice (some ⟨w4.heap.size, 0, none⟩) 2 2))) (by kernel_rfl) ?_
    rw [← hW7] at H0_7 H1_7 H2_7 H3_7 L_7 M_7 T_7 B7 ET7 SD ⊢
    clear hW7
    refine wpAnyH_take (i := 0) (oi := ⟨some 69, _, _, _, _, _⟩) (v := .agg (recCells (baseS (⟨v.low, kx, false, r, v.ents.take h, false, 0, 0, ⟨#[]⟩⟩ : IvD)) (.slice none 0 0) (.slice (some ⟨b, off, none⟩) h c)).toArray) rfl (by kernel_rfl) (by kernel_rfl) (by kernel_rfl) (fun _ _ _ h => h) (yieldsIf_load_mid (by rfl) 32 (.tmp 12) rfl (nb) 0 rfl (recCells (baseS (⟨v.low, kx, false, r, v.ents.take h, false, 0, 0, ⟨#[]⟩⟩ : IvD)) (.slice none 0 0) (.slice (some ⟨b, off, none⟩) h c)) _ (fun w h => h.1) Tryd.underlying32 rfl recInfoS) SD.out ?restz0
    simp only [Act.put, List.setIfInBounds_toArray, List.set_cons_zero, List.set_cons_succ]
    refine wpAnyH_take (i := 1) (oi := ⟨some 70, _, _, _, _, _⟩) (v := .agg c2.toArray) rfl (by kernel_rfl) (by kernel_rfl) (by kernel_rfl) (fun _ _ _ h => h) (yieldsIf_load_mid (by rfl) 32 (.tmp 14) rfl (w3.heap.size + 1) 0 rfl c2 _ (fun w h => h.2.1) Tryd.underlying32 rfl (by rw [R0.out.2.len]; exact recInfoS)) SD.out ?restz1
    simp only [Act.put, List.setIfInBounds_toArray, List.set_cons_zero, List.set_cons_succ]
    refine wpAnyH_take (i := 2) (oi := ⟨some 71, _, _, _, _, _⟩) (v := .agg (recCells (baseS (⟨v.low, v.high, v.unb, v.right, [(v.low, l), (kx, r)], false, 0, 0, ⟨#[]⟩⟩ : IvD)) (.slice none 0 0) (.slice (some ⟨w4.heap.size, 0, none⟩) 2 2)).toArray) rfl (by kernel_rfl) (by kernel_rfl) (by kernel_rfl) (fun _ _ _ h => h) (yieldsIf_load_mid (by rfl) 32 (.tmp 16) rfl (w5.heap.size) 0 rfl (recCells (baseS (⟨v.low, v.high, v.unb, v.right, [(v.low, l), (kx, r)], false, 0, 0, ⟨#[]⟩⟩ : IvD)) (.slice none 0 0) (.slice (some ⟨w4.heap.size, 0, none⟩) 2 2)) _ (fun w h => h.2.2) Tryd.underlying32 rfl recInfoS) SD.out ?restz2
    simp only [Act.put, List.setIfInBounds_toArray, List.set_cons_zero, List.set_cons_succ]
    have B8 := Lib.hid (below_setCells (b := w.heap.size + 1) (show w.heap.size ≤ w.heap.size + 1 by omega) (recCells (baseS (⟨v.low, kx, false, r, v.ents.take h, false, 0, 0, ⟨#[]⟩⟩ : IvD)) (.slice none 0 0) (.slice (some ⟨b, off, none⟩) h c)) 0 _ B7.out)
    have H1_8 := Lib.hid (H1_7.out.sets (recCells (baseS (⟨v.low, kx, false, r, v.ents.take h, false, 0, 0, ⟨#[]⟩⟩ : IvD)) (.slice none 0 0) (.slice (some ⟨b, off, none⟩) h c)) rfl)
    have H2_8 := Lib.hid (H2_7.out.off (b2 := w.heap.size + 1) (by omega) (recCells (baseS (⟨v.low, kx, false, r, v.ents.take h, false, 0, 0, ⟨#[]⟩⟩ : IvD)) (.slice none 0 0) (.slice (some ⟨b, off, none⟩) h c)) 0)
    have H3_8 := Lib.hid (H3_7.out.off (b2 := w.heap.size + 1) (by omega) (recCells (baseS (⟨v.low, kx, false, r, v.ents.take h, false, 0, 0, ⟨#[]⟩⟩ : IvD)) (.slice none 0 0) (.slice (some ⟨b, off, none⟩) h c)) 0)
    have L_8 := Lib.hid (L_7.out.off (b2 := w.heap.size + 1) (by have := NB.out; omega) (recCells (baseS (⟨v.low, kx, false, r, v.ents.take h, false, 0, 0, ⟨#[]⟩⟩ : IvD)) (.slice none 0 0) (.slice (some ⟨b, off, none⟩) h c)) 0)
    have M_8 := Lib.hid (M_7.out.off (b2 := w.heap.size + 1) (by have := NM.out; omega) (recCells (baseS (⟨v.low, kx, false, r, v.ents.take h, false, 0, 0, ⟨#[]⟩⟩ : IvD)) (.slice none 0 0) (.slice (some ⟨b, off, none⟩) h c)) 0)
    have T_8 := Lib.hid (T_7.out.off (b2 := w.heap.size + 1) (by have := NT.out; omega) (recCells (baseS (⟨v.low, kx, false, r, v.ents.take h, false, 0, 0, ⟨#[]⟩⟩ : IvD)) (.slice none 0 0) (.slice (some ⟨b, off, none⟩) h c)) 0)
    have ET8 := Lib.hid (ET7.out.kept (Kept.setCells (recCells (baseS (⟨v.low, kx, false, r, v.ents.take h, false, 0, 0, ⟨#[]⟩⟩ : IvD)) (.slice none 0 0) (.slice (some ⟨b, off, none⟩) h c)) 0 _ (Kept.refl (fun x => x = w.heap.size + 1) _)) (fun a n c hv hs => by obtain ⟨e, -, -⟩ := Value.slice.inj hv; obtain rfl := Option.some.inj e; have hs2 : w4.heap.size = w.heap.size + 1 := hs; have := S4.out; omega))
    refine anyH_one (i := 3) (o := ⟨none, _, _, _, _, _⟩) (by kernel_rfl) rfl (fun K hK => ?_)
    rw [if_pos (by rfl)]
    refine wp_store_mid 32 (.tmp 6) (.tmp 69) rfl (w.heap.size + 1) 0 (recCells (baseS (⟨v.low, kx, false, r, v.ents.take h, false, 0, 0, ⟨#[]⟩⟩ : IvD)) (.slice none 0 0) (.slice (some ⟨b, off, none⟩) h c)).toArray rfl rfl (H1_7.out.there 15 (Nat.le_refl _)) recInfoS (rec_one ..) ?_
    refine hK.out _ _ ⟨L_8.out.rng, M_8.out.rng, T_8.out.rng⟩ ?_
    clear hK K
    try simp only [Act.put]
    generalize hG7 : World.setCells _ _ _ _ = G7 at *
    clear hG7
    have B9 := Lib.hid (below_setCells (b := w.heap.size + 1 + 1) (show w.heap.size ≤ w.heap.size + 1 + 1 by omega) c2 0 _ B8.out)
    have H1_9 := Lib.hid (H1_8.out.off (b2 := w.heap.size + 1 + 1) (by omega) c2 0)
    have H2_9 := Lib.hid (H2_8.out.sets c2 (by rw [R0.out.2.len]; rfl))
    have H3_9 := Lib.hid (H3_8.out.off (b2 := w.heap.size + 1 + 1) (by omega) c2 0)
    have L_9 := Lib.hid (L_8.out.off (b2 := w.heap.size + 1 + 1) (by have := NB.out; omega) c2 0)
    have M_9 := Lib.hid (M_8.out.off (b2 := w.heap.size + 1 + 1) (by have := NM.out; omega) c2 0)
    have T_9 := Lib.hid (T_8.out.off (b2 := w.heap.size + 1 + 1) (by have := NT.out; omega) c2 0)
    have ET9 := Lib.hid (ET8.out.kept (Kept.setCells c2 0 _ (Kept.refl (fun x => x = w.heap.size + 1 + 1) _)) (fun a n c hv hs => by obtain ⟨e, -, -⟩ := Value.slice.inj hv; obtain rfl := Option.some.inj e; have hs2 : w4.heap.size = w.heap.size + 1 + 1 := hs; have := S4.out; omega))
    refine anyH_one (i := 4) (o := ⟨none, _, _, _, _, _⟩) (by kernel_rfl) rfl (fun K hK => ?_)
    rw [if_pos (by rfl)]
    refine wp_store_mid 32 (.tmp 7) (.tmp 70) rfl (w.heap.size + 1 + 1) 0 c2.toArray rfl rfl ((by rw [show c2.toArray.size = 15 by rw [List.size_toArray]; exact R0.out.2.len]; exact H2_8.out.there 15 (Nat.le_refl _))) R0.out.2.info R0.out.2.one ?_
    refine hK.out _ _ ⟨L_9.out.rng, M_9.out.rng, T_9.out.rng⟩ ?_
    clear hK K
    try simp only [Act.put]
    generalize hG8 : World.setCells _ _ _ _ = G8 at *
    clear hG8
    have B10 := Lib.hid (below_setCells (b := w.heap.size + 1 + 1 + 1) (show w.heap.size ≤ w.heap.size + 1 + 1 + 1 by omega) (recCells (baseS (⟨v.low, v.high, v.unb, v.right, [(v.low, l), (kx, r)], false, 0, 0, ⟨#[]⟩⟩ : IvD)) (.slice none 0 0) (.slice (some ⟨w4.heap.size, 0, none⟩) 2 2)) 0 _ B9.out)
    have H1_10 := Lib.hid (H1_9.out.off (b2 := w.heap.size + 1 + 1 + 1) (by omega) (recCells (baseS (⟨v.low, v.high, v.unb, v.right, [(v.low, l), (kx, r)], false, 0, 0, ⟨#[]⟩⟩ : IvD)) (.slice none 0 0) (.slice (some ⟨w4.heap.size, 0, none⟩) 2 2)) 0)
    have H2_10 := Lib.hid (H2_9.out.off (b2 := w.heap.size + 1 + 1 + 1) (by omega) (recCells (baseS (⟨v.low, v.high, v.unb, v.right, [(v.low, l), (kx, r)], false, 0, 0, ⟨#[]⟩⟩ : IvD)) (.slice none 0 0) (.slice (some ⟨w4.heap.size, 0, none⟩) 2 2)) 0)
    have H3_10 := Lib.hid (H3_9.out.sets (recCells (baseS (⟨v.low, v.high, v.unb, v.right, [(v.low, l), (kx, r)], false, 0, 0, ⟨#[]⟩⟩ : IvD)) (.slice none 0 0) (.slice (some ⟨w4.heap.size, 0, none⟩) 2 2)) rfl)
    have L_10 := Lib.hid (L_9.out.off (b2 := w.heap.size + 1 + 1 + 1) (by have := NB.out; omega) (recCells (baseS (⟨v.low, v.high, v.unb, v.right, [(v.low, l), (kx, r)], false, 0, 0, ⟨#[]⟩⟩ : IvD)) (.slice none 0 0) (.slice (some ⟨w4.heap.size, 0, none⟩) 2 2)) 0)
    have M_10 := Lib.hid (M_9.out.off (b2 := w.heap.size + 1 + 1 + 1) (by have := NM.out; omega) (recCells (baseS (⟨v.low, v.high, v.unb, v.right, [(v.low, l), (kx, r)], false, 0, 0, ⟨#[]⟩⟩ : IvD)) (.slice none 0 0) (.slice (some ⟨w4.heap.size, 0, none⟩) 2 2)) 0)
    have T_10 := Lib.hid (T_9.out.off (b2 := w.heap.size + 1 + 1 + 1) (by have := NT.out; omega) (recCells (baseS (⟨v.low, v.high, v.unb, v.right, [(v.low, l), (kx, r)], false, 0, 0, ⟨#[]⟩⟩ : IvD)) (.slice none 0 0) (.slice (some ⟨w4.heap.size, 0, none⟩) 2 2)) 0)
    have ET10 := Lib.hid (ET9.out.kept (Kept.setCells (recCells (baseS (⟨v.low, v.high, v.unb, v.right, [(v.low, l), (kx, r)], false, 0, 0, ⟨#[]⟩⟩ : IvD)) (.slice none 0 0) (.slice (some ⟨w4.heap.size, 0, none⟩) 2 2)) 0 _ (Kept.refl (fun x => x = w.heap.size + 1 + 1 + 1) _)) (fun a n c hv hs => by obtain ⟨e, -, -⟩ := Value.slice.inj hv; obtain rfl := Option.some.inj e; have hs2 : w4.heap.size = w.heap.size + 1 + 1 + 1 := hs; have := S4.out; omega))
    refine anyH_one (i := 5) (o := ⟨none, _, _, _, _, _⟩) (by kernel_rfl) rfl (fun K hK => ?_)
    rw [if_pos (by rfl)]
    refine wp_store_mid 32 (.tmp 8) (.tmp 71) rfl (w.heap.size + 1 + 1 + 1) 0 (recCells (baseS (⟨v.low, v.high, v.unb, v.right, [(v.low, l), (kx, r)], false, 0, 0, ⟨#[]⟩⟩ : IvD)) (.slice none 0 0) (.slice (some ⟨w4.heap.size, 0, none⟩) 2 2)).toArray rfl rfl (H3_9.out.there 15 (Nat.le_refl _)) recInfoS (rec_one ..) ?_
    refine hK.out _ _ ⟨L_10.out.rng, M_10.out.rng, T_10.out.rng⟩ ?_
    clear hK K
    try simp only [Act.put]
    generalize hG9 : World.setCells _ _ _ _ = G9 at *
    clear hG9
    refine anyH_one (i := 6) (o := ⟨some 9, _, _, _, _, _⟩) (by kernel_rfl) rfl (fun K hK => ?_)
    rw [if_pos (by rfl)]
    go_simp
    refine hK.out _ _ ⟨L_10.out.rng, M_10.out.rng, T_10.out.rng⟩ ?_
    clear hK K
    try simp only [Act.put, List.setIfInBounds_toArray, List.set_cons_zero, List.set_cons_succ]
    refine wpAnyH_done (by kernel_rfl) ?_ _
    go_wp2
    refine bodyPost_ret (v := .tuple #[.agg (recCells (baseS (⟨v.low, kx, false, r, v.ents.take h, false, 0, 0, ⟨#[]⟩⟩ : IvD)) (.slice none 0 0) (.slice (some ⟨b, off, none⟩) h c)).toArray, .agg c2.toArray, .agg (recCells (baseS (⟨v.low, v.high, v.unb, v.right, [(v.low, l), (kx, r)], false, 0, 0, ⟨#[]⟩⟩ : IvD)) (.slice none 0 0) (.slice (some ⟨w4.heap.size, 0, none⟩) 2 2)).toArray, .int .i64 0]) (results_cellC3T rfl _ _ (w.heap.size + 1) (w.heap.size + 1 + 1) (w.heap.size + 1 + 1 + 1) _ _ _ _ _ rfl rfl rfl rfl H1_10.out.rng H2_10.out.rng H3_10.out.rng Tryd.underlying32 rfl recInfoS (by rw [R0.out.2.len]; exact recInfoS) recInfoS) rfl ?_
    have VF := VS.out.below B10.out
    refine ⟨_, _, _, rfl, ?_, (RA.out _ VF).2, ?_, B10.out⟩
    · rw [LR.out]; exact RecA.of (sc := baseS (⟨v.low, kx, false, r, v.ents.take h, false, 0, 0, ⟨#[]⟩⟩ : IvD)) (SV.nil _ _) (TK.out.below B10.out)
    · rw [TR.out]; exact RecA.of (sc := baseS (⟨v.low, v.high, v.unb, v.right, [(v.low, l), (kx, r)], false, 0, 0, ⟨#[]⟩⟩ : IvD)) (SV.nil _ _) ET10.out
def groA (v : IvD) (r : Int) : RecD := if whyI v = 0 then leftR v r else RecD.zero
def groT (v : IvD) (l r : Int) : RecD := if whyI v = 0 then topR v l r else RecD.zero
theorem refGrow_any (v : IvD) (a : Option Addr) (c : Nat) (l r : Int) (w : World) (hv : ViewW w v a c) :
    Calls Tryd.prog 21 #[ivVal v (.slice a v.ents.length c), .int .i64 l, .int .i64 r] w fun ev w' => ∃ cs1 cs2 cs3, ev = .returned (.tuple #[.agg cs1.toArray, .agg cs2.toArray, .agg cs3.toArray, .int .i64 (whyI v)]) ∧ RecA w' cs1 (groA v r) ∧ RecA w' cs2 (splB v) ∧ RecA w' cs3 (groT v l r) ∧ Below w.heap.size w w' := by
  by_cases hw : whyI v = 0
  · unfold groA splB groT
    rw [if_pos hw, if_pos hw, if_pos hw, hw]
    exact refGrow_yes v a c l r w hv hw
  · unfold groA splB groT
    rw [if_neg hw, if_neg hw, if_neg hw]
    refine (refGrow_no v a _ c l r w rfl hw).mono ?_
    rintro ev w' ⟨rfl, hs⟩
    exact ⟨_, _, _, rfl, RecA.zero _, RecA.zero _, RecA.zero _, hs⟩
end Go.Proofs.YtkkmfacngmginaaDoor
