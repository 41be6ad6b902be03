/- Package inner's own functions (layer 8), by contracts: halves. -/
import Derived.Test.YtkkmfacngmginaaInHalvesN
namespace Go.Proofs.Ytkkmfacngmginaa
open Go.RowKit

set_option maxRecDepth 100000 in
set_option maxHeartbeats 4000000 in
theorem halves_yes (v : IvD) (en : Value) (p : Int) (w : World) (hv : SV lEnt w en v.ents) (hw : whyI v = 0) (hl : v.ents.length ≤ 2000) :
    Calls Try.prog 48 #[ivVal v en, .int .i64 p] w fun ev w' => ∃ (b off c : Nat), en = .slice (some ⟨b, off, none⟩) v.ents.length c ∧ ev = .returned (.tuple #[ivVal ⟨v.low, halfK v, false, p, v.ents.take (v.ents.length / 2), false, 0, 0, ⟨#[]⟩⟩ (.slice (some ⟨b, off, none⟩) (v.ents.length / 2) c), ivVal ⟨halfK v, v.high, v.unb, v.right, v.ents.drop (v.ents.length / 2), false, 0, 0, ⟨#[]⟩⟩ (.slice (some ⟨b, off + (v.ents.length / 2) * 2, none⟩) (v.ents.length - v.ents.length / 2) (c - v.ents.length / 2)), .nilIface]) ∧
      SV lEnt w' (.slice (some ⟨b, off, none⟩) (v.ents.length / 2) c) (v.ents.take (v.ents.length / 2)) ∧ SV lEnt w' (.slice (some ⟨b, off + (v.ents.length / 2) * 2, none⟩) (v.ents.length - v.ents.length / 2) (c - v.ents.length / 2)) (v.ents.drop (v.ents.length / 2)) ∧ Below w.heap.size w w' := by
  have hh : v.held = false ∧ 2 ≤ v.ents.length := by
    unfold whyI at hw
    split at hw
    · cases hw
    · next hh =>
      split at hw
      · cases hw
      · next h2 => exact ⟨by simpa using hh, by omega⟩
  obtain ⟨hh, h2⟩ := hh
  obtain ⟨a, c, rfl, hlc, hcm⟩ := hv.lenform
  obtain ⟨b, off, ha⟩ := hv.addr (by omega)
  subst ha
  obtain ⟨h, hhe⟩ : ∃ h, v.ents.length / 2 = h := ⟨_, rfl⟩
  have hk : halfK v = (v.ents.getD h e0).1 := by unfold halfK; rw [hhe]
  obtain ⟨n, hn⟩ : ∃ n, v.ents.length = n := ⟨_, rfl⟩
  rw [hhe, hk, hn]
  rw [hn] at hv hlc hl h2 hhe
  have hx := mem_at (es := v.ents) (i := h) (by omega)
  obtain ⟨⟨kx, px⟩, he⟩ : ∃ e, v.ents.getD h e0 = e := ⟨_, rfl⟩
  rw [he] at hx ⊢
  simp only
  unfold maxLen at hcm
  have TK := Lib.hid (hv.takeV (k := h) (by omega))
  have DK := Lib.hid (hv.dropV (k := h) (by omega) (by omega))
  obtain ⟨W0, hW0⟩ : ∃ W, W = ((w.alloc (ivObj v (.slice (some ⟨b, off, none⟩) n c))).alloc ivZero).alloc ivZero := ⟨_, rfl⟩
  have zq : ((w.alloc (ivObj v (.slice (some ⟨b, off, none⟩) n c))).alloc ivZero).heap.size = w.heap.size + 2 := by simp
  have bq := alloc_below0 ((w.alloc (ivObj v (.slice (some ⟨b, off, none⟩) n c))).alloc ivZero) ivZero
  have ba := alloc2_below w (ivObj v (.slice (some ⟨b, off, none⟩) n c)) ivZero
  have B0 := Lib.hid (show Below w.heap.size w W0 by rw [hW0]; exact ba.trans (bq.mono ba.size))
  have K0 := Lib.hid (show HB w.heap.size (ivObj v (.slice (some ⟨b, off, none⟩) n c)) W0 by rw [hW0]; exact (HB.fst _ _ _).below bq)
  have P0 := Lib.hid (show HB (w.heap.size + 1) ivZero W0 by rw [hW0]; exact (HB.snd _ _ _).below bq)
  have R0 := Lib.hid (show HB (w.heap.size + 1 + 1) ivZero W0 by rw [hW0, show w.heap.size + 1 + 1 = w.heap.size + 2 from rfl, ← zq]; exact HB.new _ _)
  have Z := Lib.hid (show W0.heap.size = w.heap.size + 3 by rw [hW0]; simp)
  have v_4 := K0.out.vb.c4
  have v_5 := K0.out.vb.c5
  have x0 := cell_step (hv.cellAt (j := 0) hx rfl) B0.out
  simp only [lEnt, Nat.add_zero] at x0
  clear v_4 v_5
  have i1 : (n : Int) / 2 = (h : Int) := by omega
  have i2 : (0 : Int) ≤ (h : Int) := by omega
  have i3 : (h : Int) < (n : Int) := by omega
  have i4 : (h : Int) ≤ (c : Int) := by omega
  have i5 : (h : Int) ≤ (n : Int) := by omega
  have i6 : (n : Int) ≤ (c : Int) := by omega
  have i7 : h ≤ c := by omega
  have i8 : ¬ c = h := by omega
  have i9 : (2 : Int) ≤ (n : Int) := by omega
  unfold ivObj ivZero at hW0
  clear zq bq ba hv hn hx he hk hhe hw
  unfold ivVal
  rw [hh] at hW0 ⊢
  clear hh
  rw [hW0] at x0
  go_enter Try.func48, Try.ntmps48
  go_wp2_with fail
  rw [← hW0]
  clear hW0 x0
  have SD := Lib.hid (show (fun w' => w'.cell? ⟨w.heap.size, 0, none⟩ = some (.string v.low) ∧ w'.cell? ⟨w.heap.size, 4, none⟩ = some (.slice (some ⟨b, off, none⟩) n c)) W0.drew from ⟨K0.out.vb.c0, K0.out.vb.c4⟩)
  refine AnyBut.region (fun w' => w'.cell? ⟨w.heap.size, 0, none⟩ = some (.string v.low) ∧ w'.cell? ⟨w.heap.size, 4, none⟩ = some (.slice (some ⟨b, off, none⟩) n c)) 10 (by kernel_rfl) ?_
  refine AnyBut.take (i := 0) (oi := ⟨some 33, _, _, _, _, none⟩) (v := ?va0) rfl (by kernel_rfl) (by kernel_rfl) (by kernel_rfl) (by kernel_rfl) (fun _ _ _ h => h) (Or.inl ⟨by rfl, ?hya0⟩) SD.out ?resta0
  case hya0 => (intro w hSw; go_simp; try (with_reducible rfl))
  simp only [Act.put, List.setIfInBounds_toArray, List.set_cons_zero, List.set_cons_succ]
  refine AnyBut.take (i := 1) (oi := ⟨some 34, _, _, _, _, none⟩) (v := ?va1) rfl (by kernel_rfl) (by kernel_rfl) (by kernel_rfl) (by kernel_rfl) (fun _ _ _ h => h) (Or.inl ⟨by rfl, ?hya1⟩) SD.out ?resta1
  case hya1 => (intro w hSw; go_simp; try (with_reducible rfl))
  simp only [Act.put, List.setIfInBounds_toArray, List.set_cons_zero, List.set_cons_succ]
  refine AnyBut.take (i := 2) (oi := ⟨some 35, _, _, _, _, none⟩) (v := ?va2) rfl (by kernel_rfl) (by kernel_rfl) (by kernel_rfl) (by kernel_rfl) (fun _ _ _ h => h) (Or.inl ⟨by rfl, ?hya2⟩) SD.out ?resta2
  case hya2 => (intro w hSw; go_simp; try (with_reducible rfl))
  simp only [Act.put, List.setIfInBounds_toArray, List.set_cons_zero, List.set_cons_succ]
  refine AnyBut.take (i := 3) (oi := ⟨some 36, _, _, _, _, none⟩) (v := ?va3) rfl (by kernel_rfl) (by kernel_rfl) (by kernel_rfl) (by kernel_rfl) (fun _ _ _ h => h) (Or.inl ⟨by rfl, ?hya3⟩) SD.out ?resta3
  case hya3 => (intro w hSw; go_simp; try (with_reducible rfl))
  simp only [Act.put, List.setIfInBounds_toArray, List.set_cons_zero, List.set_cons_succ]
  refine AnyBut.take (i := 4) (oi := ⟨some 37, _, _, _, _, none⟩) (v := ?va4) rfl (by kernel_rfl) (by kernel_rfl) (by kernel_rfl) (by kernel_rfl) (fun _ _ _ h => h) (Or.inl ⟨by rfl, ?hya4⟩) SD.out ?resta4
  case hya4 => (intro w hSw; go_simp; try (with_reducible rfl))
  simp only [Act.put, List.setIfInBounds_toArray, List.set_cons_zero, List.set_cons_succ]
  refine AnyBut.take (i := 5) (oi := ⟨some 38, _, _, _, _, none⟩) (v := ?va5) rfl (by kernel_rfl) (by kernel_rfl) (by kernel_rfl) (by kernel_rfl) (fun _ _ _ h => h) (Or.inl ⟨by rfl, ?hya5⟩) SD.out ?resta5
  case hya5 => (intro w hSw; go_simp; try (with_reducible rfl))
  simp only [Act.put, List.setIfInBounds_toArray, List.set_cons_zero, List.set_cons_succ]
  refine AnyBut.take (i := 6) (oi := ⟨some 39, _, _, _, _, none⟩) (v := ?va6) rfl (by kernel_rfl) (by kernel_rfl) (by kernel_rfl) (by kernel_rfl) (fun _ _ _ h => h) (Or.inl ⟨by rfl, ?hya6⟩) SD.out ?resta6
  case hya6 => (intro w hSw; go_simp; try (with_reducible rfl))
  simp only [Act.put, List.setIfInBounds_toArray, List.set_cons_zero, List.set_cons_succ]
  refine AnyBut.take (i := 7) (oi := ⟨some 40, _, _, _, _, none⟩) (v := ?va7) rfl (by kernel_rfl) (by kernel_rfl) (by kernel_rfl) (by kernel_rfl) (fun _ _ _ h => h) (Or.inl ⟨by rfl, ?hya7⟩) SD.out ?resta7
  case hya7 => (intro w hSw; go_simp; try (with_reducible rfl))
  simp only [Act.put, List.setIfInBounds_toArray, List.set_cons_zero, List.set_cons_succ]
  refine AnyBut.take (i := 8) (oi := ⟨some 41, _, _, _, _, none⟩) (v := ?va8) rfl (by kernel_rfl) (by kernel_rfl) (by kernel_rfl) (by kernel_rfl) (fun _ _ _ h => h) (Or.inl ⟨by rfl, ?hya8⟩) SD.out ?resta8
  case hya8 => (intro w hSw; go_simp; try (with_reducible rfl))
  simp only [Act.put, List.setIfInBounds_toArray, List.set_cons_zero, List.set_cons_succ]
  have b1 := (Below.refl W0.heap.size W0).alloc (Nat.le_refl _) ivZero
  have b1d := b1.drew
  have S1 := Lib.hid (show (fun w' => w'.cell? ⟨w.heap.size, 0, none⟩ = some (.string v.low) ∧ w'.cell? ⟨w.heap.size, 4, none⟩ = some (.slice (some ⟨b, off, none⟩) n c)) (W0.alloc ivZero).drew from ⟨(K0.out.below b1).drew.vb.c0, (K0.out.below b1).drew.vb.c4⟩)
  refine AnyBut.one (i := 9) (o := ⟨some 9, _, _, _, _, none⟩) (by kernel_rfl) rfl (fun K hK => ?_)
  go_simp
  refine hK.out _ _ (fun _ => S1.out) ?_
  clear hK K
  have H1 := Lib.hid (HB.new ivZero W0).drew
  unfold ivZero at b1d
  obtain ⟨V1, hV1⟩ : ∃ W, W = (W0.alloc (.cells #[.string ⟨#[]⟩, .string ⟨#[]⟩, .bool false, .int .i64 0, .slice none 0 0, .bool false, .int .i64 0, .int .i64 0, .string ⟨#[]⟩] 29)).drew := ⟨_, rfl⟩
  have H2 := Lib.hid (show HB W0.heap.size ivZero V1 by rw [hV1]; exact H1.out)
  have BS := Lib.hid (show V1.heap.size = W0.heap.size + 1 by rw [hV1]; simp [World.drew])
  rw [← hV1] at b1d ⊢
  have B1 := Lib.hid b1d
  clear hV1 b1 b1d H1 S1
  try simp only [Act.put, List.setIfInBounds_toArray, List.set_cons_zero, List.set_cons_succ]
  refine AnyBut.one (i := 10) (o := ⟨none, _, _, _, _, none⟩) (by kernel_rfl) rfl (fun K hK => ?_)
  rw [if_pos (by rfl)]
  refine wp_store_mid 29 (.tmp 9) (.tmp 41) rfl W0.heap.size 0 (ivCells (⟨v.low, kx, false, p, v.ents.take h, false, 0, 0, ⟨#[]⟩⟩ : IvD) (.slice (some ⟨b, off, none⟩) h c)).toArray rfl rfl (H2.out.there 9 (Nat.le_refl _)) ivInfoS (iv_one _ _ _ _) ?_
  refine hK.out _ _ (fun h => absurd rfl h) ?_
  clear hK K
  try simp only [Act.put]
  refine AnyBut.done (by kernel_rfl) ?_ _
  have BW := Lib.hid (below_setCells (b := W0.heap.size) (Nat.le_refl W0.heap.size) (ivCells (⟨v.low, kx, false, p, v.ents.take h, false, 0, 0, ⟨#[]⟩⟩ : IvD) (.slice (some ⟨b, off, none⟩) h c)) 0 _ B1.out)
  have G1 := Lib.hid (H2.out.sets (ivCells (⟨v.low, kx, false, p, v.ents.take h, false, 0, 0, ⟨#[]⟩⟩ : IvD) (.slice (some ⟨b, off, none⟩) h c)) rfl)
  have ZW := Lib.hid (show (V1.setCells W0.heap.size 0 (ivCells (⟨v.low, kx, false, p, v.ents.take h, false, 0, 0, ⟨#[]⟩⟩ : IvD) (.slice (some ⟨b, off, none⟩) h c))).heap.size = W0.heap.size + 1 from by rw [World.size_setCells]; exact BS.out)
  generalize hW1 : World.setCells V1 _ _ _ = W1 at *
  clear hW1 H2 B1 BS SD
  have K1 := Lib.hid (K0.out.below BW.out)
  have P1 := Lib.hid (P0.out.below BW.out)
  have R1 := Lib.hid (R0.out.below BW.out)
  have SE := Lib.hid (show (fun w' => w'.cell? ⟨w.heap.size, 1, none⟩ = some (.string v.high) ∧ w'.cell? ⟨w.heap.size, 2, none⟩ = some (.bool v.unb) ∧ w'.cell? ⟨w.heap.size, 3, none⟩ = some (.int .i64 v.right) ∧ w'.cell? ⟨w.heap.size, 4, none⟩ = some (.slice (some ⟨b, off, none⟩) n c)) W1.drew from ⟨K1.out.vb.c1, K1.out.vb.c2, K1.out.vb.c3, K1.out.vb.c4⟩)
  go_wp2_with fail
  refine AnyBut.region (fun w' => w'.cell? ⟨w.heap.size, 1, none⟩ = some (.string v.high) ∧ w'.cell? ⟨w.heap.size, 2, none⟩ = some (.bool v.unb) ∧ w'.cell? ⟨w.heap.size, 3, none⟩ = some (.int .i64 v.right) ∧ w'.cell? ⟨w.heap.size, 4, none⟩ = some (.slice (some ⟨b, off, none⟩) n c)) 13 (by kernel_rfl) ?_
  refine AnyBut.take (i := 0) (oi := ⟨some 42, _, _, _, _, none⟩) (v := ?vb0) rfl (by kernel_rfl) (by kernel_rfl) (by kernel_rfl) (by kernel_rfl) (fun _ _ _ h => h) (Or.inl ⟨by rfl, ?hyb0⟩) SE.out ?restb0
  case hyb0 => (intro w hSw; go_simp; try (with_reducible rfl))
  simp only [Act.put, List.setIfInBounds_toArray, List.set_cons_zero, List.set_cons_succ]
  refine AnyBut.take (i := 1) (oi := ⟨some 43, _, _, _, _, none⟩) (v := ?vb1) rfl (by kernel_rfl) (by kernel_rfl) (by kernel_rfl) (by kernel_rfl) (fun _ _ _ h => h) (Or.inl ⟨by rfl, ?hyb1⟩) SE.out ?restb1
  case hyb1 => (intro w hSw; go_simp; try (with_reducible rfl))
  simp only [Act.put, List.setIfInBounds_toArray, List.set_cons_zero, List.set_cons_succ]
  refine AnyBut.take (i := 2) (oi := ⟨some 44, _, _, _, _, none⟩) (v := ?vb2) rfl (by kernel_rfl) (by kernel_rfl) (by kernel_rfl) (by kernel_rfl) (fun _ _ _ h => h) (Or.inl ⟨by rfl, ?hyb2⟩) SE.out ?restb2
  case hyb2 => (intro w hSw; go_simp; try (with_reducible rfl))
  simp only [Act.put, List.setIfInBounds_toArray, List.set_cons_zero, List.set_cons_succ]
  refine AnyBut.take (i := 3) (oi := ⟨some 45, _, _, _, _, none⟩) (v := ?vb3) rfl (by kernel_rfl) (by kernel_rfl) (by kernel_rfl) (by kernel_rfl) (fun _ _ _ h => h) (Or.inl ⟨by rfl, ?hyb3⟩) SE.out ?restb3
  case hyb3 => (intro w hSw; go_simp; try (with_reducible rfl))
  simp only [Act.put, List.setIfInBounds_toArray, List.set_cons_zero, List.set_cons_succ]
  refine AnyBut.take (i := 4) (oi := ⟨some 46, _, _, _, _, none⟩) (v := ?vb4) rfl (by kernel_rfl) (by kernel_rfl) (by kernel_rfl) (by kernel_rfl) (fun _ _ _ h => h) (Or.inl ⟨by rfl, ?hyb4⟩) SE.out ?restb4
  case hyb4 => (intro w hSw; go_simp; try (with_reducible rfl))
  simp only [Act.put, List.setIfInBounds_toArray, List.set_cons_zero, List.set_cons_succ]
  refine AnyBut.take (i := 5) (oi := ⟨some 47, _, _, _, _, none⟩) (v := ?vb5) rfl (by kernel_rfl) (by kernel_rfl) (by kernel_rfl) (by kernel_rfl) (fun _ _ _ h => h) (Or.inl ⟨by rfl, ?hyb5⟩) SE.out ?restb5
  case hyb5 => (intro w hSw; go_simp; try (with_reducible rfl))
  simp only [Act.put, List.setIfInBounds_toArray, List.set_cons_zero, List.set_cons_succ]
  refine AnyBut.take (i := 6) (oi := ⟨some 48, _, _, _, _, none⟩) (v := ?vb6) rfl (by kernel_rfl) (by kernel_rfl) (by kernel_rfl) (by kernel_rfl) (fun _ _ _ h => h) (Or.inl ⟨by rfl, ?hyb6⟩) SE.out ?restb6
  case hyb6 => (intro w hSw; go_simp; try (with_reducible rfl))
  simp only [Act.put, List.setIfInBounds_toArray, List.set_cons_zero, List.set_cons_succ]
  refine AnyBut.take (i := 7) (oi := ⟨some 49, _, _, _, _, none⟩) (v := ?vb7) rfl (by kernel_rfl) (by kernel_rfl) (by kernel_rfl) (by kernel_rfl) (fun _ _ _ h => h) (Or.inl ⟨by rfl, ?hyb7⟩) SE.out ?restb7
  case hyb7 => (intro w hSw; go_simp; try (with_reducible rfl))
  simp only [Act.put, List.setIfInBounds_toArray, List.set_cons_zero, List.set_cons_succ]
  refine AnyBut.take (i := 8) (oi := ⟨some 50, _, _, _, _, none⟩) (v := ?vb8) rfl (by kernel_rfl) (by kernel_rfl) (by kernel_rfl) (by kernel_rfl) (fun _ _ _ h => h) (Or.inl ⟨by rfl, ?hyb8⟩) SE.out ?restb8
  case hyb8 => (intro w hSw; go_simp; try (with_reducible rfl))
  simp only [Act.put, List.setIfInBounds_toArray, List.set_cons_zero, List.set_cons_succ]
  refine AnyBut.take (i := 9) (oi := ⟨some 51, _, _, _, _, none⟩) (v := ?vb9) rfl (by kernel_rfl) (by kernel_rfl) (by kernel_rfl) (by kernel_rfl) (fun _ _ _ h => h) (Or.inl ⟨by rfl, ?hyb9⟩) SE.out ?restb9
  case hyb9 => (intro w hSw; go_simp; try (with_reducible rfl))
  simp only [Act.put, List.setIfInBounds_toArray, List.set_cons_zero, List.set_cons_succ]
  refine AnyBut.take (i := 10) (oi := ⟨some 52, _, _, _, _, none⟩) (v := ?vb10) rfl (by kernel_rfl) (by kernel_rfl) (by kernel_rfl) (by kernel_rfl) (fun _ _ _ h => h) (Or.inl ⟨by rfl, ?hyb10⟩) SE.out ?restb10
  case hyb10 => (intro w hSw; go_simp; try (with_reducible rfl))
  simp only [Act.put, List.setIfInBounds_toArray, List.set_cons_zero, List.set_cons_succ]
  refine AnyBut.take (i := 11) (oi := ⟨some 53, _, _, _, _, none⟩) (v := ?vb11) rfl (by kernel_rfl) (by kernel_rfl) (by kernel_rfl) (by kernel_rfl) (fun _ _ _ h => h) (Or.inl ⟨by rfl, ?hyb11⟩) SE.out ?restb11
  case hyb11 => (intro w hSw; go_simp; try (with_reducible rfl))
  simp only [Act.put, List.setIfInBounds_toArray, List.set_cons_zero, List.set_cons_succ]
  have b1 := (Below.refl W1.heap.size W1).alloc (Nat.le_refl _) ivZero
  have b1d := b1.drew
  have S1 := Lib.hid (show (fun w' => w'.cell? ⟨w.heap.size, 1, none⟩ = some (.string v.high) ∧ w'.cell? ⟨w.heap.size, 2, none⟩ = some (.bool v.unb) ∧ w'.cell? ⟨w.heap.size, 3, none⟩ = some (.int .i64 v.right) ∧ w'.cell? ⟨w.heap.size, 4, none⟩ = some (.slice (some ⟨b, off, none⟩) n c)) (W1.alloc ivZero).drew from by have V := (K1.out.below b1).drew.vb; exact ⟨V.c1, V.c2, V.c3, V.c4⟩)
  refine AnyBut.one (i := 12) (o := ⟨some 10, _, _, _, _, none⟩) (by kernel_rfl) rfl (fun K hK => ?_)
  go_simp
  refine hK.out _ _ (fun _ => S1.out) ?_
  clear hK K
  have H1 := Lib.hid (HB.new ivZero W1).drew
  unfold ivZero at b1d
  obtain ⟨V2, hV2⟩ : ∃ W, W = (W1.alloc (.cells #[.string ⟨#[]⟩, .string ⟨#[]⟩, .bool false, .int .i64 0, .slice none 0 0, .bool false, .int .i64 0, .int .i64 0, .string ⟨#[]⟩] 29)).drew := ⟨_, rfl⟩
  have H2 := Lib.hid (show HB W1.heap.size ivZero V2 by rw [hV2]; exact H1.out)
  rw [← hV2] at b1d ⊢
  have B1 := Lib.hid b1d
  clear hV2 b1 b1d H1 S1
  try simp only [Act.put, List.setIfInBounds_toArray, List.set_cons_zero, List.set_cons_succ]
  refine AnyBut.one (i := 13) (o := ⟨none, _, _, _, _, none⟩) (by kernel_rfl) rfl (fun K hK => ?_)
  rw [if_pos (by rfl)]
  refine wp_store_mid 29 (.tmp 10) (.tmp 53) rfl W1.heap.size 0 (ivCells (⟨kx, v.high, v.unb, v.right, v.ents.drop h, false, 0, 0, ⟨#[]⟩⟩ : IvD) (.slice (some ⟨b, off + h * 2, none⟩) (n - h) (c - h))).toArray rfl rfl (H2.out.there 9 (Nat.le_refl _)) ivInfoS (iv_one _ _ _ _) ?_
  refine hK.out _ _ (fun h => absurd rfl h) ?_
  clear hK K
  try simp only [Act.put]
  refine AnyBut.done (by kernel_rfl) ?_ _
  have BX := Lib.hid (below_setCells (b := W1.heap.size) (Nat.le_refl W1.heap.size) (ivCells (⟨kx, v.high, v.unb, v.right, v.ents.drop h, false, 0, 0, ⟨#[]⟩⟩ : IvD) (.slice (some ⟨b, off + h * 2, none⟩) (n - h) (c - h))) 0 _ B1.out)
  have G2 := Lib.hid (H2.out.sets (ivCells (⟨kx, v.high, v.unb, v.right, v.ents.drop h, false, 0, 0, ⟨#[]⟩⟩ : IvD) (.slice (some ⟨b, off + h * 2, none⟩) (n - h) (c - h))) rfl)
  generalize hW2 : World.setCells V2 _ _ _ = W2 at *
  clear hW2 H2 B1 SE
  have G1 := Lib.hid (G1.out.below BX.out)
  have K2 := Lib.hid (K1.out.below BX.out)
  have P2 := Lib.hid (P1.out.below BX.out)
  have R2 := Lib.hid (R1.out.below BX.out)
  have iv1 := iv_range (v := (⟨v.low, kx, false, p, v.ents.take h, false, 0, 0, ⟨#[]⟩⟩ : IvD)) (en := (.slice (some ⟨b, off, none⟩) h c)) G1.out
  have iv2 := iv_range (v := (⟨kx, v.high, v.unb, v.right, v.ents.drop h, false, 0, 0, ⟨#[]⟩⟩ : IvD)) (en := (.slice (some ⟨b, off + h * 2, none⟩) (n - h) (c - h))) G2.out
  have SF := Lib.hid (show (fun w' => w'.rangeAt W0.heap.size 0 (ivCells (⟨v.low, kx, false, p, v.ents.take h, false, 0, 0, ⟨#[]⟩⟩ : IvD) (.slice (some ⟨b, off, none⟩) h c)) ∧ w'.rangeAt W1.heap.size 0 (ivCells (⟨kx, v.high, v.unb, v.right, v.ents.drop h, false, 0, 0, ⟨#[]⟩⟩ : IvD) (.slice (some ⟨b, off + h * 2, none⟩) (n - h) (c - h)))) W2.drew from ⟨iv1, iv2⟩)
  go_wp2_with fail
  refine AnyBut.region (fun w' => w'.rangeAt W0.heap.size 0 (ivCells (⟨v.low, kx, false, p, v.ents.take h, false, 0, 0, ⟨#[]⟩⟩ : IvD) (.slice (some ⟨b, off, none⟩) h c)) ∧ w'.rangeAt W1.heap.size 0 (ivCells (⟨kx, v.high, v.unb, v.right, v.ents.drop h, false, 0, 0, ⟨#[]⟩⟩ : IvD) (.slice (some ⟨b, off + h * 2, none⟩) (n - h) (c - h)))) 4 (by kernel_rfl) ?_
  refine AnyBut.take (i := 0) (oi := ⟨some 54, _, _, _, _, none⟩) (v := .agg (ivCells (⟨v.low, kx, false, p, v.ents.take h, false, 0, 0, ⟨#[]⟩⟩ : IvD) (.slice (some ⟨b, off, none⟩) h c)).toArray) rfl (by kernel_rfl) (by kernel_rfl) (by kernel_rfl) (by kernel_rfl) (fun _ _ _ h => h) (yieldsIf_load_mid (by rfl) 29 (.tmp 9) rfl W0.heap.size 0 rfl (ivCells (⟨v.low, kx, false, p, v.ents.take h, false, 0, 0, ⟨#[]⟩⟩ : IvD) (.slice (some ⟨b, off, none⟩) h c)) _ (fun w h => h.1) Try.underlying29 rfl ivInfoS) SF.out ?restc0
  simp only [Act.put, List.setIfInBounds_toArray, List.set_cons_zero, List.set_cons_succ]
  refine AnyBut.take (i := 1) (oi := ⟨some 55, _, _, _, _, none⟩) (v := .agg (ivCells (⟨kx, v.high, v.unb, v.right, v.ents.drop h, false, 0, 0, ⟨#[]⟩⟩ : IvD) (.slice (some ⟨b, off + h * 2, none⟩) (n - h) (c - h))).toArray) rfl (by kernel_rfl) (by kernel_rfl) (by kernel_rfl) (by kernel_rfl) (fun _ _ _ h => h) (yieldsIf_load_mid (by rfl) 29 (.tmp 10) rfl W1.heap.size 0 rfl (ivCells (⟨kx, v.high, v.unb, v.right, v.ents.drop h, false, 0, 0, ⟨#[]⟩⟩ : IvD) (.slice (some ⟨b, off + h * 2, none⟩) (n - h) (c - h))) _ (fun w h => h.2) Try.underlying29 rfl ivInfoS) SF.out ?restc1
  simp only [Act.put, List.setIfInBounds_toArray, List.set_cons_zero, List.set_cons_succ]
  have hz2 := BX.out.size
  have hz1 := ZW.out
  have hz0 := Z.out
  have P3 := Lib.hid (show HB (w.heap.size + 1) ivZero W2.drew from P2.out.drew)
  have R3 := Lib.hid (show HB (w.heap.size + 1 + 1) ivZero W2.drew from R2.out.drew)
  have G3 := Lib.hid (show HB W0.heap.size (ivObj (⟨v.low, kx, false, p, v.ents.take h, false, 0, 0, ⟨#[]⟩⟩ : IvD) (.slice (some ⟨b, off, none⟩) h c)) W2.drew from G1.out.drew)
  have G4 := Lib.hid (show HB W1.heap.size (ivObj (⟨kx, v.high, v.unb, v.right, v.ents.drop h, false, 0, 0, ⟨#[]⟩⟩ : IvD) (.slice (some ⟨b, off + h * 2, none⟩) (n - h) (c - h))) W2.drew from G2.out.drew)
  have P4 := Lib.hid (P3.out.sets (ivCells (⟨v.low, kx, false, p, v.ents.take h, false, 0, 0, ⟨#[]⟩⟩ : IvD) (.slice (some ⟨b, off, none⟩) h c)) rfl)
  have R4 := Lib.hid (R3.out.off (b2 := w.heap.size + 1) (by omega) (ivCells (⟨v.low, kx, false, p, v.ents.take h, false, 0, 0, ⟨#[]⟩⟩ : IvD) (.slice (some ⟨b, off, none⟩) h c)) 0)
  have G5 := Lib.hid (G3.out.off (b2 := w.heap.size + 1) (by omega) (ivCells (⟨v.low, kx, false, p, v.ents.take h, false, 0, 0, ⟨#[]⟩⟩ : IvD) (.slice (some ⟨b, off, none⟩) h c)) 0)
  have G6 := Lib.hid (G4.out.off (b2 := w.heap.size + 1) (by omega) (ivCells (⟨v.low, kx, false, p, v.ents.take h, false, 0, 0, ⟨#[]⟩⟩ : IvD) (.slice (some ⟨b, off, none⟩) h c)) 0)
  refine AnyBut.one (i := 2) (o := ⟨none, _, _, _, _, none⟩) (by kernel_rfl) rfl (fun K hK => ?_)
  rw [if_pos (by rfl)]
  refine wp_store_mid 29 (.tmp 4) (.tmp 54) rfl (w.heap.size + 1) 0 (ivCells (⟨v.low, kx, false, p, v.ents.take h, false, 0, 0, ⟨#[]⟩⟩ : IvD) (.slice (some ⟨b, off, none⟩) h c)).toArray rfl rfl (P3.out.there 9 (Nat.le_refl _)) ivInfoS (iv_one _ _ _ _) ?_
  refine hK.out _ _ (fun _ => ⟨iv_range G5.out, iv_range G6.out⟩) ?_
  clear hK K
  try simp only [Act.put]
  have BY := Lib.hid (below_setCells (b := w.heap.size + 1) (Nat.le_succ w.heap.size) (ivCells (⟨v.low, kx, false, p, v.ents.take h, false, 0, 0, ⟨#[]⟩⟩ : IvD) (.slice (some ⟨b, off, none⟩) h c)) 0 _ (show Below w.heap.size w W2.drew from (B0.out.trans ((BW.out.trans (BX.out.mono BW.out.size)).mono B0.out.size)).drew))
  generalize hW3 : World.setCells W2.drew _ _ _ = W3 at *
  clear hW3
  have P5 := Lib.hid (P4.out.off (b2 := w.heap.size + 1 + 1) (by omega) (ivCells (⟨kx, v.high, v.unb, v.right, v.ents.drop h, false, 0, 0, ⟨#[]⟩⟩ : IvD) (.slice (some ⟨b, off + h * 2, none⟩) (n - h) (c - h))) 0)
  have R5 := Lib.hid (R4.out.sets (ivCells (⟨kx, v.high, v.unb, v.right, v.ents.drop h, false, 0, 0, ⟨#[]⟩⟩ : IvD) (.slice (some ⟨b, off + h * 2, none⟩) (n - h) (c - h))) rfl)
  have G7 := Lib.hid (G5.out.off (b2 := w.heap.size + 1 + 1) (by omega) (ivCells (⟨kx, v.high, v.unb, v.right, v.ents.drop h, false, 0, 0, ⟨#[]⟩⟩ : IvD) (.slice (some ⟨b, off + h * 2, none⟩) (n - h) (c - h))) 0)
  have G8 := Lib.hid (G6.out.off (b2 := w.heap.size + 1 + 1) (by omega) (ivCells (⟨kx, v.high, v.unb, v.right, v.ents.drop h, false, 0, 0, ⟨#[]⟩⟩ : IvD) (.slice (some ⟨b, off + h * 2, none⟩) (n - h) (c - h))) 0)
  refine AnyBut.one (i := 3) (o := ⟨none, _, _, _, _, none⟩) (by kernel_rfl) rfl (fun K hK => ?_)
  rw [if_pos (by rfl)]
  refine wp_store_mid 29 (.tmp 5) (.tmp 55) rfl (w.heap.size + 1 + 1) 0 (ivCells (⟨kx, v.high, v.unb, v.right, v.ents.drop h, false, 0, 0, ⟨#[]⟩⟩ : IvD) (.slice (some ⟨b, off + h * 2, none⟩) (n - h) (c - h))).toArray rfl rfl (R4.out.there 9 (Nat.le_refl _)) ivInfoS (iv_one _ _ _ _) ?_
  refine hK.out _ _ (fun _ => ⟨iv_range G7.out, iv_range G8.out⟩) ?_
  clear hK K
  try simp only [Act.put]
  have BZ := Lib.hid (below_setCells (b := w.heap.size + 1 + 1) (show w.heap.size ≤ w.heap.size + 1 + 1 by omega) (ivCells (⟨kx, v.high, v.unb, v.right, v.ents.drop h, false, 0, 0, ⟨#[]⟩⟩ : IvD) (.slice (some ⟨b, off + h * 2, none⟩) (n - h) (c - h))) 0 _ BY.out)
  generalize hW4 : World.setCells W3 _ _ _ = W4 at *
  clear hW4
  refine AnyBut.one (i := 4) (o := ⟨some 6, _, _, _, _, none⟩) (by kernel_rfl) rfl (fun K hK => ?_)
  go_simp
  refine hK.out _ _ (fun h => absurd rfl h) ?_
  clear hK K
  try simp only [Act.put, List.setIfInBounds_toArray, List.set_cons_zero, List.set_cons_succ]
  refine AnyBut.done (by kernel_rfl) ?_ _
  go_wp2
  refine bodyPost_ret (v := .tuple #[.agg (ivCells (⟨v.low, kx, false, p, v.ents.take h, false, 0, 0, ⟨#[]⟩⟩ : IvD) (.slice (some ⟨b, off, none⟩) h c)).toArray, .agg (ivCells (⟨kx, v.high, v.unb, v.right, v.ents.drop h, false, 0, 0, ⟨#[]⟩⟩ : IvD) (.slice (some ⟨b, off + h * 2, none⟩) (n - h) (c - h))).toArray, .nilIface]) (results_cellCCT rfl _ _ (w.heap.size + 1) (w.heap.size + 1 + 1) _ _ _ _ _ rfl rfl rfl (iv_range P5.out) (iv_range R5.out) Try.underlying29 rfl ivInfoS Try.underlying29 rfl ivInfoS) rfl ?_
  exact ⟨b, off, c, rfl, rfl, TK.out.below BZ.out, DK.out.below BZ.out, BZ.out⟩
end Go.Proofs.Ytkkmfacngmginaa
