/- Package inner's own functions (layer 8), by contracts: dropped. -/
import Derived.Test.YtkkmfacngmginaaInEnd
namespace Go.Proofs.Ytkkmfacngmginaa
open Go.RowKit

set_option maxHeartbeats 4000000 in
set_option maxRecDepth 100000 in
set_option maxHeartbeats 4000000 in
theorem dropped_any (v : IvD) (en : Value) (w : World) (hv : SV lEnt w en v.ents) (g : GoodI v) (hh : v.held = true) (hl : v.ents.length ≤ 2000) :
    Calls Try.prog 85 #[ivVal v en] w fun ev w' => ∃ en', ev = .returned (ivVal ((dropI v).getD IvD.zero) en') ∧ OwnS lEnt w.heap.size w' en' ((dropI v).getD IvD.zero).ents ∧ Below w.heap.size w w' := by
  obtain ⟨m, hm⟩ : ∃ m, aheadE v.ents v.hk = m := ⟨_, rfl⟩
  obtain ⟨ht, hd⟩ := dropI_place g hh
  have hmn := (there_key ht).1
  obtain ⟨a, c, rfl, hlc, hcm⟩ := hv.lenform
  obtain ⟨b, off, ha⟩ := hv.addr (by omega)
  subst ha
  obtain ⟨n, hn⟩ : ∃ n, v.ents.length = n := ⟨_, rfl⟩
  have LN := Lib.hid hn
  obtain ⟨q, hq⟩ : ∃ q, n - 1 = q := ⟨_, rfl⟩
  rw [hm] at hd hmn
  rw [hn] at hv hlc hl hmn
  have MN := Lib.hid hmn
  have LL := Lib.hid (show (v.ents.take m).length + (v.ents.drop (m + 1)).length ≤ 10000 by rw [List.length_take, List.length_drop]; omega)
  have LE := Lib.hid (show (v.ents.take m ++ v.ents.drop (m + 1)).length = q by rw [List.length_append, List.length_take, List.length_drop]; omega)
  have P := Lib.hid (show dropI v = some (⟨v.low, v.high, v.unb, v.right, v.ents.take m ++ v.ents.drop (m + 1), false, 0, 0, ⟨#[]⟩⟩ : IvD) from hd)
  have HM := Lib.hid hm
  have HL := Lib.hid hl
  have HR := Lib.hid g.ris
  have HT := Lib.hid ht
  unfold maxLen at hcm
  rw [hn]
  clear hn hm ht hd g hh hq
  have i1 : (0 : Int) ≤ (m : Int) := by omega
  have i3 : (n : Int) ≤ (c : Int) := by omega
  have i4 : (m : Int) ≤ (c : Int) := by omega
  have i5 : IntKind.i64.wrap ((m : Int) + 1) = (m : Int) + 1 := Go.IntWalk.i64_in _ (by omega)
  have i6 : (0 : Int) ≤ (m : Int) + 1 := by omega
  have i7 : (m : Int) + 1 ≤ (n : Int) := by omega
  have i8 : (m : Int) + 1 ≤ (c : Int) := by omega
  obtain ⟨W0, hW0⟩ : ∃ W, W = (w.alloc (ivObj v (.slice (some ⟨b, off, none⟩) n c))).alloc ivZero := ⟨_, rfl⟩
  have B0 := Lib.hid (show Below w.heap.size w W0 by rw [hW0]; exact alloc2_below _ _ _)
  have K0 := Lib.hid (show HB w.heap.size (ivObj v (.slice (some ⟨b, off, none⟩) n c)) W0 by rw [hW0]; exact HB.fst _ _ _)
  have R0 := Lib.hid (show HB (w.heap.size + 1) ivZero W0 by rw [hW0]; exact HB.snd _ _ _)
  have Z := Lib.hid (show W0.heap.size = w.heap.size + 2 by rw [hW0]; simp)
  have EE := Lib.hid (hv.below B0.out)
  have v_0 := K0.out.vb.c0
  have v_1 := K0.out.vb.c1
  have v_2 := K0.out.vb.c2
  have v_3 := K0.out.vb.c3
  have v_4 := K0.out.vb.c4
  have v_5 := K0.out.vb.c5
  have v_6 := K0.out.vb.c6
  have v_7 := K0.out.vb.c7
  have v_8 := K0.out.vb.c8
  unfold ivObj ivZero at hW0
  clear hv
  unfold ivVal
  go_enter Try.func85, Try.ntmps85
  go_wp2_with fail
  rw [← hW0]
  refine (findI_any v (.slice (some ⟨b, off, none⟩) n c) v.hk W0 EE.out HR.out (by rw [LN.out]; exact HL.out)).mono ?_
  rintro ev w2 ⟨rfl, hs⟩
  unfold findV
  rw [HM.out, HT.out]
  clear hW0 v_0 v_1 v_2 v_3 v_4 v_5 v_6 v_7 v_8
  have B2 := Lib.hid hs
  have K2 := Lib.hid (K0.out.below hs)
  have R2 := Lib.hid (R0.out.below hs)
  have E := Lib.hid (EE.out.below hs)
  clear hs K0 R0
  have Z2 := B2.out.size
  have Z := Lib.hid (show w.heap.size + 2 ≤ w2.heap.size by rw [← Z.out]; exact B2.out.size)
  have B0 := Lib.hid (B0.out.trans (B2.out.mono B0.out.size))
  have HS := Lib.hid (show ∀ w1, Below w2.heap.size w2 w1 → (fun w' => w'.cell? ⟨w.heap.size, 4, none⟩ = some (.slice (some ⟨b, off, none⟩) n c)) w1 from fun w1 hs => (K2.out.below hs).vb.c4)
  have SD := Lib.hid (HS.out w2.drew (Below.refl _ _).drew)
  go_wp2_with fail
  by_cases hcn : c = m + 1
  · have hnc : n = m + 1 := by omega
    subst hcn
    subst hnc
    have j1 : (m : Int) ≤ (m : Int) + 1 := by omega
    refine AnyBut.region (fun w' => w'.cell? ⟨w.heap.size, 4, none⟩ = some (.slice (some ⟨b, off, none⟩) (m + 1) (m + 1))) 12 (by kernel_rfl) ?_
    refine AnyBut.take (i := 0) (oi := ⟨some 13, _, _, _, _, none⟩) (v := ?va0) rfl (by kernel_rfl) (by kernel_rfl) (by kernel_rfl) (by kernel_rfl) (fun _ _ _ h => h) (Or.inl ⟨by rfl, ?hya0⟩) SD.out ?resta0
    case hya0 => (intro w hSw; go_simp; try (with_reducible rfl))
    simp only [Act.put, List.setIfInBounds_toArray, List.set_cons_zero, List.set_cons_succ]
    refine AnyBut.take (i := 1) (oi := ⟨some 14, _, _, _, _, none⟩) (v := ?va1) rfl (by kernel_rfl) (by kernel_rfl) (by kernel_rfl) (by kernel_rfl) (fun _ _ _ h => h) (Or.inl ⟨by rfl, ?hya1⟩) SD.out ?resta1
    case hya1 => (intro w hSw; go_simp; try (with_reducible rfl))
    simp only [Act.put, List.setIfInBounds_toArray, List.set_cons_zero, List.set_cons_succ]
    refine AnyBut.take (i := 2) (oi := ⟨some 15, _, _, _, _, none⟩) (v := ?va2) rfl (by kernel_rfl) (by kernel_rfl) (by kernel_rfl) (by kernel_rfl) (fun _ _ _ h => h) (Or.inl ⟨by rfl, ?hya2⟩) SD.out ?resta2
    case hya2 => (intro w hSw; go_simp; try (with_reducible rfl))
    simp only [Act.put, List.setIfInBounds_toArray, List.set_cons_zero, List.set_cons_succ]
    refine AnyBut.take (i := 3) (oi := ⟨some 16, _, _, _, _, none⟩) (v := ?va3) rfl (by kernel_rfl) (by kernel_rfl) (by kernel_rfl) (by kernel_rfl) (fun _ _ _ h => h) (Or.inl ⟨by rfl, ?hya3⟩) SD.out ?resta3
    case hya3 => (intro w hSw; go_simp; try (with_reducible rfl))
    simp only [Act.put, List.setIfInBounds_toArray, List.set_cons_zero, List.set_cons_succ]
    refine AnyBut.take (i := 4) (oi := ⟨some 17, _, _, _, _, none⟩) (v := ?va4) rfl (by kernel_rfl) (by kernel_rfl) (by kernel_rfl) (by kernel_rfl) (fun _ _ _ h => h) (Or.inl ⟨by rfl, ?hya4⟩) SD.out ?resta4
    case hya4 => (intro w hSw; go_simp; try (with_reducible rfl))
    simp only [Act.put, List.setIfInBounds_toArray, List.set_cons_zero, List.set_cons_succ]
    refine AnyBut.take (i := 5) (oi := ⟨some 18, _, _, _, _, none⟩) (v := ?va5) rfl (by kernel_rfl) (by kernel_rfl) (by kernel_rfl) (by kernel_rfl) (fun _ _ _ h => h) (Or.inl ⟨by rfl, ?hya5⟩) SD.out ?resta5
    case hya5 => (intro w hSw; go_simp; try (with_reducible rfl))
    simp only [Act.put, List.setIfInBounds_toArray, List.set_cons_zero, List.set_cons_succ]
    refine AnyBut.take (i := 6) (oi := ⟨some 19, _, _, _, _, none⟩) (v := ?va6) rfl (by kernel_rfl) (by kernel_rfl) (by kernel_rfl) (by kernel_rfl) (fun _ _ _ h => h) (Or.inl ⟨by rfl, ?hya6⟩) SD.out ?resta6
    case hya6 => (intro w hSw; go_simp; try (with_reducible rfl))
    simp only [Act.put, List.setIfInBounds_toArray, List.set_cons_zero, List.set_cons_succ]
    refine AnyBut.take (i := 7) (oi := ⟨some 20, _, _, _, _, none⟩) (v := ?va7) rfl (by kernel_rfl) (by kernel_rfl) (by kernel_rfl) (by kernel_rfl) (fun _ _ _ h => h) (Or.inl ⟨by rfl, ?hya7⟩) SD.out ?resta7
    case hya7 => (intro w hSw; go_simp; try (with_reducible rfl))
    simp only [Act.put, List.setIfInBounds_toArray, List.set_cons_zero, List.set_cons_succ]
    refine AnyBut.take (i := 8) (oi := ⟨some 21, _, _, _, _, none⟩) (v := ?va8) rfl (by kernel_rfl) (by kernel_rfl) (by kernel_rfl) (by kernel_rfl) (fun _ _ _ h => h) (Or.inl ⟨by rfl, ?hya8⟩) SD.out ?resta8
    case hya8 => (intro w hSw; go_simp; try (with_reducible rfl))
    simp only [Act.put, List.setIfInBounds_toArray, List.set_cons_zero, List.set_cons_succ]
    have b2 := ((Below.refl w2.heap.size w2).alloc (Nat.le_refl _) (.cells #[.slice (some ⟨b, off, none⟩) m (m + 1), .slice (some ⟨b, off, none⟩) 0 0] 25)).drew
    have k2 := Lib.hid (HB.new (.cells #[.slice (some ⟨b, off, none⟩) m (m + 1), .slice (some ⟨b, off, none⟩) 0 0] 25) w2).drew
    refine AnyBut.one (i := 9) (o := ⟨some 22, _, _, _, _, none⟩) (by kernel_rfl) rfl (fun K hK => ?_)
    go_simp
    refine hK.out _ _ (fun _ => HS.out _ b2) ?_
    clear hK K
    obtain ⟨W2, hW2⟩ : ∃ W, W = (w2.alloc (.cells #[.slice (some ⟨b, off, none⟩) m (m + 1), .slice (some ⟨b, off, none⟩) 0 0] 25)).drew := ⟨_, rfl⟩
    rw [← hW2] at b2 k2 ⊢
    clear hW2
    have B2 := Lib.hid b2
    have E2 := Lib.hid (E.out.below b2)
    clear b2
    try simp only [Act.put, List.setIfInBounds_toArray, List.set_cons_zero, List.set_cons_succ]
    refine AnyBut.one (i := 10) (o := ⟨some 23, _, _, _, _, none⟩) (by kernel_rfl) rfl (fun K hK => ?_)
    go_simp
    refine (catE2 W2 w2.heap.size (.slice (some ⟨b, off, none⟩) m (m + 1)) (.slice (some ⟨b, off, none⟩) 0 0) (v.ents.take m) (v.ents.drop (m + 1)) k2.out (E2.out.takeV (by rw [LN.out]; exact Nat.le_of_lt MN.out)) (SV.dropE _ (by rw [LN.out]; omega)) LL.out).mono ?_
    rintro ev w3 ⟨v3, rfl, ho, hs⟩
    obtain ⟨a3, c3, rfl, -, -⟩ := ho.lenN LE.out
    have B3 := Lib.hid (B2.out.trans (hs.mono B2.out.size))
    have O3 := Lib.hid ho
    have BW := Lib.hid B2.out.size
    clear ho hs
    refine hK.out _ _ (fun _ => HS.out _ B3.out) ?_
    clear hK K
    try simp only [Act.put, List.setIfInBounds_toArray, List.set_cons_zero, List.set_cons_succ]
    refine AnyBut.one (i := 11) (o := ⟨some 24, _, _, _, _, none⟩) (by kernel_rfl) rfl (fun K hK => ?_)
    go_simp
    refine hK.out _ _ (fun _ => HS.out _ B3.out) ?_
    clear hK K
    try simp only [Act.put, List.setIfInBounds_toArray, List.set_cons_zero, List.set_cons_succ]
    have K3 := Lib.hid (K2.out.below B3.out)
    have R3 := Lib.hid (R2.out.below B3.out)
    have c4 := K3.out.cell 4
    have f4 := K3.out.free 4
    simp at c4
    refine AnyBut.one (i := 12) (o := ⟨none, _, _, _, _, none⟩) (by kernel_rfl) rfl (fun K hK => ?_)
    go_simp
    refine hK.out _ _ (fun h => absurd rfl h) ?_
    clear hK K
    try simp only [Act.put, List.setIfInBounds_toArray, List.set_cons_zero, List.set_cons_succ]
    refine AnyBut.done (by kernel_rfl) ?_ _
    have Z3 := B3.out.size
    have K4 := Lib.hid (show HB w.heap.size (ivObj (⟨v.low, v.high, v.unb, v.right, v.ents.take m ++ v.ents.drop (m + 1), v.held, v.hp, v.hl, v.hk⟩ : IvD) (.slice a3 q c3)) (w3.setCell ⟨w.heap.size, 4, none⟩ (.slice a3 q c3)) from K3.out.set1 4 _)
    have R4 := Lib.hid (R3.out.off1 (b2 := w.heap.size) (by omega) 4 (.slice a3 q c3))
    have O4 := Lib.hid (O3.out.set1 (b := w.heap.size) (by have := BW.out; have := Z.out; omega) 4 (.slice a3 q c3))
    have B4 := Lib.hid (((Kept.refl (fun x => x = w.heap.size) w3).setCell 4 (.slice a3 q c3)).below (n := w.heap.size) (fun k h => by omega) (by have := Z.out; omega))
    have B5 := Lib.hid (B0.out.trans ((B3.out.mono (by have := Z.out; omega)).trans B4.out))
    generalize hW4 : World.setCell _ _ _ = W4 at *
    clear hW4 c4 f4
    have c5 := K4.out.cell 5
    have c6 := K4.out.cell 6
    have c7 := K4.out.cell 7
    have c8 := K4.out.cell 8
    simp at c5 c6 c7 c8
    have f5 := K4.out.free 5
    have f6 := K4.out.free 6
    have f7 := K4.out.free 7
    have f8 := K4.out.free 8
    have K5 := (((K4.out.set1 5 (.bool false)).set1 6 (.int .i64 0)).set1 7 (.int .i64 0)).set1 8 (.string ⟨#[]⟩)
    have K6 := Lib.hid (show HB w.heap.size (ivObj (⟨v.low, v.high, v.unb, v.right, v.ents.take m ++ v.ents.drop (m + 1), false, 0, 0, ⟨#[]⟩⟩ : IvD) (.slice a3 q c3)) _ from K5)
    have R6 := Lib.hid ((((R4.out.off1 (b2 := w.heap.size) (by omega) 5 (.bool false)).off1 (b2 := w.heap.size) (by omega) 6 (.int .i64 0)).off1 (b2 := w.heap.size) (by omega) 7 (.int .i64 0)).off1 (b2 := w.heap.size) (by omega) 8 (.string ⟨#[]⟩))
    have hb5 : w.heap.size < w2.heap.size := by have := Z.out; omega
    have hb6 : w.heap.size < W2.heap.size := by have := BW.out; omega
    have O6 := Lib.hid ((((O4.out.set1 (b := w.heap.size) hb6 5 (.bool false)).set1 (b := w.heap.size) hb6 6 (.int .i64 0)).set1 (b := w.heap.size) hb6 7 (.int .i64 0)).set1 (b := w.heap.size) hb6 8 (.string ⟨#[]⟩))
    have KT := (((((Kept.refl (fun x => x = w.heap.size) W4).setCell 5 (.bool false)).setCell 6 (.int .i64 0)).setCell 7 (.int .i64 0)).setCell 8 (.string ⟨#[]⟩)).below (n := w.heap.size) (fun k h => by omega) B5.out.size
    have B7 := Lib.hid (B5.out.trans KT)
    have rg := iv_range K6.out
    clear K5 KT
    go_wp2_with (first | (refine wpList_load_mid rfl 29 (.tmp 1) rfl w.heap.size 0 rfl (ivCells (⟨v.low, v.high, v.unb, v.right, v.ents.take m ++ v.ents.drop (m + 1), false, 0, 0, ⟨#[]⟩⟩ : IvD) (.slice a3 q c3)) _ ?_ Try.underlying29 rfl ivInfoS ?_; exact rg; generalize hW6 : World.setCell (World.setCell (World.setCell (World.setCell W4 _ _) _ _) _ _) _ _ = W6 at K6 R6 O6 B7 rg ⊢; clear hW6) | (refine wpList_store_mid rfl 29 (.tmp 2) (.tmp 28) rfl (w.heap.size + 1) 0 (ivCells (⟨v.low, v.high, v.unb, v.right, v.ents.take m ++ v.ents.drop (m + 1), false, 0, 0, ⟨#[]⟩⟩ : IvD) (.slice a3 q c3)).toArray rfl rfl ?_ ivInfoS (iv_one _ _ _ _) ?_; exact R6.out.there 9 (Nat.le_refl _)))
    have O7 := O6.out.sets (b := w.heap.size + 1) (by have := BW.out; have := Z.out; omega) 0 (ivCells (⟨v.low, v.high, v.unb, v.right, v.ents.take m ++ v.ents.drop (m + 1), false, 0, 0, ⟨#[]⟩⟩ : IvD) (.slice a3 q c3))
    have B8 := below_setCells (b := w.heap.size + 1) (show w.heap.size ≤ w.heap.size + 1 by omega) (ivCells (⟨v.low, v.high, v.unb, v.right, v.ents.take m ++ v.ents.drop (m + 1), false, 0, 0, ⟨#[]⟩⟩ : IvD) (.slice a3 q c3)) 0 _ B7.out
    refine bodyPost_ret (v := .agg (ivCells (⟨v.low, v.high, v.unb, v.right, v.ents.take m ++ v.ents.drop (m + 1), false, 0, 0, ⟨#[]⟩⟩ : IvD) (.slice a3 q c3)).toArray) (results_cell1 rfl _ _ (w.heap.size + 1) _ _ rfl (World.rangeAt_setCells_same _ _ 0 _ (R6.out.there 9 (Nat.le_refl _))) Try.underlying29 rfl ivInfoS) rfl ?_
    exact ⟨_, by rw [P.out]; rfl, by rw [P.out]; exact O7.mono (by have := BW.out; have := Z.out; omega), B8⟩
  · have hmc : m + 1 < c := by omega
    refine AnyBut.region (fun w' => w'.cell? ⟨w.heap.size, 4, none⟩ = some (.slice (some ⟨b, off, none⟩) n c)) 12 (by kernel_rfl) ?_
    refine AnyBut.take (i := 0) (oi := ⟨some 13, _, _, _, _, none⟩) (v := ?vb0) rfl (by kernel_rfl) (by kernel_rfl) (by kernel_rfl) (by kernel_rfl) (fun _ _ _ h => h) (Or.inl ⟨by rfl, ?hyb0⟩) SD.out ?restb0
    case hyb0 => (intro w hSw; go_simp; try (with_reducible rfl))
    simp only [Act.put, List.setIfInBounds_toArray, List.set_cons_zero, List.set_cons_succ]
    refine AnyBut.take (i := 1) (oi := ⟨some 14, _, _, _, _, none⟩) (v := ?vb1) rfl (by kernel_rfl) (by kernel_rfl) (by kernel_rfl) (by kernel_rfl) (fun _ _ _ h => h) (Or.inl ⟨by rfl, ?hyb1⟩) SD.out ?restb1
    case hyb1 => (intro w hSw; go_simp; try (with_reducible rfl))
    simp only [Act.put, List.setIfInBounds_toArray, List.set_cons_zero, List.set_cons_succ]
    refine AnyBut.take (i := 2) (oi := ⟨some 15, _, _, _, _, none⟩) (v := ?vb2) rfl (by kernel_rfl) (by kernel_rfl) (by kernel_rfl) (by kernel_rfl) (fun _ _ _ h => h) (Or.inl ⟨by rfl, ?hyb2⟩) SD.out ?restb2
    case hyb2 => (intro w hSw; go_simp; try (with_reducible rfl))
    simp only [Act.put, List.setIfInBounds_toArray, List.set_cons_zero, List.set_cons_succ]
    refine AnyBut.take (i := 3) (oi := ⟨some 16, _, _, _, _, none⟩) (v := ?vb3) rfl (by kernel_rfl) (by kernel_rfl) (by kernel_rfl) (by kernel_rfl) (fun _ _ _ h => h) (Or.inl ⟨by rfl, ?hyb3⟩) SD.out ?restb3
    case hyb3 => (intro w hSw; go_simp; try (with_reducible rfl))
    simp only [Act.put, List.setIfInBounds_toArray, List.set_cons_zero, List.set_cons_succ]
    refine AnyBut.take (i := 4) (oi := ⟨some 17, _, _, _, _, none⟩) (v := ?vb4) rfl (by kernel_rfl) (by kernel_rfl) (by kernel_rfl) (by kernel_rfl) (fun _ _ _ h => h) (Or.inl ⟨by rfl, ?hyb4⟩) SD.out ?restb4
    case hyb4 => (intro w hSw; go_simp; try (with_reducible rfl))
    simp only [Act.put, List.setIfInBounds_toArray, List.set_cons_zero, List.set_cons_succ]
    refine AnyBut.take (i := 5) (oi := ⟨some 18, _, _, _, _, none⟩) (v := ?vb5) rfl (by kernel_rfl) (by kernel_rfl) (by kernel_rfl) (by kernel_rfl) (fun _ _ _ h => h) (Or.inl ⟨by rfl, ?hyb5⟩) SD.out ?restb5
    case hyb5 => (intro w hSw; go_simp; try (with_reducible rfl))
    simp only [Act.put, List.setIfInBounds_toArray, List.set_cons_zero, List.set_cons_succ]
    refine AnyBut.take (i := 6) (oi := ⟨some 19, _, _, _, _, none⟩) (v := ?vb6) rfl (by kernel_rfl) (by kernel_rfl) (by kernel_rfl) (by kernel_rfl) (fun _ _ _ h => h) (Or.inl ⟨by rfl, ?hyb6⟩) SD.out ?restb6
    case hyb6 => (intro w hSw; go_simp; try (with_reducible rfl))
    simp only [Act.put, List.setIfInBounds_toArray, List.set_cons_zero, List.set_cons_succ]
    refine AnyBut.take (i := 7) (oi := ⟨some 20, _, _, _, _, none⟩) (v := ?vb7) rfl (by kernel_rfl) (by kernel_rfl) (by kernel_rfl) (by kernel_rfl) (fun _ _ _ h => h) (Or.inl ⟨by rfl, ?hyb7⟩) SD.out ?restb7
    case hyb7 => (intro w hSw; go_simp; try (with_reducible rfl))
    simp only [Act.put, List.setIfInBounds_toArray, List.set_cons_zero, List.set_cons_succ]
    refine AnyBut.take (i := 8) (oi := ⟨some 21, _, _, _, _, none⟩) (v := ?vb8) rfl (by kernel_rfl) (by kernel_rfl) (by kernel_rfl) (by kernel_rfl) (fun _ _ _ h => h) (Or.inl ⟨by rfl, ?hyb8⟩) SD.out ?restb8
    case hyb8 => (intro w hSw; go_simp; try (with_reducible rfl))
    simp only [Act.put, List.setIfInBounds_toArray, List.set_cons_zero, List.set_cons_succ]
    have b2 := ((Below.refl w2.heap.size w2).alloc (Nat.le_refl _) (.cells #[.slice (some ⟨b, off, none⟩) m c, .slice (some ⟨b, off + (m + 1) * 2, none⟩) (n - (m + 1)) (c - (m + 1))] 25)).drew
    have k2 := Lib.hid (HB.new (.cells #[.slice (some ⟨b, off, none⟩) m c, .slice (some ⟨b, off + (m + 1) * 2, none⟩) (n - (m + 1)) (c - (m + 1))] 25) w2).drew
    refine AnyBut.one (i := 9) (o := ⟨some 22, _, _, _, _, none⟩) (by kernel_rfl) rfl (fun K hK => ?_)
    go_simp
    refine hK.out _ _ (fun _ => HS.out _ b2) ?_
    clear hK K
    obtain ⟨W2, hW2⟩ : ∃ W, W = (w2.alloc (.cells #[.slice (some ⟨b, off, none⟩) m c, .slice (some ⟨b, off + (m + 1) * 2, none⟩) (n - (m + 1)) (c - (m + 1))] 25)).drew := ⟨_, rfl⟩
    rw [← hW2] at b2 k2 ⊢
    clear hW2
    have B2 := Lib.hid b2
    have E2 := Lib.hid (E.out.below b2)
    clear b2
    try simp only [Act.put, List.setIfInBounds_toArray, List.set_cons_zero, List.set_cons_succ]
    refine AnyBut.one (i := 10) (o := ⟨some 23, _, _, _, _, none⟩) (by kernel_rfl) rfl (fun K hK => ?_)
    go_simp
    refine (catE2 W2 w2.heap.size (.slice (some ⟨b, off, none⟩) m c) (.slice (some ⟨b, off + (m + 1) * 2, none⟩) (n - (m + 1)) (c - (m + 1))) (v.ents.take m) (v.ents.drop (m + 1)) k2.out (E2.out.takeV (by rw [LN.out]; exact Nat.le_of_lt MN.out)) (E2.out.dropV (k := m + 1) (by rw [LN.out]; exact MN.out) hmc) LL.out).mono ?_
    rintro ev w3 ⟨v3, rfl, ho, hs⟩
    obtain ⟨a3, c3, rfl, -, -⟩ := ho.lenN LE.out
    have B3 := Lib.hid (B2.out.trans (hs.mono B2.out.size))
    have O3 := Lib.hid ho
    have BW := Lib.hid B2.out.size
    clear ho hs
    refine hK.out _ _ (fun _ => HS.out _ B3.out) ?_
    clear hK K
    try simp only [Act.put, List.setIfInBounds_toArray, List.set_cons_zero, List.set_cons_succ]
    refine AnyBut.one (i := 11) (o := ⟨some 24, _, _, _, _, none⟩) (by kernel_rfl) rfl (fun K hK => ?_)
    go_simp
    refine hK.out _ _ (fun _ => HS.out _ B3.out) ?_
    clear hK K
    try simp only [Act.put, List.setIfInBounds_toArray, List.set_cons_zero, List.set_cons_succ]
    have K3 := Lib.hid (K2.out.below B3.out)
    have R3 := Lib.hid (R2.out.below B3.out)
    have c4 := K3.out.cell 4
    have f4 := K3.out.free 4
    simp at c4
    refine AnyBut.one (i := 12) (o := ⟨none, _, _, _, _, none⟩) (by kernel_rfl) rfl (fun K hK => ?_)
    go_simp
    refine hK.out _ _ (fun h => absurd rfl h) ?_
    clear hK K
    try simp only [Act.put, List.setIfInBounds_toArray, List.set_cons_zero, List.set_cons_succ]
    refine AnyBut.done (by kernel_rfl) ?_ _
    have Z3 := B3.out.size
    have K4 := Lib.hid (show HB w.heap.size (ivObj (⟨v.low, v.high, v.unb, v.right, v.ents.take m ++ v.ents.drop (m + 1), v.held, v.hp, v.hl, v.hk⟩ : IvD) (.slice a3 q c3)) (w3.setCell ⟨w.heap.size, 4, none⟩ (.slice a3 q c3)) from K3.out.set1 4 _)
    have R4 := Lib.hid (R3.out.off1 (b2 := w.heap.size) (by omega) 4 (.slice a3 q c3))
    have O4 := Lib.hid (O3.out.set1 (b := w.heap.size) (by have := BW.out; have := Z.out; omega) 4 (.slice a3 q c3))
    have B4 := Lib.hid (((Kept.refl (fun x => x = w.heap.size) w3).setCell 4 (.slice a3 q c3)).below (n := w.heap.size) (fun k h => by omega) (by have := Z.out; omega))
    have B5 := Lib.hid (B0.out.trans ((B3.out.mono (by have := Z.out; omega)).trans B4.out))
    generalize hW4 : World.setCell _ _ _ = W4 at *
    clear hW4 c4 f4
    have c5 := K4.out.cell 5
    have c6 := K4.out.cell 6
    have c7 := K4.out.cell 7
    have c8 := K4.out.cell 8
    simp at c5 c6 c7 c8
    have f5 := K4.out.free 5
    have f6 := K4.out.free 6
    have f7 := K4.out.free 7
    have f8 := K4.out.free 8
    have K5 := (((K4.out.set1 5 (.bool false)).set1 6 (.int .i64 0)).set1 7 (.int .i64 0)).set1 8 (.string ⟨#[]⟩)
    have K6 := Lib.hid (show HB w.heap.size (ivObj (⟨v.low, v.high, v.unb, v.right, v.ents.take m ++ v.ents.drop (m + 1), false, 0, 0, ⟨#[]⟩⟩ : IvD) (.slice a3 q c3)) _ from K5)
    have R6 := Lib.hid ((((R4.out.off1 (b2 := w.heap.size) (by omega) 5 (.bool false)).off1 (b2 := w.heap.size) (by omega) 6 (.int .i64 0)).off1 (b2 := w.heap.size) (by omega) 7 (.int .i64 0)).off1 (b2 := w.heap.size) (by omega) 8 (.string ⟨#[]⟩))
    have hb5 : w.heap.size < w2.heap.size := by have := Z.out; omega
    have hb6 : w.heap.size < W2.heap.size := by have := BW.out; omega
    have O6 := Lib.hid ((((O4.out.set1 (b := w.heap.size) hb6 5 (.bool false)).set1 (b := w.heap.size) hb6 6 (.int .i64 0)).set1 (b := w.heap.size) hb6 7 (.int .i64 0)).set1 (b := w.heap.size) hb6 8 (.string ⟨#[]⟩))
    have KT := (((((Kept.refl (fun x => x = w.heap.size) W4).setCell 5 (.bool false)).setCell 6 (.int .i64 0)).setCell 7 (.int .i64 0)).setCell 8 (.string ⟨#[]⟩)).below (n := w.heap.size) (fun k h => by omega) B5.out.size
    have B7 := Lib.hid (B5.out.trans KT)
    have rg := iv_range K6.out
    clear K5 KT
    go_wp2_with (first | (refine wpList_load_mid rfl 29 (.tmp 1) rfl w.heap.size 0 rfl (ivCells (⟨v.low, v.high, v.unb, v.right, v.ents.take m ++ v.ents.drop (m + 1), false, 0, 0, ⟨#[]⟩⟩ : IvD) (.slice a3 q c3)) _ ?_ Try.underlying29 rfl ivInfoS ?_; exact rg; generalize hW6 : World.setCell (World.setCell (World.setCell (World.setCell W4 _ _) _ _) _ _) _ _ = W6 at K6 R6 O6 B7 rg ⊢; clear hW6) | (refine wpList_store_mid rfl 29 (.tmp 2) (.tmp 28) rfl (w.heap.size + 1) 0 (ivCells (⟨v.low, v.high, v.unb, v.right, v.ents.take m ++ v.ents.drop (m + 1), false, 0, 0, ⟨#[]⟩⟩ : IvD) (.slice a3 q c3)).toArray rfl rfl ?_ ivInfoS (iv_one _ _ _ _) ?_; exact R6.out.there 9 (Nat.le_refl _)))
    have O7 := O6.out.sets (b := w.heap.size + 1) (by have := BW.out; have := Z.out; omega) 0 (ivCells (⟨v.low, v.high, v.unb, v.right, v.ents.take m ++ v.ents.drop (m + 1), false, 0, 0, ⟨#[]⟩⟩ : IvD) (.slice a3 q c3))
    have B8 := below_setCells (b := w.heap.size + 1) (show w.heap.size ≤ w.heap.size + 1 by omega) (ivCells (⟨v.low, v.high, v.unb, v.right, v.ents.take m ++ v.ents.drop (m + 1), false, 0, 0, ⟨#[]⟩⟩ : IvD) (.slice a3 q c3)) 0 _ B7.out
    refine bodyPost_ret (v := .agg (ivCells (⟨v.low, v.high, v.unb, v.right, v.ents.take m ++ v.ents.drop (m + 1), false, 0, 0, ⟨#[]⟩⟩ : IvD) (.slice a3 q c3)).toArray) (results_cell1 rfl _ _ (w.heap.size + 1) _ _ rfl (World.rangeAt_setCells_same _ _ 0 _ (R6.out.there 9 (Nat.le_refl _))) Try.underlying29 rfl ivInfoS) rfl ?_
    exact ⟨_, by rw [P.out]; rfl, by rw [P.out]; exact O7.mono (by have := BW.out; have := Z.out; omega), B8⟩
end Go.Proofs.Ytkkmfacngmginaa
