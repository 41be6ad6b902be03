/- Package inner's own functions (layer 8), by contracts: with. -/
import Derived.Test.YtkkmfacngmginaaInEnd
namespace Go.Proofs.Ytkkmfacngmginaa
open Go.RowKit

set_option maxRecDepth 100000 in
set_option maxHeartbeats 4000000 in
theorem with_any (v : IvD) (en : Value) (k : ByteArray) (p : Int) (w : World) (hv : SV lEnt w en v.ents) (hr : risE none v.ents = true) (hne : v.ents ≠ []) (hl : v.ents.length ≤ 2000) :
    Calls Try.prog 82 #[ivVal v en, entVal (k, p)] w fun ev w' => ∃ en', ev = .returned (.tuple #[ivVal ((putI v k p).getD IvD.zero) en', .bool (putI v k p).isSome]) ∧ OwnS lEnt w.heap.size w' en' ((putI v k p).getD IvD.zero).ents ∧ Below w.heap.size w w' := by
  have hnot : ∀ (x : Bool) (w : World), (Op.unary .not (.bool x)).run Try.prog w = .ok (.bool (!x)) w := fun _ _ => rfl
  obtain ⟨a, c, rfl, hlc, hcm⟩ := hv.lenform
  obtain ⟨b, off, ha⟩ := hv.addr (by intro h; exact hne (List.eq_nil_of_length_eq_zero h))
  subst ha
  obtain ⟨n, hn⟩ : ∃ n, v.ents.length = n := ⟨_, rfl⟩
  have LN := Lib.hid hn
  obtain ⟨m, hm⟩ : ∃ m, aheadE v.ents k = m := ⟨_, rfl⟩
  have hmn : m ≤ n := by rw [← hm, ← hn]; exact aheadE_le _ _
  have MN := Lib.hid hmn
  have LL := Lib.hid (show (v.ents.take m).length + [(k, p)].length + (v.ents.drop m).length ≤ 10000 by rw [List.length_take, List.length_drop, List.length_singleton]; omega)
  have LE := Lib.hid (show (v.ents.take m ++ ([(k, p)] ++ v.ents.drop m)).length = n + 1 by rw [List.length_append, List.length_append, List.length_take, List.length_drop, List.length_singleton]; omega)
  have HP := Lib.hid (putI_place v k p hr)
  rw [hm] at HP
  have HM := Lib.hid hm
  rw [hn] at hv hlc hl
  have HL := Lib.hid hl
  have HR := Lib.hid hr
  unfold maxLen at hcm
  obtain ⟨t, ht⟩ : ∃ t, thereE v.ents k = t := ⟨_, rfl⟩
  obtain ⟨i, hi⟩ : ∃ i, inI v k = i := ⟨_, rfl⟩
  rw [ht, hi] at HP
  have HT := Lib.hid ht
  have HI := Lib.hid hi
  rw [hn]
  clear hn hm ht hi hr hne
  have i1 : (0 : Int) ≤ (m : Int) := by omega
  have i2 : (m : Int) ≤ (n : Int) := by omega
  have i3 : (n : Int) ≤ (c : Int) := by omega
  have i4 : (m : Int) ≤ (c : Int) := by omega
  obtain ⟨W0, hW0⟩ : ∃ W, W = ((w.alloc (ivObj v (.slice (some ⟨b, off, none⟩) n c))).alloc (.cells #[.string k, .int .i64 p] 44)).alloc ivZero := ⟨_, rfl⟩
  have zq : ((w.alloc (ivObj v (.slice (some ⟨b, off, none⟩) n c))).alloc (.cells #[.string k, .int .i64 p] 44)).heap.size = w.heap.size + 1 + 1 := by simp
  have bq := alloc_below0 ((w.alloc (ivObj v (.slice (some ⟨b, off, none⟩) n c))).alloc (.cells #[.string k, .int .i64 p] 44)) ivZero
  have ba := alloc2_below w (ivObj v (.slice (some ⟨b, off, none⟩) n c)) (.cells #[.string k, .int .i64 p] 44)
  have B0 := Lib.hid (show Below w.heap.size w W0 by rw [hW0]; exact ba.trans (bq.mono ba.size))
  have K0 := Lib.hid (show HB w.heap.size (ivObj v (.slice (some ⟨b, off, none⟩) n c)) W0 by rw [hW0]; exact (HB.fst _ _ _).below bq)
  have X0 := Lib.hid (show HB (w.heap.size + 1) (.cells #[.string k, .int .i64 p] 44) W0 by rw [hW0]; exact (HB.snd _ _ _).below bq)
  have R0 := Lib.hid (show HB (w.heap.size + 1 + 1) ivZero W0 by rw [hW0, ← zq]; exact HB.new _ _)
  have Z := Lib.hid (show W0.heap.size = w.heap.size + 3 by rw [hW0]; simp)
  have EE := Lib.hid (hv.below B0.out)
  have v_0 := K0.out.vb.c0
  have v_1 := K0.out.vb.c1
  have v_2 := K0.out.vb.c2
  have v_3 := K0.out.vb.c3
  have v_4 := K0.out.vb.c4
  have v_5 := K0.out.vb.c5
  have v_6 := K0.out.vb.c6
  have v_7 := K0.out.vb.c7
  have v_8 := K0.out.vb.c8
  have x_0 := X0.out.cell 0
  have x_1 := X0.out.cell 1
  simp at x_0 x_1
  unfold ivObj ivZero at hW0
  clear zq bq ba hv
  unfold ivVal entVal
  go_enter Try.func82, Try.ntmps82
  go_wp2_with fail
  rw [← hW0]
  refine (findI_any v (.slice (some ⟨b, off, none⟩) n c) k W0 EE.out HR.out (by rw [LN.out]; exact HL.out)).mono ?_
  rintro ev w1 ⟨rfl, hs⟩
  unfold findV
  rw [HM.out, HT.out]
  clear hW0
  have B1 := Lib.hid hs
  have K1 := Lib.hid (K0.out.below hs)
  have X1 := Lib.hid (X0.out.below hs)
  have R1 := Lib.hid (R0.out.below hs)
  have v_0 := K1.out.vb.c0
  have v_1 := K1.out.vb.c1
  have v_2 := K1.out.vb.c2
  have v_3 := K1.out.vb.c3
  have v_4 := K1.out.vb.c4
  have v_5 := K1.out.vb.c5
  have v_6 := K1.out.vb.c6
  have v_7 := K1.out.vb.c7
  have v_8 := K1.out.vb.c8
  have x_0 := X1.out.cell 0
  have x_1 := X1.out.cell 1
  simp at x_0 x_1
  clear hs K0 X0 R0
  cases t with
  | true =>
    have P := Lib.hid (show putI v k p = none by rw [HP.out, if_neg (fun h => by cases h.1)])
    clear v_0 v_1 v_2 v_3 v_4 v_5 v_6 v_7 v_8 x_0 x_1
    go_wp2_with (refine wpList_store_mid rfl 29 (.tmp 4) (.tmp 23) rfl (w.heap.size + 1 + 1) 0 (ivCells IvD.zero nilV).toArray rfl rfl (R1.out.there 9 (Nat.le_refl _)) ivInfoS (iv_one _ _ _ _) ?_)
    have B6 := below_setCells (b := w.heap.size + 1 + 1) (show w.heap.size ≤ w.heap.size + 1 + 1 by omega) (ivCells IvD.zero nilV) 0 _ (B0.out.trans (B1.out.mono B0.out.size))
    refine bodyPost_ret (v := .tuple #[.agg (ivCells IvD.zero nilV).toArray, .bool false]) (results_cellT rfl _ _ (w.heap.size + 1 + 1) _ _ _ rfl rfl (World.rangeAt_setCells_same _ _ 0 _ (R1.out.there 9 (Nat.le_refl _))) Try.underlying29 rfl ivInfoS) rfl ?_
    exact ⟨nilV, by rw [P.out]; rfl, by rw [P.out]; exact OwnS.nil _ _ _, B6⟩
  | false =>
    go_wp2_with fail
    refine (insideI_any v (.slice (some ⟨b, off, none⟩) n c) k _).mono ?_
    rintro ev w2 ⟨rfl, hs⟩
    rw [HI.out]
    have B2 := Lib.hid (B1.out.trans (hs.mono B1.out.size))
    have K2 := Lib.hid (K1.out.below hs)
    have X2 := Lib.hid (X1.out.below hs)
    have R2 := Lib.hid (R1.out.below hs)
    clear hs K1 X1 R1 v_0 v_1 v_2 v_3 v_4 v_5 v_6 v_7 v_8 x_0 x_1
    cases i with
    | false =>
      have P := Lib.hid (show putI v k p = none by rw [HP.out, if_neg (fun h => by cases h.2)])
      go_wp2_with (refine wpList_store_mid rfl 29 (.tmp 4) (.tmp 23) rfl (w.heap.size + 1 + 1) 0 (ivCells IvD.zero nilV).toArray rfl rfl (R2.out.there 9 (Nat.le_refl _)) ivInfoS (iv_one _ _ _ _) ?_)
      have B6 := below_setCells (b := w.heap.size + 1 + 1) (show w.heap.size ≤ w.heap.size + 1 + 1 by omega) (ivCells IvD.zero nilV) 0 _ (B0.out.trans (B2.out.mono B0.out.size))
      refine bodyPost_ret (v := .tuple #[.agg (ivCells IvD.zero nilV).toArray, .bool false]) (results_cellT rfl _ _ (w.heap.size + 1 + 1) _ _ _ rfl rfl (World.rangeAt_setCells_same _ _ 0 _ (R2.out.there 9 (Nat.le_refl _))) Try.underlying29 rfl ivInfoS) rfl ?_
      exact ⟨nilV, by rw [P.out]; rfl, by rw [P.out]; exact OwnS.nil _ _ _, B6⟩
    | true =>
      have P := Lib.hid (show putI v k p = some { v with ents := v.ents.take m ++ ([(k, p)] ++ v.ents.drop m) } by rw [HP.out, if_pos (by simp)]; rfl)
      have E := Lib.hid (EE.out.below B2.out)
      have Z2 := B2.out.size
      have Z := Lib.hid (show w.heap.size + 3 ≤ w2.heap.size by rw [← Z.out]; exact B2.out.size)
      have B0 := Lib.hid (B0.out.trans (B2.out.mono B0.out.size))
      have HS := Lib.hid (show ∀ w1, Below w2.heap.size w2 w1 → (fun w' => w'.cell? ⟨w.heap.size, 4, none⟩ = some (.slice (some ⟨b, off, none⟩) n c) ∧ w'.cell? ⟨w.heap.size + 1, 0, none⟩ = some (.string k) ∧ w'.cell? ⟨w.heap.size + 1, 1, none⟩ = some (.int .i64 p)) w1 from fun w1 hs => by have V := (K2.out.below hs).vb; have X := X2.out.below hs; exact ⟨V.c4, X.cell 0, X.cell 1⟩)
      have SD := Lib.hid (HS.out w2.drew (Below.refl _ _).drew)
      go_wp2_with fail
      by_cases hcn : c = m
      · have hnc : n = c := by omega
        subst hcn
        subst hnc
        refine AnyBut.region (fun w' => w'.cell? ⟨w.heap.size, 4, none⟩ = some (.slice (some ⟨b, off, none⟩) n n) ∧ w'.cell? ⟨w.heap.size + 1, 0, none⟩ = some (.string k) ∧ w'.cell? ⟨w.heap.size + 1, 1, none⟩ = some (.int .i64 p)) 13 (by kernel_rfl) ?_
        refine AnyBut.take (i := 0) (oi := ⟨some 24, _, _, _, _, none⟩) (v := ?va0) rfl (by kernel_rfl) (by kernel_rfl) (by kernel_rfl) (by kernel_rfl) (fun _ _ _ h => h) (Or.inl ⟨by rfl, ?hya0⟩) SD.out ?resta0
        case hya0 => (intro w hSw; go_simp; try (with_reducible rfl))
        simp only [Act.put, List.setIfInBounds_toArray, List.set_cons_zero, List.set_cons_succ]
        refine AnyBut.take (i := 1) (oi := ⟨some 25, _, _, _, _, none⟩) (v := ?va1) rfl (by kernel_rfl) (by kernel_rfl) (by kernel_rfl) (by kernel_rfl) (fun _ _ _ h => h) (Or.inl ⟨by rfl, ?hya1⟩) SD.out ?resta1
        case hya1 => (intro w hSw; go_simp; try (with_reducible rfl))
        simp only [Act.put, List.setIfInBounds_toArray, List.set_cons_zero, List.set_cons_succ]
        refine AnyBut.take (i := 2) (oi := ⟨some 26, _, _, _, _, none⟩) (v := ?va2) rfl (by kernel_rfl) (by kernel_rfl) (by kernel_rfl) (by kernel_rfl) (fun _ _ _ h => h) (Or.inl ⟨by rfl, ?hya2⟩) SD.out ?resta2
        case hya2 => (intro w hSw; go_simp; try (with_reducible rfl))
        simp only [Act.put, List.setIfInBounds_toArray, List.set_cons_zero, List.set_cons_succ]
        refine AnyBut.take (i := 3) (oi := ⟨some 27, _, _, _, _, none⟩) (v := ?va3) rfl (by kernel_rfl) (by kernel_rfl) (by kernel_rfl) (by kernel_rfl) (fun _ _ _ h => h) (Or.inl ⟨by rfl, ?hya3⟩) SD.out ?resta3
        case hya3 => (intro w hSw; go_simp; try (with_reducible rfl))
        simp only [Act.put, List.setIfInBounds_toArray, List.set_cons_zero, List.set_cons_succ]
        refine AnyBut.take (i := 4) (oi := ⟨some 28, _, _, _, _, none⟩) (v := ?va4) rfl (by kernel_rfl) (by kernel_rfl) (by kernel_rfl) (by kernel_rfl) (fun _ _ _ h => h) (Or.inl ⟨by rfl, ?hya4⟩) SD.out ?resta4
        case hya4 => (intro w hSw; go_simp; try (with_reducible rfl))
        simp only [Act.put, List.setIfInBounds_toArray, List.set_cons_zero, List.set_cons_succ]
        refine AnyBut.take (i := 6) (oi := ⟨some 30, _, _, _, _, none⟩) (v := ?va6) rfl (by kernel_rfl) (by kernel_rfl) (by kernel_rfl) (by kernel_rfl) (fun _ _ _ h => h) (Or.inl ⟨by rfl, ?hya6⟩) SD.out ?resta6
        case hya6 => (intro w hSw; go_simp; try (with_reducible rfl))
        simp only [Act.put, List.setIfInBounds_toArray, List.set_cons_zero, List.set_cons_succ]
        refine AnyBut.take (i := 7) (oi := ⟨some 31, _, _, _, _, none⟩) (v := ?va7) rfl (by kernel_rfl) (by kernel_rfl) (by kernel_rfl) (by kernel_rfl) (fun _ _ _ h => h) (Or.inl ⟨by rfl, ?hya7⟩) SD.out ?resta7
        case hya7 => (intro w hSw; go_simp; try (with_reducible rfl))
        simp only [Act.put, List.setIfInBounds_toArray, List.set_cons_zero, List.set_cons_succ]
        refine AnyBut.take (i := 8) (oi := ⟨some 32, _, _, _, _, none⟩) (v := ?va8) rfl (by kernel_rfl) (by kernel_rfl) (by kernel_rfl) (by kernel_rfl) (fun _ _ _ h => h) (Or.inl ⟨by rfl, ?hya8⟩) SD.out ?resta8
        case hya8 => (intro w hSw; go_simp; try (with_reducible rfl))
        simp only [Act.put, List.setIfInBounds_toArray, List.set_cons_zero, List.set_cons_succ]
        refine AnyBut.take (i := 9) (oi := ⟨some 33, _, _, _, _, none⟩) (v := ?va9) rfl (by kernel_rfl) (by kernel_rfl) (by kernel_rfl) (by kernel_rfl) (fun _ _ _ h => h) (Or.inl ⟨by rfl, ?hya9⟩) SD.out ?resta9
        case hya9 => (intro w hSw; go_simp; try (with_reducible rfl))
        simp only [Act.put, List.setIfInBounds_toArray, List.set_cons_zero, List.set_cons_succ]
        have b1 := ((Below.refl w2.heap.size w2).alloc (Nat.le_refl _) (.cells #[.string k, .int .i64 p] 44)).drew
        have o1 := Lib.hid (OwnS.lit lEnt w2.heap.size w2 w2.heap.size rfl [(k, p)] (Nat.le_refl _) (show 1 ≤ maxLen by decide))
        refine AnyBut.one (i := 5) (o := ⟨some 29, _, _, _, _, none⟩) (by kernel_rfl) rfl (fun K hK => ?_)
        go_simp
        refine hK.out _ _ (fun _ => HS.out _ b1) ?_
        clear hK K
        obtain ⟨W1, hW1⟩ : ∃ W, W = (w2.alloc (.cells #[.string k, .int .i64 p] 44)).drew := ⟨_, rfl⟩
        have O1 := Lib.hid (show OwnS lEnt w2.heap.size W1 (.slice (some ⟨w2.heap.size, 0, none⟩) 1 1) [(k, p)] by rw [hW1]; exact o1.out)
        rw [← hW1] at b1 ⊢
        clear hW1 o1
        have B1 := Lib.hid b1
        clear b1
        try simp only [Act.put, List.setIfInBounds_toArray, List.set_cons_zero, List.set_cons_succ]
        have b2 := (Below.refl W1.heap.size W1).alloc (Nat.le_refl _) (.cells #[.slice (some ⟨b, off, none⟩) n n, .slice (some ⟨w2.heap.size, 0, none⟩) 1 1, .slice (some ⟨b, off, none⟩) 0 0] 25)
        have k2 := Lib.hid (HB.new (.cells #[.slice (some ⟨b, off, none⟩) n n, .slice (some ⟨w2.heap.size, 0, none⟩) 1 1, .slice (some ⟨b, off, none⟩) 0 0] 25) W1)
        have B2 := Lib.hid (B1.out.trans (b2.mono B1.out.size))
        have O2 := Lib.hid (O1.out.below b2)
        refine AnyBut.one (i := 10) (o := ⟨some 34, _, _, _, _, none⟩) (by kernel_rfl) rfl (fun K hK => ?_)
        go_simp
        refine hK.out _ _ (fun _ => HS.out _ B2.out) ?_
        clear hK K
        generalize hW2 : World.alloc W1 _ = W2 at *
        clear hW2 b2
        have E2 := Lib.hid (E.out.below B2.out)
        try simp only [Act.put, List.setIfInBounds_toArray, List.set_cons_zero, List.set_cons_succ]
        refine AnyBut.one (i := 11) (o := ⟨some 35, _, _, _, _, none⟩) (by kernel_rfl) rfl (fun K hK => ?_)
        go_simp
        refine (catE3 W2 W1.heap.size (.slice (some ⟨b, off, none⟩) n n) (.slice (some ⟨w2.heap.size, 0, none⟩) 1 1) (.slice (some ⟨b, off, none⟩) 0 0) (v.ents.take n) [(k, p)] (v.ents.drop n) k2.out (E2.out.takeV (by rw [LN.out]; exact MN.out)) O2.out.sv (SV.dropE _ (by rw [LN.out]; omega)) LL.out).mono ?_
        rintro ev w3 ⟨v3, rfl, ho, hs⟩
        obtain ⟨a3, c3, rfl, -, -⟩ := ho.lenN LE.out
        have B3 := Lib.hid (B2.out.trans (hs.mono B2.out.size))
        have O3 := Lib.hid ho
        have BW := Lib.hid B2.out.size
        clear ho hs
        refine hK.out _ _ (fun _ => HS.out _ B3.out) ?_
        clear hK K
        try simp only [Act.put, List.setIfInBounds_toArray, List.set_cons_zero, List.set_cons_succ]
        refine AnyBut.one (i := 12) (o := ⟨some 36, _, _, _, _, none⟩) (by kernel_rfl) rfl (fun K hK => ?_)
        go_simp
        refine hK.out _ _ (fun _ => HS.out _ B3.out) ?_
        clear hK K
        try simp only [Act.put, List.setIfInBounds_toArray, List.set_cons_zero, List.set_cons_succ]
        have K3 := Lib.hid (K2.out.below B3.out)
        have R3 := Lib.hid (R2.out.below B3.out)
        have c4 := K3.out.cell 4
        have f4 := K3.out.free 4
        simp at c4
        refine AnyBut.one (i := 13) (o := ⟨none, _, _, _, _, none⟩) (by kernel_rfl) rfl (fun K hK => ?_)
        go_simp
        refine hK.out _ _ (fun h => absurd rfl h) ?_
        clear hK K
        try simp only [Act.put, List.setIfInBounds_toArray, List.set_cons_zero, List.set_cons_succ]
        refine AnyBut.done (by kernel_rfl) ?_ _
        have Z3 := B3.out.size
        have K4 := Lib.hid (show HB w.heap.size (ivObj { v with ents := v.ents.take n ++ ([(k, p)] ++ v.ents.drop n) } (.slice a3 (n + 1) c3)) (w3.setCell ⟨w.heap.size, 4, none⟩ (.slice a3 (n + 1) c3)) from K3.out.set1 4 _)
        have R4 := Lib.hid (R3.out.off1 (b2 := w.heap.size) (by omega) 4 (.slice a3 (n + 1) c3))
        have O4 := Lib.hid (O3.out.set1 (b := w.heap.size) (by have := BW.out; have := Z.out; omega) 4 (.slice a3 (n + 1) c3))
        have B4 := Lib.hid (((Kept.refl (fun x => x = w.heap.size) w3).setCell 4 (.slice a3 (n + 1) c3)).below (n := w.heap.size) (fun k h => by omega) (by have := Z.out; omega))
        have B5 := Lib.hid (B0.out.trans ((B3.out.mono (by have := Z.out; omega)).trans B4.out))
        generalize hW4 : World.setCell _ _ _ = W4 at *
        clear hW4 c4 f4
        have rg := iv_range K4.out
        go_wp2_with (first | (refine wpList_load_mid rfl 29 (.tmp 2) rfl w.heap.size 0 rfl (ivCells { v with ents := v.ents.take n ++ ([(k, p)] ++ v.ents.drop n) } (.slice a3 (n + 1) c3)) _ rg Try.underlying29 rfl ivInfoS ?_) | (refine wpList_store_mid rfl 29 (.tmp 4) (.tmp 37) rfl (w.heap.size + 1 + 1) 0 (ivCells { v with ents := v.ents.take n ++ ([(k, p)] ++ v.ents.drop n) } (.slice a3 (n + 1) c3)).toArray rfl rfl (R4.out.there 9 (Nat.le_refl _)) ivInfoS (iv_one _ _ _ _) ?_))
        have O5 := O4.out.sets (b := w.heap.size + 1 + 1) (by have := BW.out; have := Z.out; omega) 0 (ivCells { v with ents := v.ents.take n ++ ([(k, p)] ++ v.ents.drop n) } (.slice a3 (n + 1) c3))
        have B6 := below_setCells (b := w.heap.size + 1 + 1) (show w.heap.size ≤ w.heap.size + 1 + 1 by omega) (ivCells { v with ents := v.ents.take n ++ ([(k, p)] ++ v.ents.drop n) } (.slice a3 (n + 1) c3)) 0 _ B5.out
        refine bodyPost_ret (v := .tuple #[.agg (ivCells { v with ents := v.ents.take n ++ ([(k, p)] ++ v.ents.drop n) } (.slice a3 (n + 1) c3)).toArray, .bool true]) (results_cellT rfl _ _ (w.heap.size + 1 + 1) _ _ _ rfl rfl (World.rangeAt_setCells_same _ _ 0 _ (R4.out.there 9 (Nat.le_refl _))) Try.underlying29 rfl ivInfoS) rfl ?_
        exact ⟨_, by rw [P.out]; rfl, by rw [P.out]; exact O5.mono (by have := BW.out; have := Z.out; omega), B6⟩
      · have hmc : m < c := by omega
        refine AnyBut.region (fun w' => w'.cell? ⟨w.heap.size, 4, none⟩ = some (.slice (some ⟨b, off, none⟩) n c) ∧ w'.cell? ⟨w.heap.size + 1, 0, none⟩ = some (.string k) ∧ w'.cell? ⟨w.heap.size + 1, 1, none⟩ = some (.int .i64 p)) 13 (by kernel_rfl) ?_
        refine AnyBut.take (i := 0) (oi := ⟨some 24, _, _, _, _, none⟩) (v := ?vb0) rfl (by kernel_rfl) (by kernel_rfl) (by kernel_rfl) (by kernel_rfl) (fun _ _ _ h => h) (Or.inl ⟨by rfl, ?hyb0⟩) SD.out ?restb0
        case hyb0 => (intro w hSw; go_simp; try (with_reducible rfl))
        simp only [Act.put, List.setIfInBounds_toArray, List.set_cons_zero, List.set_cons_succ]
        refine AnyBut.take (i := 1) (oi := ⟨some 25, _, _, _, _, none⟩) (v := ?vb1) rfl (by kernel_rfl) (by kernel_rfl) (by kernel_rfl) (by kernel_rfl) (fun _ _ _ h => h) (Or.inl ⟨by rfl, ?hyb1⟩) SD.out ?restb1
        case hyb1 => (intro w hSw; go_simp; try (with_reducible rfl))
        simp only [Act.put, List.setIfInBounds_toArray, List.set_cons_zero, List.set_cons_succ]
        refine AnyBut.take (i := 2) (oi := ⟨some 26, _, _, _, _, none⟩) (v := ?vb2) rfl (by kernel_rfl) (by kernel_rfl) (by kernel_rfl) (by kernel_rfl) (fun _ _ _ h => h) (Or.inl ⟨by rfl, ?hyb2⟩) SD.out ?restb2
        case hyb2 => (intro w hSw; go_simp; try (with_reducible rfl))
        simp only [Act.put, List.setIfInBounds_toArray, List.set_cons_zero, List.set_cons_succ]
        refine AnyBut.take (i := 3) (oi := ⟨some 27, _, _, _, _, none⟩) (v := ?vb3) rfl (by kernel_rfl) (by kernel_rfl) (by kernel_rfl) (by kernel_rfl) (fun _ _ _ h => h) (Or.inl ⟨by rfl, ?hyb3⟩) SD.out ?restb3
        case hyb3 => (intro w hSw; go_simp; try (with_reducible rfl))
        simp only [Act.put, List.setIfInBounds_toArray, List.set_cons_zero, List.set_cons_succ]
        refine AnyBut.take (i := 4) (oi := ⟨some 28, _, _, _, _, none⟩) (v := ?vb4) rfl (by kernel_rfl) (by kernel_rfl) (by kernel_rfl) (by kernel_rfl) (fun _ _ _ h => h) (Or.inl ⟨by rfl, ?hyb4⟩) SD.out ?restb4
        case hyb4 => (intro w hSw; go_simp; try (with_reducible rfl))
        simp only [Act.put, List.setIfInBounds_toArray, List.set_cons_zero, List.set_cons_succ]
        refine AnyBut.take (i := 6) (oi := ⟨some 30, _, _, _, _, none⟩) (v := ?vb6) rfl (by kernel_rfl) (by kernel_rfl) (by kernel_rfl) (by kernel_rfl) (fun _ _ _ h => h) (Or.inl ⟨by rfl, ?hyb6⟩) SD.out ?restb6
        case hyb6 => (intro w hSw; go_simp; try (with_reducible rfl))
        simp only [Act.put, List.setIfInBounds_toArray, List.set_cons_zero, List.set_cons_succ]
        refine AnyBut.take (i := 7) (oi := ⟨some 31, _, _, _, _, none⟩) (v := ?vb7) rfl (by kernel_rfl) (by kernel_rfl) (by kernel_rfl) (by kernel_rfl) (fun _ _ _ h => h) (Or.inl ⟨by rfl, ?hyb7⟩) SD.out ?restb7
        case hyb7 => (intro w hSw; go_simp; try (with_reducible rfl))
        simp only [Act.put, List.setIfInBounds_toArray, List.set_cons_zero, List.set_cons_succ]
        refine AnyBut.take (i := 8) (oi := ⟨some 32, _, _, _, _, none⟩) (v := ?vb8) rfl (by kernel_rfl) (by kernel_rfl) (by kernel_rfl) (by kernel_rfl) (fun _ _ _ h => h) (Or.inl ⟨by rfl, ?hyb8⟩) SD.out ?restb8
        case hyb8 => (intro w hSw; go_simp; try (with_reducible rfl))
        simp only [Act.put, List.setIfInBounds_toArray, List.set_cons_zero, List.set_cons_succ]
        refine AnyBut.take (i := 9) (oi := ⟨some 33, _, _, _, _, none⟩) (v := ?vb9) rfl (by kernel_rfl) (by kernel_rfl) (by kernel_rfl) (by kernel_rfl) (fun _ _ _ h => h) (Or.inl ⟨by rfl, ?hyb9⟩) SD.out ?restb9
        case hyb9 => (intro w hSw; go_simp; try (with_reducible rfl))
        simp only [Act.put, List.setIfInBounds_toArray, List.set_cons_zero, List.set_cons_succ]
        have b1 := ((Below.refl w2.heap.size w2).alloc (Nat.le_refl _) (.cells #[.string k, .int .i64 p] 44)).drew
        have o1 := Lib.hid (OwnS.lit lEnt w2.heap.size w2 w2.heap.size rfl [(k, p)] (Nat.le_refl _) (show 1 ≤ maxLen by decide))
        refine AnyBut.one (i := 5) (o := ⟨some 29, _, _, _, _, none⟩) (by kernel_rfl) rfl (fun K hK => ?_)
        go_simp
        refine hK.out _ _ (fun _ => HS.out _ b1) ?_
        clear hK K
        obtain ⟨W1, hW1⟩ : ∃ W, W = (w2.alloc (.cells #[.string k, .int .i64 p] 44)).drew := ⟨_, rfl⟩
        have O1 := Lib.hid (show OwnS lEnt w2.heap.size W1 (.slice (some ⟨w2.heap.size, 0, none⟩) 1 1) [(k, p)] by rw [hW1]; exact o1.out)
        rw [← hW1] at b1 ⊢
        clear hW1 o1
        have B1 := Lib.hid b1
        clear b1
        try simp only [Act.put, List.setIfInBounds_toArray, List.set_cons_zero, List.set_cons_succ]
        have b2 := (Below.refl W1.heap.size W1).alloc (Nat.le_refl _) (.cells #[.slice (some ⟨b, off, none⟩) m c, .slice (some ⟨w2.heap.size, 0, none⟩) 1 1, .slice (some ⟨b, off + m * 2, none⟩) (n - m) (c - m)] 25)
        have k2 := Lib.hid (HB.new (.cells #[.slice (some ⟨b, off, none⟩) m c, .slice (some ⟨w2.heap.size, 0, none⟩) 1 1, .slice (some ⟨b, off + m * 2, none⟩) (n - m) (c - m)] 25) W1)
        have B2 := Lib.hid (B1.out.trans (b2.mono B1.out.size))
        have O2 := Lib.hid (O1.out.below b2)
        refine AnyBut.one (i := 10) (o := ⟨some 34, _, _, _, _, none⟩) (by kernel_rfl) rfl (fun K hK => ?_)
        go_simp
        refine hK.out _ _ (fun _ => HS.out _ B2.out) ?_
        clear hK K
        generalize hW2 : World.alloc W1 _ = W2 at *
        clear hW2 b2
        have E2 := Lib.hid (E.out.below B2.out)
        try simp only [Act.put, List.setIfInBounds_toArray, List.set_cons_zero, List.set_cons_succ]
        refine AnyBut.one (i := 11) (o := ⟨some 35, _, _, _, _, none⟩) (by kernel_rfl) rfl (fun K hK => ?_)
        go_simp
        refine (catE3 W2 W1.heap.size (.slice (some ⟨b, off, none⟩) m c) (.slice (some ⟨w2.heap.size, 0, none⟩) 1 1) (.slice (some ⟨b, off + m * 2, none⟩) (n - m) (c - m)) (v.ents.take m) [(k, p)] (v.ents.drop m) k2.out (E2.out.takeV (by rw [LN.out]; exact MN.out)) O2.out.sv (E2.out.dropV (k := m) (by rw [LN.out]; exact MN.out) hmc) LL.out).mono ?_
        rintro ev w3 ⟨v3, rfl, ho, hs⟩
        obtain ⟨a3, c3, rfl, -, -⟩ := ho.lenN LE.out
        have B3 := Lib.hid (B2.out.trans (hs.mono B2.out.size))
        have O3 := Lib.hid ho
        have BW := Lib.hid B2.out.size
        clear ho hs
        refine hK.out _ _ (fun _ => HS.out _ B3.out) ?_
        clear hK K
        try simp only [Act.put, List.setIfInBounds_toArray, List.set_cons_zero, List.set_cons_succ]
        refine AnyBut.one (i := 12) (o := ⟨some 36, _, _, _, _, none⟩) (by kernel_rfl) rfl (fun K hK => ?_)
        go_simp
        refine hK.out _ _ (fun _ => HS.out _ B3.out) ?_
        clear hK K
        try simp only [Act.put, List.setIfInBounds_toArray, List.set_cons_zero, List.set_cons_succ]
        have K3 := Lib.hid (K2.out.below B3.out)
        have R3 := Lib.hid (R2.out.below B3.out)
        have c4 := K3.out.cell 4
        have f4 := K3.out.free 4
        simp at c4
        refine AnyBut.one (i := 13) (o := ⟨none, _, _, _, _, none⟩) (by kernel_rfl) rfl (fun K hK => ?_)
        go_simp
        refine hK.out _ _ (fun h => absurd rfl h) ?_
        clear hK K
        try simp only [Act.put, List.setIfInBounds_toArray, List.set_cons_zero, List.set_cons_succ]
        refine AnyBut.done (by kernel_rfl) ?_ _
        have Z3 := B3.out.size
        have K4 := Lib.hid (show HB w.heap.size (ivObj { v with ents := v.ents.take m ++ ([(k, p)] ++ v.ents.drop m) } (.slice a3 (n + 1) c3)) (w3.setCell ⟨w.heap.size, 4, none⟩ (.slice a3 (n + 1) c3)) from K3.out.set1 4 _)
        have R4 := Lib.hid (R3.out.off1 (b2 := w.heap.size) (by omega) 4 (.slice a3 (n + 1) c3))
        have O4 := Lib.hid (O3.out.set1 (b := w.heap.size) (by have := BW.out; have := Z.out; omega) 4 (.slice a3 (n + 1) c3))
        have B4 := Lib.hid (((Kept.refl (fun x => x = w.heap.size) w3).setCell 4 (.slice a3 (n + 1) c3)).below (n := w.heap.size) (fun k h => by omega) (by have := Z.out; omega))
        have B5 := Lib.hid (B0.out.trans ((B3.out.mono (by have := Z.out; omega)).trans B4.out))
        generalize hW4 : World.setCell _ _ _ = W4 at *
        clear hW4 c4 f4
        have rg := iv_range K4.out
        go_wp2_with (first | (refine wpList_load_mid rfl 29 (.tmp 2) rfl w.heap.size 0 rfl (ivCells { v with ents := v.ents.take m ++ ([(k, p)] ++ v.ents.drop m) } (.slice a3 (n + 1) c3)) _ rg Try.underlying29 rfl ivInfoS ?_) | (refine wpList_store_mid rfl 29 (.tmp 4) (.tmp 37) rfl (w.heap.size + 1 + 1) 0 (ivCells { v with ents := v.ents.take m ++ ([(k, p)] ++ v.ents.drop m) } (.slice a3 (n + 1) c3)).toArray rfl rfl (R4.out.there 9 (Nat.le_refl _)) ivInfoS (iv_one _ _ _ _) ?_))
        have O5 := O4.out.sets (b := w.heap.size + 1 + 1) (by have := BW.out; have := Z.out; omega) 0 (ivCells { v with ents := v.ents.take m ++ ([(k, p)] ++ v.ents.drop m) } (.slice a3 (n + 1) c3))
        have B6 := below_setCells (b := w.heap.size + 1 + 1) (show w.heap.size ≤ w.heap.size + 1 + 1 by omega) (ivCells { v with ents := v.ents.take m ++ ([(k, p)] ++ v.ents.drop m) } (.slice a3 (n + 1) c3)) 0 _ B5.out
        refine bodyPost_ret (v := .tuple #[.agg (ivCells { v with ents := v.ents.take m ++ ([(k, p)] ++ v.ents.drop m) } (.slice a3 (n + 1) c3)).toArray, .bool true]) (results_cellT rfl _ _ (w.heap.size + 1 + 1) _ _ _ rfl rfl (World.rangeAt_setCells_same _ _ 0 _ (R4.out.there 9 (Nat.le_refl _))) Try.underlying29 rfl ivInfoS) rfl ?_
        exact ⟨_, by rw [P.out]; rfl, by rw [P.out]; exact O5.mono (by have := BW.out; have := Z.out; omega), B6⟩
end Go.Proofs.Ytkkmfacngmginaa
