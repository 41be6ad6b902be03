/- Package inner's own functions (layer 8), by contracts: cut. -/
import Derived.Test.YtkkmfacngmginaaInEnd
namespace Go.Proofs.Ytkkmfacngmginaa
open Go.RowKit

set_option maxRecDepth 100000 in
set_option maxHeartbeats 4000000 in
theorem cut_any (v : IvD) (en : Value) (k : ByteArray) (p : Int) (w : World) (hv : SV lEnt w en v.ents) (g : GoodI v) (hh : v.held = false) (hl : v.ents.length ≤ 2000) :
    Calls Try.prog 83 #[ivVal v en, .string k, .int .i64 p] w fun ev w' => ∃ en', ev = .returned (.tuple #[ivVal ((splitI v k p).getD IvD.zero) en', .bool (splitI v k p).isSome]) ∧ OwnS lEnt w.heap.size w' en' ((splitI v k p).getD IvD.zero).ents ∧ Below w.heap.size w w' := by
  have hnot : ∀ (x : Bool) (w : World), (Op.unary .not (.bool x)).run Try.prog w = .ok (.bool (!x)) w := fun _ _ => rfl
  obtain ⟨m, hm⟩ : ∃ m, aheadE v.ents k = m := ⟨_, rfl⟩
  have hmn := aheadE_le v.ents k
  have hne := firstB_ne g.first
  obtain ⟨a, c, rfl, hlc, hcm⟩ := hv.lenform
  obtain ⟨b, off, ha⟩ := hv.addr (fun h => hne (List.eq_nil_of_length_eq_zero h))
  subst ha
  obtain ⟨n, hn⟩ : ∃ n, v.ents.length = n := ⟨_, rfl⟩
  have LN := Lib.hid hn
  rw [hm] at hmn
  rw [hn] at hv hlc hl hmn
  have MN := Lib.hid hmn
  have LL := Lib.hid (show (v.ents.take m).length ≤ 10000 by rw [List.length_take]; omega)
  have LE := Lib.hid (show (v.ents.take m).length = m by rw [List.length_take]; omega)
  have HP := Lib.hid (splitI_place v k p g.ris)
  have HF := Lib.hid (g.free hh)
  have HH := Lib.hid hh
  have HM := Lib.hid hm
  have HL := Lib.hid hl
  have HR := Lib.hid g.ris
  rw [hm] at HP
  obtain ⟨t, ht⟩ : ∃ t, thereE v.ents k = t := ⟨_, rfl⟩
  rw [ht] at HP
  have HT := Lib.hid ht
  unfold maxLen at hcm
  rw [hn]
  clear hn hm ht g hh hne
  have i1 : (0 : Int) ≤ (m : Int) := by omega
  have i3 : (n : Int) ≤ (c : Int) := by omega
  have i4 : (m : Int) ≤ (c : Int) := by omega
  obtain ⟨W0, hW0⟩ : ∃ W, W = (w.alloc (ivObj v (.slice (some ⟨b, off, none⟩) n c))).alloc ivZero := ⟨_, rfl⟩
  have B0 := Lib.hid (show Below w.heap.size w W0 by rw [hW0]; exact alloc2_below _ _ _)
  have K0 := Lib.hid (show HB w.heap.size (ivObj v (.slice (some ⟨b, off, none⟩) n c)) W0 by rw [hW0]; exact HB.fst _ _ _)
  have R0 := Lib.hid (show HB (w.heap.size + 1) ivZero W0 by rw [hW0]; exact HB.snd _ _ _)
  have Z := Lib.hid (show W0.heap.size = w.heap.size + 2 by rw [hW0]; simp)
  have EE := Lib.hid (hv.below B0.out)
  have v_0 := K0.out.vb.c0
  have v_1 := K0.out.vb.c1
  have v_2 := K0.out.vb.c2
  have v_3 := K0.out.vb.c3
  have v_4 := K0.out.vb.c4
  have v_5 := K0.out.vb.c5
  have v_6 := K0.out.vb.c6
  have v_7 := K0.out.vb.c7
  have v_8 := K0.out.vb.c8
  unfold ivObj ivZero at hW0
  clear hv
  unfold ivVal
  go_enter Try.func83, Try.ntmps83
  go_wp2_with fail
  rw [← hW0]
  refine (findI_any v (.slice (some ⟨b, off, none⟩) n c) k W0 EE.out HR.out (by rw [LN.out]; exact HL.out)).mono ?_
  rintro ev w2 ⟨rfl, hs⟩
  unfold findV
  rw [HM.out, HT.out]
  clear hW0 v_0 v_1 v_2 v_3 v_4 v_5 v_6 v_7 v_8
  have B2 := Lib.hid hs
  have K2 := Lib.hid (K0.out.below hs)
  have R2 := Lib.hid (R0.out.below hs)
  have E := Lib.hid (EE.out.below hs)
  clear hs K0 R0
  have Z2 := B2.out.size
  have Z := Lib.hid (show w.heap.size + 2 ≤ w2.heap.size by rw [← Z.out]; exact B2.out.size)
  have B0 := Lib.hid (B0.out.trans (B2.out.mono B0.out.size))
  cases t with
  | false =>
    have P := Lib.hid (show splitI v k p = none by rw [HP.out, if_neg (fun h => by cases h.1)])
    go_wp2_with (refine wpList_store_mid rfl 29 (.tmp 6) (.tmp 22) rfl (w.heap.size + 1) 0 (ivCells IvD.zero nilV).toArray rfl rfl (R2.out.there 9 (Nat.le_refl _)) ivInfoS (iv_one _ _ _ _) ?_)
    have B6 := below_setCells (b := w.heap.size + 1) (show w.heap.size ≤ w.heap.size + 1 by omega) (ivCells IvD.zero nilV) 0 _ B0.out
    refine bodyPost_ret (v := .tuple #[.agg (ivCells IvD.zero nilV).toArray, .bool false]) (results_cellT rfl _ _ (w.heap.size + 1) _ _ _ rfl rfl (World.rangeAt_setCells_same _ _ 0 _ (R2.out.there 9 (Nat.le_refl _))) Try.underlying29 rfl ivInfoS) rfl ?_
    exact ⟨nilV, by rw [P.out]; rfl, by rw [P.out]; exact OwnS.nil _ _ _, B6⟩
  | true =>
    by_cases hm0 : m = 0
    · subst hm0
      have P := Lib.hid (show splitI v k p = none by rw [HP.out, if_neg (fun h => h.2 rfl)])
      go_wp2_with (refine wpList_store_mid rfl 29 (.tmp 6) (.tmp 22) rfl (w.heap.size + 1) 0 (ivCells IvD.zero nilV).toArray rfl rfl (R2.out.there 9 (Nat.le_refl _)) ivInfoS (iv_one _ _ _ _) ?_)
      have B6 := below_setCells (b := w.heap.size + 1) (show w.heap.size ≤ w.heap.size + 1 by omega) (ivCells IvD.zero nilV) 0 _ B0.out
      refine bodyPost_ret (v := .tuple #[.agg (ivCells IvD.zero nilV).toArray, .bool false]) (results_cellT rfl _ _ (w.heap.size + 1) _ _ _ rfl rfl (World.rangeAt_setCells_same _ _ 0 _ (R2.out.there 9 (Nat.le_refl _))) Try.underlying29 rfl ivInfoS) rfl ?_
      exact ⟨nilV, by rw [P.out]; rfl, by rw [P.out]; exact OwnS.nil _ _ _, B6⟩
    · have hmz : ((m : Int) == 0) = false := by rw [beq_eq_false_iff_ne]; omega
      have P := Lib.hid (show splitI v k p = some (⟨v.low, k, false, p, v.ents.take m, false, 0, 0, ⟨#[]⟩⟩ : IvD) by rw [HP.out, if_pos ⟨rfl, hm0⟩]; obtain ⟨l, h, u, r, e, hd, hp, hl, hk⟩ := v; obtain ⟨f1, f2, f3⟩ := HF.out; have f0 := HH.out; simp only at f0 f1 f2 f3; subst f0 f1 f2 f3; rfl)
      have HS := Lib.hid (show ∀ w1, Below w2.heap.size w2 w1 → (fun w' => w'.cell? ⟨w.heap.size, 0, none⟩ = some (.string v.low) ∧ w'.cell? ⟨w.heap.size, 4, none⟩ = some (.slice (some ⟨b, off, none⟩) n c)) w1 from fun w1 hs => by have V := (K2.out.below hs).vb; exact ⟨V.c0, V.c4⟩)
      have SD := Lib.hid (HS.out w2.drew (Below.refl _ _).drew)
      go_wp2_with fail
      refine AnyBut.region (fun w' => w'.cell? ⟨w.heap.size, 0, none⟩ = some (.string v.low) ∧ w'.cell? ⟨w.heap.size, 4, none⟩ = some (.slice (some ⟨b, off, none⟩) n c)) 12 (by kernel_rfl) ?_
      refine AnyBut.take (i := 0) (oi := ⟨some 23, _, _, _, _, none⟩) (v := ?va0) rfl (by kernel_rfl) (by kernel_rfl) (by kernel_rfl) (by kernel_rfl) (fun _ _ _ h => h) (Or.inl ⟨by rfl, ?hya0⟩) SD.out ?resta0
      case hya0 => (intro w hSw; go_simp; try (with_reducible rfl))
      simp only [Act.put, List.setIfInBounds_toArray, List.set_cons_zero, List.set_cons_succ]
      refine AnyBut.take (i := 1) (oi := ⟨some 24, _, _, _, _, none⟩) (v := ?va1) rfl (by kernel_rfl) (by kernel_rfl) (by kernel_rfl) (by kernel_rfl) (fun _ _ _ h => h) (Or.inl ⟨by rfl, ?hya1⟩) SD.out ?resta1
      case hya1 => (intro w hSw; go_simp; try (with_reducible rfl))
      simp only [Act.put, List.setIfInBounds_toArray, List.set_cons_zero, List.set_cons_succ]
      refine AnyBut.take (i := 2) (oi := ⟨some 25, _, _, _, _, none⟩) (v := ?va2) rfl (by kernel_rfl) (by kernel_rfl) (by kernel_rfl) (by kernel_rfl) (fun _ _ _ h => h) (Or.inl ⟨by rfl, ?hya2⟩) SD.out ?resta2
      case hya2 => (intro w hSw; go_simp; try (with_reducible rfl))
      simp only [Act.put, List.setIfInBounds_toArray, List.set_cons_zero, List.set_cons_succ]
      refine AnyBut.take (i := 3) (oi := ⟨some 26, _, _, _, _, none⟩) (v := ?va3) rfl (by kernel_rfl) (by kernel_rfl) (by kernel_rfl) (by kernel_rfl) (fun _ _ _ h => h) (Or.inl ⟨by rfl, ?hya3⟩) SD.out ?resta3
      case hya3 => (intro w hSw; go_simp; try (with_reducible rfl))
      simp only [Act.put, List.setIfInBounds_toArray, List.set_cons_zero, List.set_cons_succ]
      refine AnyBut.take (i := 4) (oi := ⟨some 27, _, _, _, _, none⟩) (v := ?va4) rfl (by kernel_rfl) (by kernel_rfl) (by kernel_rfl) (by kernel_rfl) (fun _ _ _ h => h) (Or.inl ⟨by rfl, ?hya4⟩) SD.out ?resta4
      case hya4 => (intro w hSw; go_simp; try (with_reducible rfl))
      simp only [Act.put, List.setIfInBounds_toArray, List.set_cons_zero, List.set_cons_succ]
      refine AnyBut.take (i := 5) (oi := ⟨some 28, _, _, _, _, none⟩) (v := ?va5) rfl (by kernel_rfl) (by kernel_rfl) (by kernel_rfl) (by kernel_rfl) (fun _ _ _ h => h) (Or.inl ⟨by rfl, ?hya5⟩) SD.out ?resta5
      case hya5 => (intro w hSw; go_simp; try (with_reducible rfl))
      simp only [Act.put, List.setIfInBounds_toArray, List.set_cons_zero, List.set_cons_succ]
      refine AnyBut.take (i := 6) (oi := ⟨some 29, _, _, _, _, none⟩) (v := ?va6) rfl (by kernel_rfl) (by kernel_rfl) (by kernel_rfl) (by kernel_rfl) (fun _ _ _ h => h) (Or.inl ⟨by rfl, ?hya6⟩) SD.out ?resta6
      case hya6 => (intro w hSw; go_simp; try (with_reducible rfl))
      simp only [Act.put, List.setIfInBounds_toArray, List.set_cons_zero, List.set_cons_succ]
      refine AnyBut.take (i := 7) (oi := ⟨some 30, _, _, _, _, none⟩) (v := ?va7) rfl (by kernel_rfl) (by kernel_rfl) (by kernel_rfl) (by kernel_rfl) (fun _ _ _ h => h) (Or.inl ⟨by rfl, ?hya7⟩) SD.out ?resta7
      case hya7 => (intro w hSw; go_simp; try (with_reducible rfl))
      simp only [Act.put, List.setIfInBounds_toArray, List.set_cons_zero, List.set_cons_succ]
      have b2 := ((Below.refl w2.heap.size w2).alloc (Nat.le_refl _) (.cells #[.slice (some ⟨b, off, none⟩) m c] 25)).drew
      have k2 := Lib.hid (HB.new (.cells #[.slice (some ⟨b, off, none⟩) m c] 25) w2).drew
      refine AnyBut.one (i := 8) (o := ⟨some 31, _, _, _, _, none⟩) (by kernel_rfl) rfl (fun K hK => ?_)
      go_simp
      refine hK.out _ _ (fun _ => HS.out _ b2) ?_
      clear hK K
      obtain ⟨W2, hW2⟩ : ∃ W, W = (w2.alloc (.cells #[.slice (some ⟨b, off, none⟩) m c] 25)).drew := ⟨_, rfl⟩
      rw [← hW2] at b2 k2 ⊢
      clear hW2
      have B2 := Lib.hid b2
      have E2 := Lib.hid (E.out.below b2)
      clear b2
      try simp only [Act.put, List.setIfInBounds_toArray, List.set_cons_zero, List.set_cons_succ]
      refine AnyBut.one (i := 9) (o := ⟨some 32, _, _, _, _, none⟩) (by kernel_rfl) rfl (fun K hK => ?_)
      go_simp
      refine (catE1 W2 w2.heap.size (.slice (some ⟨b, off, none⟩) m c) (v.ents.take m) k2.out (E2.out.takeV (by rw [LN.out]; exact MN.out)) LL.out).mono ?_
      rintro ev w3 ⟨v3, rfl, ho, hs⟩
      obtain ⟨a3, c3, rfl, -, -⟩ := ho.lenN LE.out
      have B3 := Lib.hid (B2.out.trans (hs.mono B2.out.size))
      have O3 := Lib.hid ho
      have BW := Lib.hid B2.out.size
      clear ho hs
      refine hK.out _ _ (fun _ => HS.out _ B3.out) ?_
      clear hK K
      try simp only [Act.put, List.setIfInBounds_toArray, List.set_cons_zero, List.set_cons_succ]
      refine AnyBut.one (i := 10) (o := ⟨some 33, _, _, _, _, none⟩) (by kernel_rfl) rfl (fun K hK => ?_)
      go_simp
      refine hK.out _ _ (fun _ => HS.out _ B3.out) ?_
      clear hK K
      try simp only [Act.put, List.setIfInBounds_toArray, List.set_cons_zero, List.set_cons_succ]
      have R3 := Lib.hid (R2.out.below B3.out)
      have Z3 := B3.out.size
      have HS3 := Lib.hid (show (fun w' => w'.cell? ⟨w.heap.size, 0, none⟩ = some (.string v.low) ∧ w'.cell? ⟨w.heap.size, 4, none⟩ = some (.slice (some ⟨b, off, none⟩) n c)) (w3.setCells (w.heap.size + 1) 0 (ivCells (⟨v.low, k, false, p, v.ents.take m, false, 0, 0, ⟨#[]⟩⟩ : IvD) (.slice a3 m c3))) from by have V := ((K2.out.below B3.out).off (b2 := w.heap.size + 1) (by omega) (ivCells (⟨v.low, k, false, p, v.ents.take m, false, 0, 0, ⟨#[]⟩⟩ : IvD) (.slice a3 m c3)) 0).vb; exact ⟨V.c0, V.c4⟩)
      refine AnyBut.one (i := 11) (o := ⟨none, _, _, _, _, none⟩) (by kernel_rfl) rfl (fun K hK => ?_)
      rw [if_pos (by rfl)]
      refine wp_store_mid 29 (.tmp 6) (.tmp 33) rfl (w.heap.size + 1) 0 (ivCells (⟨v.low, k, false, p, v.ents.take m, false, 0, 0, ⟨#[]⟩⟩ : IvD) (.slice a3 m c3)).toArray rfl rfl (R3.out.there 9 (Nat.le_refl _)) ivInfoS (iv_one _ _ _ _) ?_
      refine hK.out _ _ (fun _ => HS3.out) ?_
      clear hK K
      try simp only [Act.put]
      refine AnyBut.one (i := 12) (o := ⟨some 7, _, _, _, _, none⟩) (by kernel_rfl) rfl (fun K hK => ?_)
      go_simp
      refine hK.out _ _ (fun h => absurd rfl h) ?_
      clear hK K
      try simp only [Act.put, List.setIfInBounds_toArray, List.set_cons_zero, List.set_cons_succ]
      refine AnyBut.done (by kernel_rfl) ?_ _
      go_wp2
      have O7 := O3.out.sets (b := w.heap.size + 1) (by have := BW.out; have := Z.out; omega) 0 (ivCells (⟨v.low, k, false, p, v.ents.take m, false, 0, 0, ⟨#[]⟩⟩ : IvD) (.slice a3 m c3))
      have B8 := below_setCells (b := w.heap.size + 1) (show w.heap.size ≤ w.heap.size + 1 by omega) (ivCells (⟨v.low, k, false, p, v.ents.take m, false, 0, 0, ⟨#[]⟩⟩ : IvD) (.slice a3 m c3)) 0 _ (B0.out.trans (B3.out.mono B0.out.size))
      refine bodyPost_ret (v := .tuple #[.agg (ivCells (⟨v.low, k, false, p, v.ents.take m, false, 0, 0, ⟨#[]⟩⟩ : IvD) (.slice a3 m c3)).toArray, .bool true]) (results_cellT rfl _ _ (w.heap.size + 1) _ _ _ rfl rfl (World.rangeAt_setCells_same _ _ 0 _ (R3.out.there 9 (Nat.le_refl _))) Try.underlying29 rfl ivInfoS) rfl ?_
      exact ⟨_, by rw [P.out]; rfl, by rw [P.out]; exact O7.mono (by have := BW.out; have := Z.out; omega), B8⟩
end Go.Proofs.Ytkkmfacngmginaa
