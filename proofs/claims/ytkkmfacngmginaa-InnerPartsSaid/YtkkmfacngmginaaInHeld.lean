/- Package inner's own functions (layer 8), by contracts: held. -/
import Derived.Test.YtkkmfacngmginaaInHold
namespace Go.Proofs.Ytkkmfacngmginaa
open Go.RowKit

set_option maxRecDepth 100000 in
set_option maxHeartbeats 4000000 in
theorem held_any (base : Nat) (v : IvD) (en : Value) (hp hl : Int) (hk : ByteArray) (w : World) (hv : OwnS lEnt base w en v.ents) (g : GoodI v) (hl' : v.ents.length ≤ 2000) :
    Calls Try.prog 84 #[ivVal v en, hdVal hp hl hk] w fun ev w' => ∃ en', ev = .returned (.tuple #[ivVal ((holdI v hp hl hk).getD IvD.zero) en', .bool (holdI v hp hl hk).isSome]) ∧ OwnS lEnt (min base w.heap.size) w' en' ((holdI v hp hl hk).getD IvD.zero).ents ∧ (en' = nilV ∨ en' = en) ∧ Below w.heap.size w w' := by
  have hnot : ∀ (x : Bool) (w : World), (Op.unary .not (.bool x)).run Try.prog w = .ok (.bool (!x)) w := fun _ _ => rfl
  obtain ⟨m, hm⟩ : ∃ m, aheadE v.ents hk = m := ⟨_, rfl⟩
  have hmn := aheadE_le v.ents hk
  have hne := firstB_ne g.first
  obtain ⟨a, c, rfl, hlc, hcm⟩ := hv.sv.lenform
  obtain ⟨b, off, ha⟩ := hv.sv.addr (fun h => hne (List.eq_nil_of_length_eq_zero h))
  subst ha
  obtain ⟨n, hn⟩ : ∃ n, v.ents.length = n := ⟨_, rfl⟩
  have LN := Lib.hid hn
  rw [hm] at hmn
  rw [hn] at hv hlc hl' hmn
  have HP := Lib.hid (holdI_place v hp hl hk g.ris)
  have HM := Lib.hid hm
  have HL := Lib.hid hl'
  have HR := Lib.hid g.ris
  rw [hm] at HP
  obtain ⟨t, ht⟩ : ∃ t, thereE v.ents hk = t := ⟨_, rfl⟩
  have KY := Lib.hid (show t = true → m < n ∧ (v.ents.getD m e0).1 = hk from fun e => by have := there_key (ht.trans e); rw [hm, hn] at this; exact this)
  rw [ht] at HP
  have HT := Lib.hid ht
  unfold maxLen at hcm
  rw [hn]
  clear hn hm ht g hne
  obtain ⟨W0, hW0⟩ : ∃ W, W = ((w.alloc (ivObj v (.slice (some ⟨b, off, none⟩) n c))).alloc (.cells #[.int .i64 hp, .int .i64 hl, .string hk] 27)).alloc ivZero := ⟨_, rfl⟩
  have zq : ((w.alloc (ivObj v (.slice (some ⟨b, off, none⟩) n c))).alloc (.cells #[.int .i64 hp, .int .i64 hl, .string hk] 27)).heap.size = w.heap.size + 2 := by simp
  have bq := alloc_below0 ((w.alloc (ivObj v (.slice (some ⟨b, off, none⟩) n c))).alloc (.cells #[.int .i64 hp, .int .i64 hl, .string hk] 27)) ivZero
  have ba := alloc2_below w (ivObj v (.slice (some ⟨b, off, none⟩) n c)) (.cells #[.int .i64 hp, .int .i64 hl, .string hk] 27)
  have B0 := Lib.hid (show Below w.heap.size w W0 by rw [hW0]; exact ba.trans (bq.mono ba.size))
  have K0 := Lib.hid (show HB w.heap.size (ivObj v (.slice (some ⟨b, off, none⟩) n c)) W0 by rw [hW0]; exact (HB.fst _ _ _).below bq)
  have X0 := Lib.hid (show HB (w.heap.size + 1) (.cells #[.int .i64 hp, .int .i64 hl, .string hk] 27) W0 by rw [hW0]; exact (HB.snd _ _ _).below bq)
  have R0 := Lib.hid (show HB (w.heap.size + 1 + 1) ivZero W0 by rw [hW0, show w.heap.size + 1 + 1 = w.heap.size + 2 from rfl, ← zq]; exact HB.new _ _)
  have Z := Lib.hid (show W0.heap.size = w.heap.size + 3 by rw [hW0]; simp)
  have OW := Lib.hid (hv.below B0.out)
  have EE := Lib.hid OW.out.sv
  have BL := Lib.hid (show ∀ k, (Value.slice (some ⟨b, off, none⟩) n c).ownBlock = some k → k < w.heap.size from fun k hk => (hv.bounds k hk).2)
  have v_0 := K0.out.vb.c0
  have v_1 := K0.out.vb.c1
  have v_2 := K0.out.vb.c2
  have v_3 := K0.out.vb.c3
  have v_4 := K0.out.vb.c4
  have v_5 := K0.out.vb.c5
  have v_6 := K0.out.vb.c6
  have v_7 := K0.out.vb.c7
  have v_8 := K0.out.vb.c8
  have d_0 := X0.out.cell 0
  have d_1 := X0.out.cell 1
  have d_2 := X0.out.cell 2
  simp at d_0 d_1 d_2
  unfold ivObj ivZero at hW0
  clear zq bq ba hv
  unfold ivVal hdVal
  go_enter Try.func84, Try.ntmps84
  go_wp2_with fail
  rw [← hW0]
  refine (findI_any v (.slice (some ⟨b, off, none⟩) n c) hk W0 EE.out HR.out (by rw [LN.out]; exact HL.out)).mono ?_
  rintro ev w2 ⟨rfl, hs⟩
  unfold findV
  rw [HM.out, HT.out]
  clear hW0 v_0 v_1 v_2 v_3 v_4 v_5 v_6 v_7 v_8 d_0 d_1 d_2
  have B2 := Lib.hid hs
  have K2 := Lib.hid (K0.out.below hs)
  have X2 := Lib.hid (X0.out.below hs)
  have R2 := Lib.hid (R0.out.below hs)
  have E := Lib.hid (EE.out.below hs)
  have OO := Lib.hid (OW.out.below hs)
  clear hs K0 R0 X0
  have Z2 := B2.out.size
  have Z := Lib.hid (show w.heap.size + 3 ≤ w2.heap.size by rw [← Z.out]; exact B2.out.size)
  have B0 := Lib.hid (B0.out.trans (B2.out.mono B0.out.size))
  have v_0 := K2.out.vb.c0
  have v_1 := K2.out.vb.c1
  have v_2 := K2.out.vb.c2
  have v_3 := K2.out.vb.c3
  have v_4 := K2.out.vb.c4
  have v_5 := K2.out.vb.c5
  have v_6 := K2.out.vb.c6
  have v_7 := K2.out.vb.c7
  have v_8 := K2.out.vb.c8
  have d_0 := X2.out.cell 0
  have d_1 := X2.out.cell 1
  have d_2 := X2.out.cell 2
  simp at d_0 d_1 d_2
  cases t with
  | false =>
    have P := Lib.hid (show holdI v hp hl hk = none by rw [HP.out, if_neg (fun h => by cases h.1)])
    go_wp2_with fail
    go_quiet (fail)
    have RN := Lib.hid (R2.out.below (below_drewN (Below.refl w2.heap.size w2) nq))
    go_wp2_with (refine wpList_store_mid rfl 29 (.tmp 4) (.tmp 28) rfl (w.heap.size + 1 + 1) 0 (ivCells IvD.zero nilV).toArray rfl rfl (RN.out.there 9 (Nat.le_refl _)) ivInfoS (iv_one _ _ _ _) ?_)
    have B6 := below_setCells (b := w.heap.size + 1 + 1) (show w.heap.size ≤ w.heap.size + 1 + 1 by omega) (ivCells IvD.zero nilV) 0 _ (below_drewN B0.out nq)
    refine bodyPost_ret (v := .tuple #[.agg (ivCells IvD.zero nilV).toArray, .bool false]) (results_cellT rfl _ _ (w.heap.size + 1 + 1) _ _ _ rfl rfl (World.rangeAt_setCells_same _ _ 0 _ (RN.out.there 9 (Nat.le_refl _))) Try.underlying29 rfl ivInfoS) rfl ?_
    exact ⟨nilV, by rw [P.out]; rfl, by rw [P.out]; exact OwnS.nil _ _ _, .inl rfl, B6⟩
  | true =>
    by_cases hm0 : m = 0
    · subst hm0
      have P := Lib.hid (show holdI v hp hl hk = none by rw [HP.out, if_neg (fun h => h.2.1 rfl)])
      go_wp2_with fail
      go_quiet (fail)
      have RN := Lib.hid (R2.out.below (below_drewN (Below.refl w2.heap.size w2) nq))
      go_wp2_with (refine wpList_store_mid rfl 29 (.tmp 4) (.tmp 28) rfl (w.heap.size + 1 + 1) 0 (ivCells IvD.zero nilV).toArray rfl rfl (RN.out.there 9 (Nat.le_refl _)) ivInfoS (iv_one _ _ _ _) ?_)
      have B6 := below_setCells (b := w.heap.size + 1 + 1) (show w.heap.size ≤ w.heap.size + 1 + 1 by omega) (ivCells IvD.zero nilV) 0 _ (below_drewN B0.out nq)
      refine bodyPost_ret (v := .tuple #[.agg (ivCells IvD.zero nilV).toArray, .bool false]) (results_cellT rfl _ _ (w.heap.size + 1 + 1) _ _ _ rfl rfl (World.rangeAt_setCells_same _ _ 0 _ (RN.out.there 9 (Nat.le_refl _))) Try.underlying29 rfl ivInfoS) rfl ?_
      exact ⟨nilV, by rw [P.out]; rfl, by rw [P.out]; exact OwnS.nil _ _ _, .inl rfl, B6⟩
    · have hmz : ((m : Int) == 0) = false := by rw [beq_eq_false_iff_ne]; omega
      obtain ⟨j, hj⟩ : ∃ j, m = j + 1 := ⟨m - 1, by omega⟩
      obtain ⟨hmn', hkk⟩ := KY.out rfl
      have hcl := fun w h => hold_any v (.slice (some ⟨b, off, none⟩) n c) m j w h hj (by rw [LN.out]; exact hmn') (by rw [LN.out]; exact HL.out)
      rw [hkk] at hcl
      rw [show m - 1 = j by omega] at HP
      generalize (v.ents.getD m e0).2 = p1 at *
      generalize (v.ents.getD j e0).2 = l1 at *
      simp only [ivVal, hdVal] at hcl
      clear hj hmn' hkk
      have e3 : (hk.toList == hk.toList) = true := by simp
      by_cases h1 : p1 = hp
      · by_cases h2 : l1 = hl
        · have P := Lib.hid (show holdI v hp hl hk = some (⟨v.low, v.high, v.unb, v.right, v.ents, true, hp, hl, hk⟩ : IvD) by rw [HP.out, if_pos ⟨rfl, hm0, h1, h2⟩])
          have e1 : (hp == p1) = true := by rw [h1]; simp
          have e2 : (hl == l1) = true := by rw [h2]; simp
          clear h1 h2
          go_wp2_with fail
          go_region_held3 (fun w' => w'.cell? ⟨w.heap.size, 0, none⟩ = some (.string v.low) ∧ w'.cell? ⟨w.heap.size, 1, none⟩ = some (.string v.high) ∧ w'.cell? ⟨w.heap.size, 2, none⟩ = some (.bool v.unb) ∧ w'.cell? ⟨w.heap.size, 3, none⟩ = some (.int .i64 v.right) ∧ w'.cell? ⟨w.heap.size, 4, none⟩ = some (.slice (some ⟨b, off, none⟩) n c) ∧ w'.cell? ⟨w.heap.size, 5, none⟩ = some (.bool v.held) ∧ w'.cell? ⟨w.heap.size, 6, none⟩ = some (.int .i64 v.hp) ∧ w'.cell? ⟨w.heap.size, 7, none⟩ = some (.int .i64 v.hl) ∧ w'.cell? ⟨w.heap.size, 8, none⟩ = some (.string v.hk) ∧ w'.cell? ⟨w.heap.size + 1, 0, none⟩ = some (.int .i64 hp) ∧ w'.cell? ⟨w.heap.size + 1, 1, none⟩ = some (.int .i64 hl) ∧ w'.cell? ⟨w.heap.size + 1, 2, none⟩ = some (.string hk))
            (first | exact ⟨by assumption, by assumption, by assumption, by assumption, by assumption, by assumption, by assumption, by assumption, by assumption, by assumption, by assumption, by assumption⟩ | go_keep)
            (first
              | (go_at_call 103; (with_reducible refine (hcl _ ?_).mono ?_); exact E.out.below (Below.refl _ _).drew; rintro e w3 ⟨rfl, hs⟩; have B3 := Lib.hid ((Below.refl w2.heap.size w2).drew.trans hs); have z0 := cell_step (w := w2.drew) v_0 hs; have z1 := cell_step (w := w2.drew) v_1 hs; have z2 := cell_step (w := w2.drew) v_2 hs; have z3 := cell_step (w := w2.drew) v_3 hs; have z4 := cell_step (w := w2.drew) v_4 hs; have z5 := cell_step (w := w2.drew) v_5 hs; have z6 := cell_step (w := w2.drew) v_6 hs; have z7 := cell_step (w := w2.drew) v_7 hs; have z8 := cell_step (w := w2.drew) v_8 hs; have y0 := cell_step (w := w2.drew) d_0 hs; have y1 := cell_step (w := w2.drew) d_1 hs; have y2 := cell_step (w := w2.drew) d_2 hs; clear hs))
          have K3 := Lib.hid (K2.out.below B3.out)
          have X3 := Lib.hid (X2.out.below B3.out)
          have R3 := Lib.hid (R2.out.below B3.out)
          have B4 := Lib.hid (B0.out.trans (B3.out.mono B0.out.size))
          have O3 := Lib.hid (OO.out.below B3.out)
          have Z3 := B3.out.size
          clear z0 z1 z2 z3 z4 z5 z6 z7 z8 y0 y1 y2 v_0 v_1 v_2 v_3 v_4 v_5 v_6 v_7 v_8 d_0 d_1 d_2
          have SD := Lib.hid (show (fun w' => w'.cell? ⟨w.heap.size + 1, 0, none⟩ = some (.int .i64 hp) ∧ w'.cell? ⟨w.heap.size + 1, 1, none⟩ = some (.int .i64 hl) ∧ w'.cell? ⟨w.heap.size + 1, 2, none⟩ = some (.string hk)) w3.drew from ⟨X3.out.drew.cell 0, X3.out.drew.cell 1, X3.out.drew.cell 2⟩)
          go_wp2_with fail
          refine AnyBut.region (fun w' => w'.cell? ⟨w.heap.size + 1, 0, none⟩ = some (.int .i64 hp) ∧ w'.cell? ⟨w.heap.size + 1, 1, none⟩ = some (.int .i64 hl) ∧ w'.cell? ⟨w.heap.size + 1, 2, none⟩ = some (.string hk)) 4 (by kernel_rfl) ?_
          refine AnyBut.take (i := 0) (oi := ⟨some 29, _, _, _, _, none⟩) (v := ?va0) rfl (by kernel_rfl) (by kernel_rfl) (by kernel_rfl) (by kernel_rfl) (fun _ _ _ h => h) (Or.inl ⟨by rfl, ?hya0⟩) SD.out ?resta0
          case hya0 => (intro w hSw; go_simp; try (with_reducible rfl))
          simp only [Act.put, List.setIfInBounds_toArray, List.set_cons_zero, List.set_cons_succ]
          refine AnyBut.take (i := 1) (oi := ⟨some 30, _, _, _, _, none⟩) (v := ?va1) rfl (by kernel_rfl) (by kernel_rfl) (by kernel_rfl) (by kernel_rfl) (fun _ _ _ h => h) (Or.inl ⟨by rfl, ?hya1⟩) SD.out ?resta1
          case hya1 => (intro w hSw; go_simp; try (with_reducible rfl))
          simp only [Act.put, List.setIfInBounds_toArray, List.set_cons_zero, List.set_cons_succ]
          have c5 := K3.out.drew.cell 5
          have f5 := K3.out.drew.free 5
          simp at c5
          have X4 := Lib.hid (X3.out.off1 (b2 := w.heap.size) (by omega) 5 (.bool true)).drew
          have SE := Lib.hid (show (fun w' => w'.cell? ⟨w.heap.size + 1, 0, none⟩ = some (.int .i64 hp) ∧ w'.cell? ⟨w.heap.size + 1, 1, none⟩ = some (.int .i64 hl) ∧ w'.cell? ⟨w.heap.size + 1, 2, none⟩ = some (.string hk)) (w3.setCell ⟨w.heap.size, 5, none⟩ (.bool true)).drew from ⟨X4.out.cell 0, X4.out.cell 1, X4.out.cell 2⟩)
          refine AnyBut.one (i := 2) (o := ⟨none, _, _, _, _, none⟩) (by kernel_rfl) rfl (fun K hK => ?_)
          go_simp
          refine hK.out _ _ (fun _ => SE.out) ?_
          clear hK K
          try simp only [Act.put, List.setIfInBounds_toArray, List.set_cons_zero, List.set_cons_succ]
          have K4 := Lib.hid (show HB w.heap.size (ivObj ⟨v.low, v.high, v.unb, v.right, v.ents, true, v.hp, v.hl, v.hk⟩ (.slice (some ⟨b, off, none⟩) n c)) (w3.setCell ⟨w.heap.size, 5, none⟩ (.bool true)).drew from (K3.out.set1 5 (.bool true)).drew)
          have R4 := Lib.hid (R3.out.off1 (b2 := w.heap.size) (by omega) 5 (.bool true)).drew
          have B5 := Lib.hid (B4.out.trans (((Kept.refl (fun x => x = w.heap.size) w3).setCell 5 (.bool true)).drew.below (n := w.heap.size) (fun k h => by omega) (by have := Z.out; omega)))
          have O4 := Lib.hid (O3.out.kept (((Kept.refl (fun x => x = w.heap.size) w3).setCell 5 (.bool true)).drew) (fun a m d hv hs => by have := BL.out a.block (by rw [hv]; rfl); omega))
          generalize hW4 : World.drew (World.setCell _ _ _) = W4 at *
          clear hW4 c5 f5
          have SF := Lib.hid (show (fun w' => w'.cell? ⟨w.heap.size + 1, 0, none⟩ = some (.int .i64 hp) ∧ w'.cell? ⟨w.heap.size + 1, 1, none⟩ = some (.int .i64 hl) ∧ w'.cell? ⟨w.heap.size + 1, 2, none⟩ = some (.string hk)) W4 from SE.out)
          have c6 := K4.out.cell 6
          have c7 := K4.out.cell 7
          have c8 := K4.out.cell 8
          simp at c6 c7 c8
          have f6 := K4.out.free 6
          have f7 := K4.out.free 7
          have f8 := K4.out.free 8
          refine AnyBut.one (i := 3) (o := ⟨some 31, _, _, _, _, none⟩) (by kernel_rfl) rfl (fun K hK => ?_)
          go_simp
          refine hK.out _ _ (fun _ => SF.out) ?_
          clear hK K
          try simp only [Act.put, List.setIfInBounds_toArray, List.set_cons_zero, List.set_cons_succ]
          refine AnyBut.one (i := 4) (o := ⟨none, _, _, _, _, none⟩) (by kernel_rfl) rfl (fun K hK => ?_)
          rw [if_pos (by rfl)]
          refine wp_store_mid 27 (.tmp 31) (.tmp 29) rfl w.heap.size 6 #[.int .i64 hp, .int .i64 hl, .string hk] rfl rfl (K4.out.thereAt 6 3 (Nat.le_refl _)) hdInfoS (by kernel_rfl) ?_
          rw [setCells678]
          refine hK.out _ _ (fun h => absurd rfl h) ?_
          clear hK K
          try simp only [Act.put]
          refine AnyBut.done (by kernel_rfl) ?_ _
          have K5 := (((K4.out.set1 6 (.int .i64 hp)).set1 7 (.int .i64 hl)).set1 8 (.string hk))
          have K6 := Lib.hid (show HB w.heap.size (ivObj (⟨v.low, v.high, v.unb, v.right, v.ents, true, hp, hl, hk⟩ : IvD) (.slice (some ⟨b, off, none⟩) n c)) _ from K5)
          have R6 := Lib.hid (((R4.out.off1 (b2 := w.heap.size) (by omega) 6 (.int .i64 hp)).off1 (b2 := w.heap.size) (by omega) 7 (.int .i64 hl)).off1 (b2 := w.heap.size) (by omega) 8 (.string hk))
          have KT := (((Kept.refl (fun x => x = w.heap.size) W4).setCell 6 (.int .i64 hp)).setCell 7 (.int .i64 hl)).setCell 8 (.string hk)
          have O6 := Lib.hid (O4.out.kept KT (fun a m d hv hs => by have := BL.out a.block (by rw [hv]; rfl); omega))
          have B7 := Lib.hid (B5.out.trans (KT.below (n := w.heap.size) (fun k h => by omega) B5.out.size))
          have rg := iv_range K6.out
          clear K5 KT
          go_wp2_with (first | (refine wpList_load_mid rfl 29 (.tmp 2) rfl w.heap.size 0 rfl (ivCells (⟨v.low, v.high, v.unb, v.right, v.ents, true, hp, hl, hk⟩ : IvD) (.slice (some ⟨b, off, none⟩) n c)) _ ?_ Try.underlying29 rfl ivInfoS ?_; exact rg; generalize hW6 : World.setCell (World.setCell (World.setCell W4 _ _) _ _) _ _ = W6 at K6 R6 O6 B7 rg ⊢; clear hW6) | (refine wpList_store_mid rfl 29 (.tmp 4) (.tmp 32) rfl (w.heap.size + 1 + 1) 0 (ivCells (⟨v.low, v.high, v.unb, v.right, v.ents, true, hp, hl, hk⟩ : IvD) (.slice (some ⟨b, off, none⟩) n c)).toArray rfl rfl ?_ ivInfoS (iv_one _ _ _ _) ?_; exact R6.out.there 9 (Nat.le_refl _)))
          have O7 := O6.out.kept (Kept.setCells (ivCells (⟨v.low, v.high, v.unb, v.right, v.ents, true, hp, hl, hk⟩ : IvD) (.slice (some ⟨b, off, none⟩) n c)) 0 W6 (Kept.refl (fun x => x = w.heap.size + 1 + 1) W6)) (fun a m d hv hs => by have := BL.out a.block (by rw [hv]; rfl); omega)
          have B8 := below_setCells (b := w.heap.size + 1 + 1) (show w.heap.size ≤ w.heap.size + 1 + 1 by omega) (ivCells (⟨v.low, v.high, v.unb, v.right, v.ents, true, hp, hl, hk⟩ : IvD) (.slice (some ⟨b, off, none⟩) n c)) 0 _ B7.out
          refine bodyPost_ret (v := .tuple #[.agg (ivCells (⟨v.low, v.high, v.unb, v.right, v.ents, true, hp, hl, hk⟩ : IvD) (.slice (some ⟨b, off, none⟩) n c)).toArray, .bool true]) (results_cellT rfl _ _ (w.heap.size + 1 + 1) _ _ _ rfl rfl (World.rangeAt_setCells_same _ _ 0 _ (R6.out.there 9 (Nat.le_refl _))) Try.underlying29 rfl ivInfoS) rfl ?_
          exact ⟨_, by rw [P.out]; rfl, by rw [P.out]; exact O7.mono (Nat.min_le_left _ _), .inr rfl, B8⟩
        · have P := Lib.hid (show holdI v hp hl hk = none by rw [HP.out, if_neg (fun h => h2 h.2.2.2)])
          have e1 : (hp == p1) = true := by rw [h1]; simp
          have e2 : (hl == l1) = false := by rw [beq_eq_false_iff_ne]; exact fun e => h2 e.symm
          clear h1 h2
          go_wp2_with fail
          go_region_held3 (fun w' => w'.cell? ⟨w.heap.size, 0, none⟩ = some (.string v.low) ∧ w'.cell? ⟨w.heap.size, 1, none⟩ = some (.string v.high) ∧ w'.cell? ⟨w.heap.size, 2, none⟩ = some (.bool v.unb) ∧ w'.cell? ⟨w.heap.size, 3, none⟩ = some (.int .i64 v.right) ∧ w'.cell? ⟨w.heap.size, 4, none⟩ = some (.slice (some ⟨b, off, none⟩) n c) ∧ w'.cell? ⟨w.heap.size, 5, none⟩ = some (.bool v.held) ∧ w'.cell? ⟨w.heap.size, 6, none⟩ = some (.int .i64 v.hp) ∧ w'.cell? ⟨w.heap.size, 7, none⟩ = some (.int .i64 v.hl) ∧ w'.cell? ⟨w.heap.size, 8, none⟩ = some (.string v.hk) ∧ w'.cell? ⟨w.heap.size + 1, 0, none⟩ = some (.int .i64 hp) ∧ w'.cell? ⟨w.heap.size + 1, 1, none⟩ = some (.int .i64 hl) ∧ w'.cell? ⟨w.heap.size + 1, 2, none⟩ = some (.string hk))
            (first | exact ⟨by assumption, by assumption, by assumption, by assumption, by assumption, by assumption, by assumption, by assumption, by assumption, by assumption, by assumption, by assumption⟩ | go_keep)
            (first
              | (go_at_call 103; (with_reducible refine (hcl _ ?_).mono ?_); exact E.out.below (Below.refl _ _).drew; rintro e w3 ⟨rfl, hs⟩; have B3 := Lib.hid ((Below.refl w2.heap.size w2).drew.trans hs); have z0 := cell_step (w := w2.drew) v_0 hs; have z1 := cell_step (w := w2.drew) v_1 hs; have z2 := cell_step (w := w2.drew) v_2 hs; have z3 := cell_step (w := w2.drew) v_3 hs; have z4 := cell_step (w := w2.drew) v_4 hs; have z5 := cell_step (w := w2.drew) v_5 hs; have z6 := cell_step (w := w2.drew) v_6 hs; have z7 := cell_step (w := w2.drew) v_7 hs; have z8 := cell_step (w := w2.drew) v_8 hs; have y0 := cell_step (w := w2.drew) d_0 hs; have y1 := cell_step (w := w2.drew) d_1 hs; have y2 := cell_step (w := w2.drew) d_2 hs; clear hs))
          have R3 := Lib.hid (R2.out.below B3.out)
          have B4 := Lib.hid (B0.out.trans (B3.out.mono B0.out.size))
          go_wp2_with (refine wpList_store_mid rfl 29 (.tmp 4) (.tmp 28) rfl (w.heap.size + 1 + 1) 0 (ivCells IvD.zero nilV).toArray rfl rfl (R3.out.there 9 (Nat.le_refl _)) ivInfoS (iv_one _ _ _ _) ?_)
          have B6 := below_setCells (b := w.heap.size + 1 + 1) (show w.heap.size ≤ w.heap.size + 1 + 1 by omega) (ivCells IvD.zero nilV) 0 _ B4.out
          refine bodyPost_ret (v := .tuple #[.agg (ivCells IvD.zero nilV).toArray, .bool false]) (results_cellT rfl _ _ (w.heap.size + 1 + 1) _ _ _ rfl rfl (World.rangeAt_setCells_same _ _ 0 _ (R3.out.there 9 (Nat.le_refl _))) Try.underlying29 rfl ivInfoS) rfl ?_
          exact ⟨nilV, by rw [P.out]; rfl, by rw [P.out]; exact OwnS.nil _ _ _, .inl rfl, B6⟩
      · have P := Lib.hid (show holdI v hp hl hk = none by rw [HP.out, if_neg (fun h => h1 h.2.2.1)])
        have e1 : (hp == p1) = false := by rw [beq_eq_false_iff_ne]; exact fun e => h1 e.symm
        obtain ⟨e2b, e2⟩ : ∃ x, (hl == l1) = x := ⟨_, rfl⟩
        clear h1
        go_wp2_with fail
        go_region_held3 (fun w' => w'.cell? ⟨w.heap.size, 0, none⟩ = some (.string v.low) ∧ w'.cell? ⟨w.heap.size, 1, none⟩ = some (.string v.high) ∧ w'.cell? ⟨w.heap.size, 2, none⟩ = some (.bool v.unb) ∧ w'.cell? ⟨w.heap.size, 3, none⟩ = some (.int .i64 v.right) ∧ w'.cell? ⟨w.heap.size, 4, none⟩ = some (.slice (some ⟨b, off, none⟩) n c) ∧ w'.cell? ⟨w.heap.size, 5, none⟩ = some (.bool v.held) ∧ w'.cell? ⟨w.heap.size, 6, none⟩ = some (.int .i64 v.hp) ∧ w'.cell? ⟨w.heap.size, 7, none⟩ = some (.int .i64 v.hl) ∧ w'.cell? ⟨w.heap.size, 8, none⟩ = some (.string v.hk) ∧ w'.cell? ⟨w.heap.size + 1, 0, none⟩ = some (.int .i64 hp) ∧ w'.cell? ⟨w.heap.size + 1, 1, none⟩ = some (.int .i64 hl) ∧ w'.cell? ⟨w.heap.size + 1, 2, none⟩ = some (.string hk))
          (first | exact ⟨by assumption, by assumption, by assumption, by assumption, by assumption, by assumption, by assumption, by assumption, by assumption, by assumption, by assumption, by assumption⟩ | go_keep)
          (first
            | (go_at_call 103; (with_reducible refine (hcl _ ?_).mono ?_); exact E.out.below (Below.refl _ _).drew; rintro e w3 ⟨rfl, hs⟩; have B3 := Lib.hid ((Below.refl w2.heap.size w2).drew.trans hs); have z0 := cell_step (w := w2.drew) v_0 hs; have z1 := cell_step (w := w2.drew) v_1 hs; have z2 := cell_step (w := w2.drew) v_2 hs; have z3 := cell_step (w := w2.drew) v_3 hs; have z4 := cell_step (w := w2.drew) v_4 hs; have z5 := cell_step (w := w2.drew) v_5 hs; have z6 := cell_step (w := w2.drew) v_6 hs; have z7 := cell_step (w := w2.drew) v_7 hs; have z8 := cell_step (w := w2.drew) v_8 hs; have y0 := cell_step (w := w2.drew) d_0 hs; have y1 := cell_step (w := w2.drew) d_1 hs; have y2 := cell_step (w := w2.drew) d_2 hs; clear hs))
        have R3 := Lib.hid (R2.out.below B3.out)
        have B4 := Lib.hid (B0.out.trans (B3.out.mono B0.out.size))
        go_wp2_with (refine wpList_store_mid rfl 29 (.tmp 4) (.tmp 28) rfl (w.heap.size + 1 + 1) 0 (ivCells IvD.zero nilV).toArray rfl rfl (R3.out.there 9 (Nat.le_refl _)) ivInfoS (iv_one _ _ _ _) ?_)
        have B6 := below_setCells (b := w.heap.size + 1 + 1) (show w.heap.size ≤ w.heap.size + 1 + 1 by omega) (ivCells IvD.zero nilV) 0 _ B4.out
        refine bodyPost_ret (v := .tuple #[.agg (ivCells IvD.zero nilV).toArray, .bool false]) (results_cellT rfl _ _ (w.heap.size + 1 + 1) _ _ _ rfl rfl (World.rangeAt_setCells_same _ _ 0 _ (R3.out.there 9 (Nat.le_refl _))) Try.underlying29 rfl ivInfoS) rfl ?_
        exact ⟨nilV, by rw [P.out]; rfl, by rw [P.out]; exact OwnS.nil _ _ _, .inl rfl, B6⟩
end Go.Proofs.Ytkkmfacngmginaa
