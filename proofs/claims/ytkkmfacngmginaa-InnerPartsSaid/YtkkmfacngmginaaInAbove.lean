/- Package inner's own functions (layer 8), by contracts: above. -/
import Derived.Test.YtkkmfacngmginaaInWith
import Derived.Test.YtkkmfacngmginaaInCut
import Derived.Test.YtkkmfacngmginaaInHeld
import Derived.Test.YtkkmfacngmginaaInDropped
namespace Go.Proofs.Ytkkmfacngmginaa
open Go.RowKit

set_option maxRecDepth 100000 in
set_option maxHeartbeats 4000000 in
theorem above_any (base : Nat) (v : IvD) (en : Value) (sc : Sc) (rows : List Rw) (ents : List En) (ra : Option Addr) (rn rc : Nat) (ea : Option Addr) (en0 ec : Nat) (w : World) (hv : OwnS lEnt base w en v.ents) (g : GoodI v) (hl' : v.ents.length ≤ 2000) :
    Calls Try.prog 46 #[ivVal v en, recVal sc (.slice ra rn rc) (.slice ea en0 ec)] w fun ev w' => ∃ en', ev = .returned (.tuple #[ivVal ((stepI v ⟨sc, rows, ents⟩).getD IvD.zero) en', .bool (stepI v ⟨sc, rows, ents⟩).isSome]) ∧ OwnS lEnt (min base w.heap.size) w' en' ((stepI v ⟨sc, rows, ents⟩).getD IvD.zero).ents ∧ Below w.heap.size w w' := by
  obtain ⟨kind, low, high, unb, right, key, value, page, hp, hl, hk, ns, ng⟩ := sc
  have hne := firstB_ne g.first
  obtain ⟨a, c, rfl, hlc, hcm⟩ := hv.sv.lenform
  obtain ⟨b, off, ha⟩ := hv.sv.addr (fun h => hne (List.eq_nil_of_length_eq_zero h))
  subst ha
  obtain ⟨n, hn⟩ : ∃ n, v.ents.length = n := ⟨_, rfl⟩
  have LN := Lib.hid hn
  have G := Lib.hid g
  have HL := Lib.hid hl'
  rw [hn] at hv ⊢
  clear hn g hne hlc hcm hl'
  obtain ⟨W0, hW0⟩ : ∃ W, W = ((w.alloc (ivObj v (.slice (some ⟨b, off, none⟩) n c))).alloc (recObj (⟨kind, low, high, unb, right, key, value, page, hp, hl, hk, ns, ng⟩ : Sc) (.slice ra rn rc) (.slice ea en0 ec))).alloc ivZero := ⟨_, rfl⟩
  have zq : ((w.alloc (ivObj v (.slice (some ⟨b, off, none⟩) n c))).alloc (recObj (⟨kind, low, high, unb, right, key, value, page, hp, hl, hk, ns, ng⟩ : Sc) (.slice ra rn rc) (.slice ea en0 ec))).heap.size = w.heap.size + 2 := by simp
  have bq := alloc_below0 ((w.alloc (ivObj v (.slice (some ⟨b, off, none⟩) n c))).alloc (recObj (⟨kind, low, high, unb, right, key, value, page, hp, hl, hk, ns, ng⟩ : Sc) (.slice ra rn rc) (.slice ea en0 ec))) ivZero
  have ba := alloc2_below w (ivObj v (.slice (some ⟨b, off, none⟩) n c)) (recObj (⟨kind, low, high, unb, right, key, value, page, hp, hl, hk, ns, ng⟩ : Sc) (.slice ra rn rc) (.slice ea en0 ec))
  have B0 := Lib.hid (show Below w.heap.size w W0 by rw [hW0]; exact ba.trans (bq.mono ba.size))
  have K0 := Lib.hid (show HB w.heap.size (ivObj v (.slice (some ⟨b, off, none⟩) n c)) W0 by rw [hW0]; exact (HB.fst _ _ _).below bq)
  have X0 := Lib.hid (show HB (w.heap.size + 1) (recObj (⟨kind, low, high, unb, right, key, value, page, hp, hl, hk, ns, ng⟩ : Sc) (.slice ra rn rc) (.slice ea en0 ec)) W0 by rw [hW0]; exact (HB.snd _ _ _).below bq)
  have R0 := Lib.hid (show HB (w.heap.size + 1 + 1) ivZero W0 by rw [hW0, show w.heap.size + 1 + 1 = w.heap.size + 2 from rfl, ← zq]; exact HB.new _ _)
  have Z := Lib.hid (show W0.heap.size = w.heap.size + 3 by rw [hW0]; simp)
  have OW := Lib.hid (hv.below B0.out)
  have BL := Lib.hid (show ∀ k, (Value.slice (some ⟨b, off, none⟩) n c).ownBlock = some k → k < w.heap.size from fun k hk => (hv.bounds k hk).2)
  have v_0 := K0.out.vb.c0
  have v_1 := K0.out.vb.c1
  have v_2 := K0.out.vb.c2
  have v_3 := K0.out.vb.c3
  have v_4 := K0.out.vb.c4
  have v_5 := K0.out.vb.c5
  have v_6 := K0.out.vb.c6
  have v_7 := K0.out.vb.c7
  have v_8 := K0.out.vb.c8
  have r_0 := X0.out.cell 0
  have r_7 := X0.out.cell 7
  have r_9 := X0.out.cell 9
  have r_10 := X0.out.cell 10
  have r_11 := X0.out.cell 11
  have r_12 := X0.out.cell 12
  simp at r_0 r_7 r_9 r_10 r_11 r_12
  simp only [ivObj, ivZero, recObj] at hW0
  clear zq bq ba hv
  unfold ivVal recVal
  simp only
  go_enter Try.func46, Try.ntmps46
  cases hh : v.held with
  | true =>
    have HH := Lib.hid hh
    rw [hh] at v_5 hW0
    clear hh
    by_cases h11 : kind = 11
    · subst h11
      have hcl := dropped_any v (.slice (some ⟨b, off, none⟩) n c) W0 OW.out.sv G.out HH.out HL.out
      simp only [ivVal, HH.out] at hcl
      go_wp2_with fail
      rw [← hW0]
      refine hcl.mono ?_
      clear hW0 r_0 r_7 r_9 r_10 r_11 r_12
      rintro ev w3 ⟨en', rfl, ho, hs⟩
      have B3 := Lib.hid (B0.out.trans (hs.mono B0.out.size))
      have R3 := Lib.hid (R0.out.below hs)
      obtain ⟨X, hX⟩ : ∃ X, (dropI v).getD IvD.zero = X := ⟨_, rfl⟩
      have ht : (dropI v).isSome = true := by rw [(dropI_place G.out HH.out).2]; rfl
      rw [hX] at ho ⊢
      obtain ⟨n3, hn3⟩ : ∃ n, X.ents.length = n := ⟨_, rfl⟩
      obtain ⟨a3, c3, rfl, -, -⟩ := ho.lenN hn3
      have O3 := Lib.hid ho
      have PX := Lib.hid (show stepI v ⟨(⟨11, low, high, unb, right, key, value, page, hp, hl, hk, ns, ng⟩ : Sc), rows, ents⟩ = (dropI v) from stepI_drop HH.out rfl)
      have HX := Lib.hid hX
      have HT := Lib.hid ht
      clear hX ht hs ho hn3 hcl v_0 v_1 v_2 v_3 v_4 v_5 v_6 v_7 v_8
      go_wp2_with (refine wpList_store_mid rfl 29 (.tmp 4) (.tmp 47) rfl (w.heap.size + 1 + 1) 0 (ivCells X (.slice a3 n3 c3)).toArray rfl rfl ?_ ivInfoS (iv_one _ _ _ _) ?_; exact R3.out.there 9 (Nat.le_refl _))
      have O7 := O3.out.sets (b := w.heap.size + 1 + 1) (by have := Z.out; omega) 0 (ivCells X (.slice a3 n3 c3))
      have B8 := below_setCells (b := w.heap.size + 1 + 1) (show w.heap.size ≤ w.heap.size + 1 + 1 by omega) (ivCells X (.slice a3 n3 c3)) 0 _ B3.out
      refine bodyPost_ret (v := .tuple #[.agg (ivCells X (.slice a3 n3 c3)).toArray, .bool true]) (results_cellT rfl _ _ (w.heap.size + 1 + 1) _ _ _ rfl rfl (World.rangeAt_setCells_same _ _ 0 _ (R3.out.there 9 (Nat.le_refl _))) Try.underlying29 rfl ivInfoS) rfl ?_
      exact ⟨_, by rw [PX.out, HX.out, HT.out]; rfl, by rw [PX.out, HX.out]; exact O7.mono (by have := Z.out; omega), B8⟩
    · have e11 : (kind == 11) = false := by rw [beq_eq_false_iff_ne]; exact h11
      have P := Lib.hid (show stepI v ⟨(⟨kind, low, high, unb, right, key, value, page, hp, hl, hk, ns, ng⟩ : Sc), rows, ents⟩ = none from stepI_held HH.out h11)
      clear h11
      subst hW0
      go_wp2_with (refine wpList_store_mid rfl 29 (.tmp 4) (.tmp 12) rfl (w.heap.size + 1 + 1) 0 (ivCells IvD.zero nilV).toArray rfl rfl (R0.out.there 9 (Nat.le_refl _)) ivInfoS (iv_one _ _ _ _) ?_)
      have B6 := below_setCells (b := w.heap.size + 1 + 1) (show w.heap.size ≤ w.heap.size + 1 + 1 by omega) (ivCells IvD.zero nilV) 0 _ B0.out
      refine bodyPost_ret (v := .tuple #[.agg (ivCells IvD.zero nilV).toArray, .bool false]) (results_cellT rfl _ _ (w.heap.size + 1 + 1) _ _ _ rfl rfl (World.rangeAt_setCells_same _ _ 0 _ (R0.out.there 9 (Nat.le_refl _))) Try.underlying29 rfl ivInfoS) rfl ?_
      exact ⟨nilV, by rw [P.out]; rfl, by rw [P.out]; exact OwnS.nil _ _ _, B6⟩
  | false =>
    have HH := Lib.hid hh
    rw [hh] at v_5 hW0
    clear hh
    by_cases h11 : kind = 11
    · subst h11
      have P := Lib.hid (show stepI v ⟨(⟨11, low, high, unb, right, key, value, page, hp, hl, hk, ns, ng⟩ : Sc), rows, ents⟩ = none by unfold stepI; rw [HH.out]; rfl)
      subst hW0
      go_wp2_with (refine wpList_store_mid rfl 29 (.tmp 4) (.tmp 12) rfl (w.heap.size + 1 + 1) 0 (ivCells IvD.zero nilV).toArray rfl rfl (R0.out.there 9 (Nat.le_refl _)) ivInfoS (iv_one _ _ _ _) ?_)
      have B6 := below_setCells (b := w.heap.size + 1 + 1) (show w.heap.size ≤ w.heap.size + 1 + 1 by omega) (ivCells IvD.zero nilV) 0 _ B0.out
      refine bodyPost_ret (v := .tuple #[.agg (ivCells IvD.zero nilV).toArray, .bool false]) (results_cellT rfl _ _ (w.heap.size + 1 + 1) _ _ _ rfl rfl (World.rangeAt_setCells_same _ _ 0 _ (R0.out.there 9 (Nat.le_refl _))) Try.underlying29 rfl ivInfoS) rfl ?_
      exact ⟨nilV, by rw [P.out]; rfl, by rw [P.out]; exact OwnS.nil _ _ _, B6⟩
    · have e11 : (kind == 11) = false := by rw [beq_eq_false_iff_ne]; exact h11
      by_cases h8 : kind = 8
      · subst h8
        clear h11 e11
        have hcl := with_any v (.slice (some ⟨b, off, none⟩) n c) key page W0 OW.out.sv G.out.ris (firstB_ne G.out.first) HL.out
        simp only [ivVal, entVal, HH.out] at hcl
        go_wp2_with fail
        rw [← hW0]
        refine hcl.mono ?_
        clear hW0 r_0 r_7 r_9 r_10 r_11 r_12
        rintro ev w3 ⟨en', rfl, ho, hs⟩
        have B3 := Lib.hid (B0.out.trans (hs.mono B0.out.size))
        have R3 := Lib.hid (R0.out.below hs)
        obtain ⟨X, hX⟩ : ∃ X, (putI v key page).getD IvD.zero = X := ⟨_, rfl⟩
        obtain ⟨t, ht⟩ : ∃ t, (putI v key page).isSome = t := ⟨_, rfl⟩
        rw [ht]
        rw [hX] at ho ⊢
        obtain ⟨n3, hn3⟩ : ∃ n, X.ents.length = n := ⟨_, rfl⟩
        obtain ⟨a3, c3, rfl, -, -⟩ := ho.lenN hn3
        have O3 := Lib.hid ho
        have PX := Lib.hid (show stepI v ⟨(⟨8, low, high, unb, right, key, value, page, hp, hl, hk, ns, ng⟩ : Sc), rows, ents⟩ = (putI v key page) from stepI_put HH.out rfl)
        have HX := Lib.hid hX
        have HT := Lib.hid ht
        clear hX ht hs ho hn3 hcl v_0 v_1 v_2 v_3 v_4 v_5 v_6 v_7 v_8
        go_wp2_with (refine wpList_store_mid rfl 29 (.tmp 4) (.tmp 24) rfl (w.heap.size + 1 + 1) 0 (ivCells X (.slice a3 n3 c3)).toArray rfl rfl ?_ ivInfoS (iv_one _ _ _ _) ?_; exact R3.out.there 9 (Nat.le_refl _))
        have O7 := O3.out.sets (b := w.heap.size + 1 + 1) (by have := Z.out; omega) 0 (ivCells X (.slice a3 n3 c3))
        have B8 := below_setCells (b := w.heap.size + 1 + 1) (show w.heap.size ≤ w.heap.size + 1 + 1 by omega) (ivCells X (.slice a3 n3 c3)) 0 _ B3.out
        refine bodyPost_ret (v := .tuple #[.agg (ivCells X (.slice a3 n3 c3)).toArray, .bool t]) (results_cellT rfl _ _ (w.heap.size + 1 + 1) _ _ _ rfl rfl (World.rangeAt_setCells_same _ _ 0 _ (R3.out.there 9 (Nat.le_refl _))) Try.underlying29 rfl ivInfoS) rfl ?_
        exact ⟨_, by rw [PX.out, HX.out, HT.out]; rfl, by rw [PX.out, HX.out]; exact O7.mono (by have := Z.out; omega), B8⟩
      · have e8 : (kind == 8) = false := by rw [beq_eq_false_iff_ne]; exact h8
        by_cases h9 : kind = 9
        · subst h9
          clear h11 e11 h8 e8
          have hcl := cut_any v (.slice (some ⟨b, off, none⟩) n c) key page W0 OW.out.sv G.out HH.out HL.out
          simp only [ivVal, HH.out] at hcl
          go_wp2_with fail
          rw [← hW0]
          refine hcl.mono ?_
          clear hW0 r_0 r_7 r_9 r_10 r_11 r_12
          rintro ev w3 ⟨en', rfl, ho, hs⟩
          have B3 := Lib.hid (B0.out.trans (hs.mono B0.out.size))
          have R3 := Lib.hid (R0.out.below hs)
          obtain ⟨X, hX⟩ : ∃ X, (splitI v key page).getD IvD.zero = X := ⟨_, rfl⟩
          obtain ⟨t, ht⟩ : ∃ t, (splitI v key page).isSome = t := ⟨_, rfl⟩
          rw [ht]
          rw [hX] at ho ⊢
          obtain ⟨n3, hn3⟩ : ∃ n, X.ents.length = n := ⟨_, rfl⟩
          obtain ⟨a3, c3, rfl, -, -⟩ := ho.lenN hn3
          have O3 := Lib.hid ho
          have PX := Lib.hid (show stepI v ⟨(⟨9, low, high, unb, right, key, value, page, hp, hl, hk, ns, ng⟩ : Sc), rows, ents⟩ = (splitI v key page) from stepI_split HH.out rfl)
          have HX := Lib.hid hX
          have HT := Lib.hid ht
          clear hX ht hs ho hn3 hcl v_0 v_1 v_2 v_3 v_4 v_5 v_6 v_7 v_8
          go_wp2_with (refine wpList_store_mid rfl 29 (.tmp 4) (.tmp 34) rfl (w.heap.size + 1 + 1) 0 (ivCells X (.slice a3 n3 c3)).toArray rfl rfl ?_ ivInfoS (iv_one _ _ _ _) ?_; exact R3.out.there 9 (Nat.le_refl _))
          have O7 := O3.out.sets (b := w.heap.size + 1 + 1) (by have := Z.out; omega) 0 (ivCells X (.slice a3 n3 c3))
          have B8 := below_setCells (b := w.heap.size + 1 + 1) (show w.heap.size ≤ w.heap.size + 1 + 1 by omega) (ivCells X (.slice a3 n3 c3)) 0 _ B3.out
          refine bodyPost_ret (v := .tuple #[.agg (ivCells X (.slice a3 n3 c3)).toArray, .bool t]) (results_cellT rfl _ _ (w.heap.size + 1 + 1) _ _ _ rfl rfl (World.rangeAt_setCells_same _ _ 0 _ (R3.out.there 9 (Nat.le_refl _))) Try.underlying29 rfl ivInfoS) rfl ?_
          exact ⟨_, by rw [PX.out, HX.out, HT.out]; rfl, by rw [PX.out, HX.out]; exact O7.mono (by have := Z.out; omega), B8⟩
        · have e9 : (kind == 9) = false := by rw [beq_eq_false_iff_ne]; exact h9
          by_cases h10 : kind = 10
          · subst h10
            clear h11 e11 h8 e8 h9 e9
            have hcl := held_any base v (.slice (some ⟨b, off, none⟩) n c) hp hl hk W0 OW.out G.out HL.out
            simp only [ivVal, hdVal, HH.out] at hcl
            go_wp2_with fail
            rw [← hW0]
            refine hcl.mono ?_
            clear hW0 r_0 r_7 r_9 r_10 r_11 r_12
            rintro ev w3 ⟨en', rfl, ho, hw, hs⟩
            have B3 := Lib.hid (B0.out.trans (hs.mono B0.out.size))
            have R3 := Lib.hid (R0.out.below hs)
            obtain ⟨X, hX⟩ : ∃ X, (holdI v hp hl hk).getD IvD.zero = X := ⟨_, rfl⟩
            obtain ⟨t, ht⟩ : ∃ t, (holdI v hp hl hk).isSome = t := ⟨_, rfl⟩
            rw [ht]
            rw [hX] at ho ⊢
            obtain ⟨n3, hn3⟩ : ∃ n, X.ents.length = n := ⟨_, rfl⟩
            obtain ⟨a3, c3, rfl, -, -⟩ := ho.lenN hn3
            have O3 := Lib.hid ho
            have OT := Lib.hid (show Out (fun x => x = w.heap.size + 1 + 1) (Value.slice a3 n3 c3) from fun a m d hv hs => hw.elim (fun h => by rw [h] at hv; cases hv) (fun h => by have := BL.out a.block (by rw [← h, hv]; rfl); omega))
            clear hw
            have PX := Lib.hid (show stepI v ⟨(⟨10, low, high, unb, right, key, value, page, hp, hl, hk, ns, ng⟩ : Sc), rows, ents⟩ = (holdI v hp hl hk) from stepI_hold HH.out rfl)
            have HX := Lib.hid hX
            have HT := Lib.hid ht
            clear hX ht hs ho hn3 hcl v_0 v_1 v_2 v_3 v_4 v_5 v_6 v_7 v_8
            go_wp2_with (refine wpList_store_mid rfl 29 (.tmp 4) (.tmp 42) rfl (w.heap.size + 1 + 1) 0 (ivCells X (.slice a3 n3 c3)).toArray rfl rfl ?_ ivInfoS (iv_one _ _ _ _) ?_; exact R3.out.there 9 (Nat.le_refl _))
            have O7 := O3.out.kept (Kept.setCells (ivCells X (.slice a3 n3 c3)) 0 _ (Kept.refl (fun x => x = w.heap.size + 1 + 1) w3)) OT.out
            have B8 := below_setCells (b := w.heap.size + 1 + 1) (show w.heap.size ≤ w.heap.size + 1 + 1 by omega) (ivCells X (.slice a3 n3 c3)) 0 _ B3.out
            refine bodyPost_ret (v := .tuple #[.agg (ivCells X (.slice a3 n3 c3)).toArray, .bool t]) (results_cellT rfl _ _ (w.heap.size + 1 + 1) _ _ _ rfl rfl (World.rangeAt_setCells_same _ _ 0 _ (R3.out.there 9 (Nat.le_refl _))) Try.underlying29 rfl ivInfoS) rfl ?_
            exact ⟨_, by rw [PX.out, HX.out, HT.out]; rfl, by rw [PX.out, HX.out]; exact O7.mono (by have := Z.out; omega), B8⟩
          · have e10 : (kind == 10) = false := by rw [beq_eq_false_iff_ne]; exact h10
            have P := Lib.hid (show stepI v ⟨(⟨kind, low, high, unb, right, key, value, page, hp, hl, hk, ns, ng⟩ : Sc), rows, ents⟩ = none by unfold stepI; rw [HH.out, decide_eq_false h11]; simp only [if_neg h8, if_neg h9, if_neg h10, if_neg h11]; rfl)
            clear h8 h9 h10 h11
            subst hW0
            go_wp2_with (refine wpList_store_mid rfl 29 (.tmp 4) (.tmp 48) rfl (w.heap.size + 1 + 1) 0 (ivCells IvD.zero nilV).toArray rfl rfl (R0.out.there 9 (Nat.le_refl _)) ivInfoS (iv_one _ _ _ _) ?_)
            have B6 := below_setCells (b := w.heap.size + 1 + 1) (show w.heap.size ≤ w.heap.size + 1 + 1 by omega) (ivCells IvD.zero nilV) 0 _ B0.out
            refine bodyPost_ret (v := .tuple #[.agg (ivCells IvD.zero nilV).toArray, .bool false]) (results_cellT rfl _ _ (w.heap.size + 1 + 1) _ _ _ rfl rfl (World.rangeAt_setCells_same _ _ 0 _ (R0.out.there 9 (Nat.le_refl _))) Try.underlying29 rfl ivInfoS) rfl ?_
            exact ⟨nilV, by rw [P.out]; rfl, by rw [P.out]; exact OwnS.nil _ _ _, B6⟩
end Go.Proofs.Ytkkmfacngmginaa
