/- A step done in both tables (layer 16): does at verb 6, by contract. -/
import Derived.Test.YtkbfhpgcjljbbaaDoorCmDoW
namespace Go.Proofs.YtkbfhpgcjljbbaaDoor
set_option linter.unusedVariables false
set_option linter.unusedSimpArgs false
open Go.RowKit

set_option maxRecDepth 100000 in
set_option maxHeartbeats 4000000 in
theorem does_6f (C : CmT) (a : Addr) (S : Nat → Prop) (t : Tb) (va vd vm : Value) (n th : Int) (Lv : Value) (xs : List Wr) (w0 w : World) (P : DoPre C w0 w a S t va vd vm) (hL : WrV lDw w0 Lv xs) (hxs : xs.length ≤ 100) (hn : -9223372036854775808 ≤ n ∧ n ≤ 9223372036854775807) :
    Calls Tryd.prog 10 #[.pointer (some a), rtV t va vd vm, doV 6 n th false Lv] w (DoesP C w0 w a S va vd vm (t.adv n)) := by
  obtain ⟨mn, hm⟩ : ∃ m, t.marks.length = m := ⟨_, rfl⟩
  obtain ⟨an, han⟩ : ∃ m, t.all.length = m := ⟨_, rfl⟩
  obtain ⟨dn, hdn⟩ : ∃ m, t.dropped.length = m := ⟨_, rfl⟩
  obtain ⟨ln, hln⟩ : ∃ m, xs.length = m := ⟨_, rfl⟩
  obtain ⟨ma, mc, rfl, -, mcm⟩ := P.rt.mks.lenN hm
  obtain ⟨aa, ac, rfl, -, acm⟩ := P.rt.all.lenN han
  obtain ⟨da, dc, rfl, -, dcm⟩ := P.rt.drp.lenN hdn
  obtain ⟨la, lc, rfl, -, lcm⟩ := hL.1.lenform
  rw [hln] at hL ⊢
  have OK := Lib.hid (C.ok P.inv)
  have PP := Lib.hid P
  have XL := Lib.hid (show WrV lDw w0 (.slice la ln lc) xs ∧ xs.length = ln ∧ xs.length ≤ 100 from ⟨hL, hln, hxs⟩)
  have NN := Lib.hid hn
  have LN := Lib.hid (show t.marks.length = mn ∧ t.all.length = an ∧ t.dropped.length = dn from ⟨hm, han, hdn⟩)
  have D0 := Lib.hid (DoW.start (Mt w S) w (rtL t (.slice aa an ac) (.slice da dn dc) (.slice ma mn mc)) rtZ 6 n th false (.slice la ln lc))
  have lw := low3 w (.cells (rtL t (.slice aa an ac) (.slice da dn dc) (.slice ma mn mc)).toArray 31) (doO 6 n th false (.slice la ln lc)) (.cells rtZ.toArray 31)
  obtain ⟨W, hW⟩ : ∃ W, W = ((w.alloc (.cells (rtL t (.slice aa an ac) (.slice da dn dc) (.slice ma mn mc)).toArray 31)).alloc (doO 6 n th false (.slice la ln lc))).alloc (.cells rtZ.toArray 31) := ⟨_, rfl⟩
  rw [← hW] at D0 lw
  unfold rtL rtZ doO at hW
  have HW := Lib.hid hW
  have I0 := Lib.hid (C.step P.inv lw)
  have V0 := Lib.hid (P.rt.below lw)
  have B0 := Lib.hid (P.low.trans (lw.mono P.low.size))
  have ZW := Lib.hid (show w.heap.size + 3 ≤ W.heap.size from D0.out.size)
  have FT := Lib.hid (C.foot P.inv)
  unfold maxLen at mcm acm dcm lcm
  unfold rtV doV
  clear P hL hm han hdn hln hW lw hxs hn
  go_enter Tryd.func10, Tryd.ntmps10
  obtain ⟨cc, hcc⟩ : ∃ x, t.advE = x := ⟨_, rfl⟩
  obtain ⟨ee, hee⟩ : ∃ x, errV cc = x := ⟨_, rfl⟩
  obtain ⟨bb, hbb⟩ : ∃ x, t.advB n = x := ⟨_, rfl⟩
  obtain ⟨t', ht'⟩ : ∃ x, t.adv n = x := ⟨_, rfl⟩
  have GG := Lib.hid (show _ ∧ _ ∧ _ ∧ _ from ⟨hcc, hee, hbb, ht'⟩)
  rw [ht']
  clear hcc hee hbb ht'
  go_wp2_with fail
  rw [← HW.out]
  clear HW
  refine (C.advance a S t n _ I0.out).mono ?_
  rintro ev w1 ⟨S1, rfl, hI, hk, hS⟩
  rw [GG.out.2.2.2] at hI
  have D1 := Lib.hid (D0.out.keep hk FT.out)
  have V1 := Lib.hid (V0.out.keep hk.mt PP.out.off)
  have B1 := Lib.hid (mut_step PP.out.S0 B0.out B0.out.size hk hS).1
  have I1 := Lib.hid hI
  have N1 := Lib.hid (show ∀ k, S1 k → S k ∨ w.heap.size + 3 ≤ k from fun k hk => (hS k hk).imp id (fun h => Nat.le_trans ZW.out h))
  have Z1 := Lib.hid (show w.heap.size + 3 ≤ w1.heap.size from Nat.le_trans ZW.out hk.size)
  have OF1 := Lib.hid (show ∀ k, rtB (.slice aa an ac) (.slice da dn dc) (.slice ma mn mc) k → ¬ S1 k from fun k hk hs => (N1.out k hs).elim (PP.out.off k hk) (fun h => by have := PP.out.rt.bounds k hk; omega))
  clear hI hk hS
  unfold two
  simp only [GG.out.1, GG.out.2.1, GG.out.2.2.1]
  go_wp2_with (refine wpList_load_mid rfl 31 (.tmp 4) rfl w.heap.size 0 rfl (rtL t (.slice aa an ac) (.slice da dn dc) (.slice ma mn mc)) _ (rangeOf D1.out.own) Tryd.underlying31 rfl rtInfo ?_)
  refine (rf_advance t _ _ _ n w0 _ V1.out (by have h1 := OK.out.low; have h2 := PP.out.len; omega)).mono ?_
  rintro ev w2 ⟨rfl, hs⟩
  have D2 := Lib.hid (D1.out.step hs)
  have I2 := Lib.hid (C.step I1.out hs)
  have B2 := Lib.hid (B1.out.trans (hs.mono B1.out.size))
  have Z2 := Lib.hid (Nat.le_trans Z1.out hs.size)
  have V2 := Lib.hid (show RtV w0 w2 t' (.slice aa an ac) (.slice da dn dc) (.slice ma mn mc) from by have h := V1.out.below hs; rw [← GG.out.2.2.2]; exact ⟨by rw [show (t.adv n).all = t.all by unfold Tb.adv; split <;> rfl]; exact h.all, by rw [show (t.adv n).dropped = t.dropped by unfold Tb.adv; split <;> rfl]; exact h.drp, by rw [show (t.adv n).marks = t.marks by unfold Tb.adv; split <;> rfl]; exact h.mks⟩)
  have NB := Lib.hid (show ∀ b, rtB (.slice aa an ac) (.slice da dn dc) (.slice ma mn mc) b → rtB (.slice aa an ac) (.slice da dn dc) (.slice ma mn mc) b ∨ w.heap.size + 3 ≤ b from fun b hb => .inl hb)
  have OF3 := OF1
  clear hs
  simp only [rtV, GG.out.2.2.2, GG.out.1, GG.out.2.1, GG.out.2.2.1]
  go_wp2_with fail
  have bq := alloc_below0 w2 (.cells (rtL t' (.slice aa an ac) (.slice da dn dc) (.slice ma mn mc)).toArray 31)
  have kq := blk_new w2 (.cells (rtL t' (.slice aa an ac) (.slice da dn dc) (.slice ma mn mc)).toArray 31)
  obtain ⟨W3, hW3⟩ : ∃ x, x = w2.alloc (.cells (rtL t' (.slice aa an ac) (.slice da dn dc) (.slice ma mn mc)).toArray 31) := ⟨_, rfl⟩
  rw [← hW3] at bq kq
  unfold rtL at hW3
  rw [← hW3]
  have DD := Lib.hid ((D2.out.step bq).step (Below.refl _ W3).drew)
  have ID := Lib.hid (C.step (C.step I2.out bq) (Below.refl _ W3).drew)
  have VD := Lib.hid ((V2.out.below bq).below (Below.refl _ W3).drew)
  have KD := Lib.hid (blk_step kq (Below.refl _ W3).drew)
  have BD := Lib.hid (show Below w0.heap.size w0 W3.drew from (B2.out.trans (bq.mono B2.out.size)).drew)
  have NE := Lib.hid (show w2.heap.size ≠ w.heap.size + 2 by have := Z2.out; omega)
  have R3 := rangeOf KD.out
  clear bq kq hW3
  have fcode := fun w h => code_of cc w h
  rw [GG.out.2.1] at fcode
  cases bb with
  | false =>
    refine anyH_region (fun w' => w'.rangeAt w2.heap.size 0 (rtL t' (.slice aa an ac) (.slice da dn dc) (.slice ma mn mc))) (by kernel_rfl) ?_
    generalize (World.drew W3) = wd at *
    refine wpAnyH_take (i := 0) (oi := ⟨some 266, _, _, _, _, _⟩) (v := .agg (rtL t' (.slice aa an ac) (.slice da dn dc) (.slice ma mn mc)).toArray) rfl (by kernel_rfl) (by kernel_rfl) (by kernel_rfl) (fun _ _ _ h => h) (yieldsIf_load_mid (by rfl) 31 (.tmp 42) rfl w2.heap.size 0 rfl (rtL t' (.slice aa an ac) (.slice da dn dc) (.slice ma mn mc)) _ (fun w h => h) Tryd.underlying31 rfl rtInfo) R3 ?restn6_0
    simp only [Act.put, List.setIfInBounds_toArray, List.set_cons_zero, List.set_cons_succ]
    refine wpAnyH_take (i := 1) (oi := ⟨some 267, _, _, _, _, _⟩) (v := ?vn6_1) rfl (by kernel_rfl) (by kernel_rfl) (by kernel_rfl) (fun _ _ _ h => h) (Or.inl ⟨by rfl, ?hyn6_1⟩) R3 ?restn6_1
    case hyn6_1 => (intro w hSw; have q0 := hSw; go_simp; try (with_reducible rfl))
    simp only [Act.put, List.setIfInBounds_toArray, List.set_cons_zero, List.set_cons_succ]
    refine wpAnyH_take (i := 2) (oi := ⟨some 268, _, _, _, _, _⟩) (v := ?vn6_2) rfl (by kernel_rfl) (by kernel_rfl) (by kernel_rfl) (fun _ _ _ h => h) (Or.inl ⟨by rfl, ?hyn6_2⟩) R3 ?restn6_2
    case hyn6_2 => (intro w hSw; have q0 := hSw; go_simp; try (with_reducible rfl))
    simp only [Act.put, List.setIfInBounds_toArray, List.set_cons_zero, List.set_cons_succ]
    refine wpAnyH_take (i := 3) (oi := ⟨some 269, _, _, _, _, _⟩) (v := ?vn6_3) rfl (by kernel_rfl) (by kernel_rfl) (by kernel_rfl) (fun _ _ _ h => h) (Or.inl ⟨by rfl, ?hyn6_3⟩) R3 ?restn6_3
    case hyn6_3 => (intro w hSw; have q0 := hSw; go_simp; try (with_reducible rfl))
    simp only [Act.put, List.setIfInBounds_toArray, List.set_cons_zero, List.set_cons_succ]
    refine wpAnyH_take (i := 4) (oi := ⟨some 270, _, _, _, _, _⟩) (v := ?vn6_4) rfl (by kernel_rfl) (by kernel_rfl) (by kernel_rfl) (fun _ _ _ h => h) (Or.inl ⟨by rfl, ?hyn6_4⟩) R3 ?restn6_4
    case hyn6_4 => (intro w hSw; have q0 := hSw; go_simp; try (with_reducible rfl))
    simp only [Act.put, List.setIfInBounds_toArray, List.set_cons_zero, List.set_cons_succ]
    refine wpAnyH_take (i := 5) (oi := ⟨some 271, _, _, _, _, _⟩) (v := ?vn6_5) rfl (by kernel_rfl) (by kernel_rfl) (by kernel_rfl) (fun _ _ _ h => h) (Or.inl ⟨by rfl, ?hyn6_5⟩) R3 ?restn6_5
    case hyn6_5 => (intro w hSw; have q0 := hSw; go_simp; try (with_reducible rfl))
    simp only [Act.put, List.setIfInBounds_toArray, List.set_cons_zero, List.set_cons_succ]
    refine wpAnyH_take (i := 7) (oi := ⟨some 273, _, _, _, _, _⟩) (v := ?vn6_7) rfl (by kernel_rfl) (by kernel_rfl) (by kernel_rfl) (fun _ _ _ h => h) (Or.inl ⟨by rfl, ?hyn6_7⟩) R3 ?restn6_7
    case hyn6_7 => (intro w hSw; have q0 := hSw; go_simp; try (with_reducible rfl))
    simp only [Act.put, List.setIfInBounds_toArray, List.set_cons_zero, List.set_cons_succ]
    refine anyH_one (i := 6) (o := ⟨some 272, _, _, _, _, _⟩) (by kernel_rfl) rfl (fun K hK => ?_)
    rw [if_pos (by rfl)]
    go_simp
    refine (fcode _ (Glob.at PP.out.glob (BD.out))).mono ?_
    rintro e6 w6 ⟨rfl, hs⟩
    have D6 := Lib.hid (DD.out.step hs)
    have I6 := Lib.hid (C.step ID.out hs)
    have V6 := Lib.hid (VD.out.below hs)
    have R6 := rangeOf (blk_step KD.out hs)
    clear hs
    refine hK.out _ _ R6 ?_
    clear hK K
    try simp only [Act.put, List.setIfInBounds_toArray, List.set_cons_zero, List.set_cons_succ]
    refine wpAnyH_take (i := 8) (oi := ⟨some 274, _, _, _, _, _⟩) (v := ?vn6_8) rfl (by kernel_rfl) (by kernel_rfl) (by kernel_rfl) (fun _ _ _ h => h) (Or.inl ⟨by rfl, ?hyn6_8⟩) R6 ?restn6_8
    case hyn6_8 => (intro w hSw; have q0 := hSw; go_simp; try (with_reducible rfl))
    simp only [Act.put, List.setIfInBounds_toArray, List.set_cons_zero, List.set_cons_succ]
    refine wpAnyH_take (i := 9) (oi := ⟨some 275, _, _, _, _, _⟩) (v := ?vn6_9) rfl (by kernel_rfl) (by kernel_rfl) (by kernel_rfl) (fun _ _ _ h => h) (Or.inl ⟨by rfl, ?hyn6_9⟩) R6 ?restn6_9
    case hyn6_9 => (intro w hSw; have q0 := hSw; go_simp; try (with_reducible rfl))
    simp only [Act.put, List.setIfInBounds_toArray, List.set_cons_zero, List.set_cons_succ]
    refine anyH_one (i := 10) (o := ⟨none, _, _, _, _, _⟩) (by kernel_rfl) rfl (fun K hK => ?_)
    rw [if_pos (by rfl)]
    refine wp_store_to 31 (.tmp 6) (.tmp 266) rfl (w.heap.size + 2) 0 (rtL t' (.slice aa an ac) (.slice da dn dc) (.slice ma mn mc)) rfl rfl ?_ rtInfo (rtL_one _ _ _ _ _ _ _ _ _ _) ?_
    · exact D6.out.there
    intro wz hz
    have F := Lib.hid (does_fin PP.out D6.out rfl I6.out V6.out N1.out NB.out OF3.out hz)
    have RZ := keptRange hz R6 NE.out
    clear hz
    refine hK.out _ _ RZ ?_
    clear hK K
    try simp only [Act.put]
    refine wpAnyH_take (i := 11) (oi := ⟨some 7, _, _, _, _, _⟩) (v := ?vn6_11) rfl (by kernel_rfl) (by kernel_rfl) (by kernel_rfl) (fun _ _ _ h => h) (Or.inl ⟨by rfl, ?hyn6_11⟩) RZ ?restn6_11
    case hyn6_11 => (intro w hSw; have q0 := hSw; go_simp; try (with_reducible rfl))
    simp only [Act.put, List.setIfInBounds_toArray, List.set_cons_zero, List.set_cons_succ]
    refine wpAnyH_done (by kernel_rfl) ?_ _
    go_wp2
    exact bodyPost_ret (v := .tuple #[.agg (rtL t' (.slice aa an ac) (.slice da dn dc) (.slice ma mn mc)).toArray, .bool true]) (results_cellT rfl _ _ (w.heap.size + 2) _ _ (.bool true) rfl rfl (rangeOf F.out.1) Tryd.underlying31 rfl rtInfo) rfl F.out.2
  | true =>
    refine anyH_region (fun w' => w'.rangeAt w2.heap.size 0 (rtL t' (.slice aa an ac) (.slice da dn dc) (.slice ma mn mc))) (by kernel_rfl) ?_
    generalize (World.drew W3) = wd at *
    refine wpAnyH_take (i := 0) (oi := ⟨some 266, _, _, _, _, _⟩) (v := .agg (rtL t' (.slice aa an ac) (.slice da dn dc) (.slice ma mn mc)).toArray) rfl (by kernel_rfl) (by kernel_rfl) (by kernel_rfl) (fun _ _ _ h => h) (yieldsIf_load_mid (by rfl) 31 (.tmp 42) rfl w2.heap.size 0 rfl (rtL t' (.slice aa an ac) (.slice da dn dc) (.slice ma mn mc)) _ (fun w h => h) Tryd.underlying31 rfl rtInfo) R3 ?restd6_0
    simp only [Act.put, List.setIfInBounds_toArray, List.set_cons_zero, List.set_cons_succ]
    refine wpAnyH_take (i := 1) (oi := ⟨some 267, _, _, _, _, _⟩) (v := ?vd6_1) rfl (by kernel_rfl) (by kernel_rfl) (by kernel_rfl) (fun _ _ _ h => h) (Or.inl ⟨by rfl, ?hyd6_1⟩) R3 ?restd6_1
    case hyd6_1 => (intro w hSw; have q0 := hSw; go_simp; try (with_reducible rfl))
    simp only [Act.put, List.setIfInBounds_toArray, List.set_cons_zero, List.set_cons_succ]
    refine wpAnyH_take (i := 2) (oi := ⟨some 268, _, _, _, _, _⟩) (v := ?vd6_2) rfl (by kernel_rfl) (by kernel_rfl) (by kernel_rfl) (fun _ _ _ h => h) (Or.inl ⟨by rfl, ?hyd6_2⟩) R3 ?restd6_2
    case hyd6_2 => (intro w hSw; have q0 := hSw; go_simp; try (with_reducible rfl))
    simp only [Act.put, List.setIfInBounds_toArray, List.set_cons_zero, List.set_cons_succ]
    refine wpAnyH_take (i := 3) (oi := ⟨some 269, _, _, _, _, _⟩) (v := ?vd6_3) rfl (by kernel_rfl) (by kernel_rfl) (by kernel_rfl) (fun _ _ _ h => h) (Or.inl ⟨by rfl, ?hyd6_3⟩) R3 ?restd6_3
    case hyd6_3 => (intro w hSw; have q0 := hSw; go_simp; try (with_reducible rfl))
    simp only [Act.put, List.setIfInBounds_toArray, List.set_cons_zero, List.set_cons_succ]
    refine wpAnyH_take (i := 4) (oi := ⟨some 270, _, _, _, _, _⟩) (v := ?vd6_4) rfl (by kernel_rfl) (by kernel_rfl) (by kernel_rfl) (fun _ _ _ h => h) (Or.inl ⟨by rfl, ?hyd6_4⟩) R3 ?restd6_4
    case hyd6_4 => (intro w hSw; have q0 := hSw; go_simp; try (with_reducible rfl))
    simp only [Act.put, List.setIfInBounds_toArray, List.set_cons_zero, List.set_cons_succ]
    refine wpAnyH_take (i := 5) (oi := ⟨some 271, _, _, _, _, _⟩) (v := ?vd6_5) rfl (by kernel_rfl) (by kernel_rfl) (by kernel_rfl) (fun _ _ _ h => h) (Or.inl ⟨by rfl, ?hyd6_5⟩) R3 ?restd6_5
    case hyd6_5 => (intro w hSw; have q0 := hSw; go_simp; try (with_reducible rfl))
    simp only [Act.put, List.setIfInBounds_toArray, List.set_cons_zero, List.set_cons_succ]
    refine wpAnyH_take (i := 7) (oi := ⟨some 273, _, _, _, _, _⟩) (v := ?vd6_7) rfl (by kernel_rfl) (by kernel_rfl) (by kernel_rfl) (fun _ _ _ h => h) (Or.inl ⟨by rfl, ?hyd6_7⟩) R3 ?restd6_7
    case hyd6_7 => (intro w hSw; have q0 := hSw; go_simp; try (with_reducible rfl))
    simp only [Act.put, List.setIfInBounds_toArray, List.set_cons_zero, List.set_cons_succ]
    refine anyH_one (i := 6) (o := ⟨some 272, _, _, _, _, _⟩) (by kernel_rfl) rfl (fun K hK => ?_)
    rw [if_pos (by rfl)]
    go_simp
    refine (fcode _ (Glob.at PP.out.glob (BD.out))).mono ?_
    rintro e6 w6 ⟨rfl, hs⟩
    have D6 := Lib.hid (DD.out.step hs)
    have I6 := Lib.hid (C.step ID.out hs)
    have V6 := Lib.hid (VD.out.below hs)
    have R6 := rangeOf (blk_step KD.out hs)
    clear hs
    refine hK.out _ _ R6 ?_
    clear hK K
    try simp only [Act.put, List.setIfInBounds_toArray, List.set_cons_zero, List.set_cons_succ]
    refine wpAnyH_take (i := 8) (oi := ⟨some 274, _, _, _, _, _⟩) (v := ?vd6_8) rfl (by kernel_rfl) (by kernel_rfl) (by kernel_rfl) (fun _ _ _ h => h) (Or.inl ⟨by rfl, ?hyd6_8⟩) R6 ?restd6_8
    case hyd6_8 => (intro w hSw; have q0 := hSw; go_simp; try (with_reducible rfl))
    simp only [Act.put, List.setIfInBounds_toArray, List.set_cons_zero, List.set_cons_succ]
    refine wpAnyH_take (i := 9) (oi := ⟨some 275, _, _, _, _, _⟩) (v := ?vd6_9) rfl (by kernel_rfl) (by kernel_rfl) (by kernel_rfl) (fun _ _ _ h => h) (Or.inl ⟨by rfl, ?hyd6_9⟩) R6 ?restd6_9
    case hyd6_9 => (intro w hSw; have q0 := hSw; go_simp; try (with_reducible rfl))
    simp only [Act.put, List.setIfInBounds_toArray, List.set_cons_zero, List.set_cons_succ]
    refine anyH_one (i := 10) (o := ⟨none, _, _, _, _, _⟩) (by kernel_rfl) rfl (fun K hK => ?_)
    rw [if_pos (by rfl)]
    refine wp_store_to 31 (.tmp 6) (.tmp 266) rfl (w.heap.size + 2) 0 (rtL t' (.slice aa an ac) (.slice da dn dc) (.slice ma mn mc)) rfl rfl ?_ rtInfo (rtL_one _ _ _ _ _ _ _ _ _ _) ?_
    · exact D6.out.there
    intro wz hz
    have F := Lib.hid (does_fin PP.out D6.out rfl I6.out V6.out N1.out NB.out OF3.out hz)
    have RZ := keptRange hz R6 NE.out
    clear hz
    refine hK.out _ _ RZ ?_
    clear hK K
    try simp only [Act.put]
    refine wpAnyH_take (i := 11) (oi := ⟨some 7, _, _, _, _, _⟩) (v := ?vd6_11) rfl (by kernel_rfl) (by kernel_rfl) (by kernel_rfl) (fun _ _ _ h => h) (Or.inl ⟨by rfl, ?hyd6_11⟩) RZ ?restd6_11
    case hyd6_11 => (intro w hSw; have q0 := hSw; go_simp; try (with_reducible rfl))
    simp only [Act.put, List.setIfInBounds_toArray, List.set_cons_zero, List.set_cons_succ]
    refine wpAnyH_done (by kernel_rfl) ?_ _
    go_wp2
    exact bodyPost_ret (v := .tuple #[.agg (rtL t' (.slice aa an ac) (.slice da dn dc) (.slice ma mn mc)).toArray, .bool true]) (results_cellT rfl _ _ (w.heap.size + 2) _ _ (.bool true) rfl rfl (rangeOf F.out.1) Tryd.underlying31 rfl rtInfo) rfl F.out.2
end Go.Proofs.YtkbfhpgcjljbbaaDoor
