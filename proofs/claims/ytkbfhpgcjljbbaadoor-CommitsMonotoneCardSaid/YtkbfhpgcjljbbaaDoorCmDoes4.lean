/- A step done in both tables (layer 16): does at verb 4, by contract. -/
import Derived.Test.YtkbfhpgcjljbbaaDoorCmDoW
namespace Go.Proofs.YtkbfhpgcjljbbaaDoor
set_option linter.unusedVariables false
set_option linter.unusedSimpArgs false
open Go.RowKit

set_option maxRecDepth 100000 in
set_option maxHeartbeats 4000000 in
theorem does_4 (C : CmT) (a : Addr) (S : Nat → Prop) (t : Tb) (va vd vm : Value) (n th : Int) (rr : Bool) (Lv : Value) (xs : List Wr) (w0 w : World) (P : DoPre C w0 w a S t va vd vm) (hL : WrV lDw w0 Lv xs) (hxs : xs.length ≤ 100) (hn : -9223372036854775808 ≤ n ∧ n ≤ 9223372036854775807) :
    Calls Tryd.prog 10 #[.pointer (some a), rtV t va vd vm, doV 4 n th rr Lv] w (DoesP C w0 w a S va vd vm (t.grab th)) := by
  obtain ⟨mn, hm⟩ : ∃ m, t.marks.length = m := ⟨_, rfl⟩
  obtain ⟨an, han⟩ : ∃ m, t.all.length = m := ⟨_, rfl⟩
  obtain ⟨dn, hdn⟩ : ∃ m, t.dropped.length = m := ⟨_, rfl⟩
  obtain ⟨ln, hln⟩ : ∃ m, xs.length = m := ⟨_, rfl⟩
  obtain ⟨ma, mc, rfl, -, mcm⟩ := P.rt.mks.lenN hm
  obtain ⟨aa, ac, rfl, -, acm⟩ := P.rt.all.lenN han
  obtain ⟨da, dc, rfl, -, dcm⟩ := P.rt.drp.lenN hdn
  obtain ⟨la, lc, rfl, -, lcm⟩ := hL.1.lenform
  rw [hln] at hL ⊢
  have OK := Lib.hid (C.ok P.inv)
  have PP := Lib.hid P
  have XL := Lib.hid (show WrV lDw w0 (.slice la ln lc) xs ∧ xs.length = ln ∧ xs.length ≤ 100 from ⟨hL, hln, hxs⟩)
  have NN := Lib.hid hn
  have LN := Lib.hid (show t.marks.length = mn ∧ t.all.length = an ∧ t.dropped.length = dn from ⟨hm, han, hdn⟩)
  have D0 := Lib.hid (DoW.start (Mt w S) w (rtL t (.slice aa an ac) (.slice da dn dc) (.slice ma mn mc)) rtZ 4 n th rr (.slice la ln lc))
  have lw := low3 w (.cells (rtL t (.slice aa an ac) (.slice da dn dc) (.slice ma mn mc)).toArray 31) (doO 4 n th rr (.slice la ln lc)) (.cells rtZ.toArray 31)
  obtain ⟨W, hW⟩ : ∃ W, W = ((w.alloc (.cells (rtL t (.slice aa an ac) (.slice da dn dc) (.slice ma mn mc)).toArray 31)).alloc (doO 4 n th rr (.slice la ln lc))).alloc (.cells rtZ.toArray 31) := ⟨_, rfl⟩
  rw [← hW] at D0 lw
  unfold rtL rtZ doO at hW
  have HW := Lib.hid hW
  have I0 := Lib.hid (C.step P.inv lw)
  have V0 := Lib.hid (P.rt.below lw)
  have B0 := Lib.hid (P.low.trans (lw.mono P.low.size))
  have ZW := Lib.hid (show w.heap.size + 3 ≤ W.heap.size from D0.out.size)
  have FT := Lib.hid (C.foot P.inv)
  unfold maxLen at mcm acm dcm lcm
  unfold rtV doV
  clear P hL hm han hdn hln hW lw hxs hn
  go_enter Tryd.func10, Tryd.ntmps10
  obtain ⟨cc, hcc⟩ : ∃ x, t.hasE th = x := ⟨_, rfl⟩
  obtain ⟨ee, hee⟩ : ∃ x, errV cc = x := ⟨_, rfl⟩
  obtain ⟨bb, hbb⟩ : ∃ x, t.grabB th = x := ⟨_, rfl⟩
  obtain ⟨t', ht'⟩ : ∃ x, t.grab th = x := ⟨_, rfl⟩
  have GG := Lib.hid (show _ ∧ _ ∧ _ ∧ _ from ⟨hcc, hee, hbb, ht'⟩)
  rw [ht']
  clear hcc hee hbb ht'
  go_wp2_with fail
  rw [← HW.out]
  clear HW
  refine (C.grab a S t th _ I0.out).mono ?_
  rintro ev w1 ⟨S1, rfl, hI, hk, hS⟩
  rw [GG.out.2.2.2] at hI
  have D1 := Lib.hid (D0.out.keep hk FT.out)
  have V1 := Lib.hid (V0.out.keep hk.mt PP.out.off)
  have B1 := Lib.hid (mut_step PP.out.S0 B0.out B0.out.size hk hS).1
  have I1 := Lib.hid hI
  have N1 := Lib.hid (show ∀ k, S1 k → S k ∨ w.heap.size + 3 ≤ k from fun k hk => (hS k hk).imp id (fun h => Nat.le_trans ZW.out h))
  have Z1 := Lib.hid (show w.heap.size + 3 ≤ w1.heap.size from Nat.le_trans ZW.out hk.size)
  have OF1 := Lib.hid (show ∀ k, rtB (.slice aa an ac) (.slice da dn dc) (.slice ma mn mc) k → ¬ S1 k from fun k hk hs => (N1.out k hs).elim (PP.out.off k hk) (fun h => by have := PP.out.rt.bounds k hk; omega))
  clear hI hk hS
  unfold two
  simp only [GG.out.1, GG.out.2.1, GG.out.2.2.1]
  have c2 := D1.out.doo.c2
  go_wp2_with (refine wpList_load_mid rfl 31 (.tmp 4) rfl w.heap.size 0 rfl (rtL t (.slice aa an ac) (.slice da dn dc) (.slice ma mn mc)) _ (rangeOf D1.out.own) Tryd.underlying31 rfl rtInfo ?_)
  refine (rf_grab t _ _ _ th w0 _ V1.out).mono ?_
  rintro ev w2 ⟨rfl, hs⟩
  have D2 := Lib.hid (D1.out.step hs)
  have I2 := Lib.hid (C.step I1.out hs)
  have B2 := Lib.hid (B1.out.trans (hs.mono B1.out.size))
  have Z2 := Lib.hid (Nat.le_trans Z1.out hs.size)
  have V2 := Lib.hid (show RtV w0 w2 t' (.slice aa an ac) (.slice da dn dc) (.slice ma mn mc) from by have h := V1.out.below hs; rw [← GG.out.2.2.2]; exact ⟨by rw [show (t.grab th).all = t.all by unfold Tb.grab; split <;> rfl]; exact h.all, by rw [show (t.grab th).dropped = t.dropped by unfold Tb.grab; split <;> rfl]; exact h.drp, by rw [show (t.grab th).marks = t.marks by unfold Tb.grab; split <;> rfl]; exact h.mks⟩)
  have NB := Lib.hid (show ∀ b, rtB (.slice aa an ac) (.slice da dn dc) (.slice ma mn mc) b → rtB (.slice aa an ac) (.slice da dn dc) (.slice ma mn mc) b ∨ w.heap.size + 3 ≤ b from fun b hb => .inl hb)
  have OF3 := OF1
  clear hs
  simp only [rtV, GG.out.2.2.2, GG.out.1, GG.out.2.1, GG.out.2.2.1]
  go_wp2_with fail
  have bq := alloc_below0 w2 (.cells (rtL t' (.slice aa an ac) (.slice da dn dc) (.slice ma mn mc)).toArray 31)
  have kq := blk_new w2 (.cells (rtL t' (.slice aa an ac) (.slice da dn dc) (.slice ma mn mc)).toArray 31)
  obtain ⟨W3, hW3⟩ : ∃ x, x = w2.alloc (.cells (rtL t' (.slice aa an ac) (.slice da dn dc) (.slice ma mn mc)).toArray 31) := ⟨_, rfl⟩
  rw [← hW3] at bq kq
  unfold rtL at hW3
  rw [← hW3]
  have DD := Lib.hid ((D2.out.step bq).step (Below.refl _ W3).drew)
  have ID := Lib.hid (C.step (C.step I2.out bq) (Below.refl _ W3).drew)
  have VD := Lib.hid ((V2.out.below bq).below (Below.refl _ W3).drew)
  have KD := Lib.hid (blk_step kq (Below.refl _ W3).drew)
  have BD := Lib.hid (show Below w0.heap.size w0 W3.drew from (B2.out.trans (bq.mono B2.out.size)).drew)
  have NE := Lib.hid (show w2.heap.size ≠ w.heap.size + 2 by have := Z2.out; omega)
  have R3 := rangeOf KD.out
  clear bq kq hW3
  have fcode := fun w h => code_of cc w h
  rw [GG.out.2.1] at fcode
  cases bb with
  | false =>
    refine anyH_region (fun w' => w'.rangeAt w2.heap.size 0 (rtL t' (.slice aa an ac) (.slice da dn dc) (.slice ma mn mc))) (by kernel_rfl) ?_
    generalize (World.drew W3) = wd at *
    refine wpAnyH_take (i := 0) (oi := ⟨some 208, _, _, _, _, _⟩) (v := .agg (rtL t' (.slice aa an ac) (.slice da dn dc) (.slice ma mn mc)).toArray) rfl (by kernel_rfl) (by kernel_rfl) (by kernel_rfl) (fun _ _ _ h => h) (yieldsIf_load_mid (by rfl) 31 (.tmp 31) rfl w2.heap.size 0 rfl (rtL t' (.slice aa an ac) (.slice da dn dc) (.slice ma mn mc)) _ (fun w h => h) Tryd.underlying31 rfl rtInfo) R3 ?restn4_0
    simp only [Act.put, List.setIfInBounds_toArray, List.set_cons_zero, List.set_cons_succ]
    refine wpAnyH_take (i := 1) (oi := ⟨some 209, _, _, _, _, _⟩) (v := ?vn4_1) rfl (by kernel_rfl) (by kernel_rfl) (by kernel_rfl) (fun _ _ _ h => h) (Or.inl ⟨by rfl, ?hyn4_1⟩) R3 ?restn4_1
    case hyn4_1 => (intro w hSw; have q0 := hSw; go_simp; try (with_reducible rfl))
    simp only [Act.put, List.setIfInBounds_toArray, List.set_cons_zero, List.set_cons_succ]
    refine wpAnyH_take (i := 2) (oi := ⟨some 210, _, _, _, _, _⟩) (v := ?vn4_2) rfl (by kernel_rfl) (by kernel_rfl) (by kernel_rfl) (fun _ _ _ h => h) (Or.inl ⟨by rfl, ?hyn4_2⟩) R3 ?restn4_2
    case hyn4_2 => (intro w hSw; have q0 := hSw; go_simp; try (with_reducible rfl))
    simp only [Act.put, List.setIfInBounds_toArray, List.set_cons_zero, List.set_cons_succ]
    refine wpAnyH_take (i := 3) (oi := ⟨some 211, _, _, _, _, _⟩) (v := ?vn4_3) rfl (by kernel_rfl) (by kernel_rfl) (by kernel_rfl) (fun _ _ _ h => h) (Or.inl ⟨by rfl, ?hyn4_3⟩) R3 ?restn4_3
    case hyn4_3 => (intro w hSw; have q0 := hSw; go_simp; try (with_reducible rfl))
    simp only [Act.put, List.setIfInBounds_toArray, List.set_cons_zero, List.set_cons_succ]
    refine wpAnyH_take (i := 4) (oi := ⟨some 212, _, _, _, _, _⟩) (v := ?vn4_4) rfl (by kernel_rfl) (by kernel_rfl) (by kernel_rfl) (fun _ _ _ h => h) (Or.inl ⟨by rfl, ?hyn4_4⟩) R3 ?restn4_4
    case hyn4_4 => (intro w hSw; have q0 := hSw; go_simp; try (with_reducible rfl))
    simp only [Act.put, List.setIfInBounds_toArray, List.set_cons_zero, List.set_cons_succ]
    refine wpAnyH_take (i := 5) (oi := ⟨some 213, _, _, _, _, _⟩) (v := ?vn4_5) rfl (by kernel_rfl) (by kernel_rfl) (by kernel_rfl) (fun _ _ _ h => h) (Or.inl ⟨by rfl, ?hyn4_5⟩) R3 ?restn4_5
    case hyn4_5 => (intro w hSw; have q0 := hSw; go_simp; try (with_reducible rfl))
    simp only [Act.put, List.setIfInBounds_toArray, List.set_cons_zero, List.set_cons_succ]
    refine wpAnyH_take (i := 7) (oi := ⟨some 215, _, _, _, _, _⟩) (v := ?vn4_7) rfl (by kernel_rfl) (by kernel_rfl) (by kernel_rfl) (fun _ _ _ h => h) (Or.inl ⟨by rfl, ?hyn4_7⟩) R3 ?restn4_7
    case hyn4_7 => (intro w hSw; have q0 := hSw; go_simp; try (with_reducible rfl))
    simp only [Act.put, List.setIfInBounds_toArray, List.set_cons_zero, List.set_cons_succ]
    refine anyH_one (i := 6) (o := ⟨some 214, _, _, _, _, _⟩) (by kernel_rfl) rfl (fun K hK => ?_)
    rw [if_pos (by rfl)]
    go_simp
    refine (fcode _ (Glob.at PP.out.glob (BD.out))).mono ?_
    rintro e6 w6 ⟨rfl, hs⟩
    have D6 := Lib.hid (DD.out.step hs)
    have I6 := Lib.hid (C.step ID.out hs)
    have V6 := Lib.hid (VD.out.below hs)
    have R6 := rangeOf (blk_step KD.out hs)
    clear hs
    refine hK.out _ _ R6 ?_
    clear hK K
    try simp only [Act.put, List.setIfInBounds_toArray, List.set_cons_zero, List.set_cons_succ]
    refine wpAnyH_take (i := 8) (oi := ⟨some 216, _, _, _, _, _⟩) (v := ?vn4_8) rfl (by kernel_rfl) (by kernel_rfl) (by kernel_rfl) (fun _ _ _ h => h) (Or.inl ⟨by rfl, ?hyn4_8⟩) R6 ?restn4_8
    case hyn4_8 => (intro w hSw; have q0 := hSw; go_simp; try (with_reducible rfl))
    simp only [Act.put, List.setIfInBounds_toArray, List.set_cons_zero, List.set_cons_succ]
    refine wpAnyH_take (i := 9) (oi := ⟨some 217, _, _, _, _, _⟩) (v := ?vn4_9) rfl (by kernel_rfl) (by kernel_rfl) (by kernel_rfl) (fun _ _ _ h => h) (Or.inl ⟨by rfl, ?hyn4_9⟩) R6 ?restn4_9
    case hyn4_9 => (intro w hSw; have q0 := hSw; go_simp; try (with_reducible rfl))
    simp only [Act.put, List.setIfInBounds_toArray, List.set_cons_zero, List.set_cons_succ]
    refine anyH_one (i := 10) (o := ⟨none, _, _, _, _, _⟩) (by kernel_rfl) rfl (fun K hK => ?_)
    rw [if_pos (by rfl)]
    refine wp_store_to 31 (.tmp 6) (.tmp 208) rfl (w.heap.size + 2) 0 (rtL t' (.slice aa an ac) (.slice da dn dc) (.slice ma mn mc)) rfl rfl ?_ rtInfo (rtL_one _ _ _ _ _ _ _ _ _ _) ?_
    · exact D6.out.there
    intro wz hz
    have F := Lib.hid (does_fin PP.out D6.out rfl I6.out V6.out N1.out NB.out OF3.out hz)
    have RZ := keptRange hz R6 NE.out
    clear hz
    refine hK.out _ _ RZ ?_
    clear hK K
    try simp only [Act.put]
    refine wpAnyH_take (i := 11) (oi := ⟨some 7, _, _, _, _, _⟩) (v := ?vn4_11) rfl (by kernel_rfl) (by kernel_rfl) (by kernel_rfl) (fun _ _ _ h => h) (Or.inl ⟨by rfl, ?hyn4_11⟩) RZ ?restn4_11
    case hyn4_11 => (intro w hSw; have q0 := hSw; go_simp; try (with_reducible rfl))
    simp only [Act.put, List.setIfInBounds_toArray, List.set_cons_zero, List.set_cons_succ]
    refine wpAnyH_done (by kernel_rfl) ?_ _
    go_wp2
    exact bodyPost_ret (v := .tuple #[.agg (rtL t' (.slice aa an ac) (.slice da dn dc) (.slice ma mn mc)).toArray, .bool true]) (results_cellT rfl _ _ (w.heap.size + 2) _ _ (.bool true) rfl rfl (rangeOf F.out.1) Tryd.underlying31 rfl rtInfo) rfl F.out.2
  | true =>
    refine anyH_region (fun w' => w'.rangeAt w2.heap.size 0 (rtL t' (.slice aa an ac) (.slice da dn dc) (.slice ma mn mc))) (by kernel_rfl) ?_
    generalize (World.drew W3) = wd at *
    refine wpAnyH_take (i := 0) (oi := ⟨some 208, _, _, _, _, _⟩) (v := .agg (rtL t' (.slice aa an ac) (.slice da dn dc) (.slice ma mn mc)).toArray) rfl (by kernel_rfl) (by kernel_rfl) (by kernel_rfl) (fun _ _ _ h => h) (yieldsIf_load_mid (by rfl) 31 (.tmp 31) rfl w2.heap.size 0 rfl (rtL t' (.slice aa an ac) (.slice da dn dc) (.slice ma mn mc)) _ (fun w h => h) Tryd.underlying31 rfl rtInfo) R3 ?restd4_0
    simp only [Act.put, List.setIfInBounds_toArray, List.set_cons_zero, List.set_cons_succ]
    refine wpAnyH_take (i := 1) (oi := ⟨some 209, _, _, _, _, _⟩) (v := ?vd4_1) rfl (by kernel_rfl) (by kernel_rfl) (by kernel_rfl) (fun _ _ _ h => h) (Or.inl ⟨by rfl, ?hyd4_1⟩) R3 ?restd4_1
    case hyd4_1 => (intro w hSw; have q0 := hSw; go_simp; try (with_reducible rfl))
    simp only [Act.put, List.setIfInBounds_toArray, List.set_cons_zero, List.set_cons_succ]
    refine wpAnyH_take (i := 2) (oi := ⟨some 210, _, _, _, _, _⟩) (v := ?vd4_2) rfl (by kernel_rfl) (by kernel_rfl) (by kernel_rfl) (fun _ _ _ h => h) (Or.inl ⟨by rfl, ?hyd4_2⟩) R3 ?restd4_2
    case hyd4_2 => (intro w hSw; have q0 := hSw; go_simp; try (with_reducible rfl))
    simp only [Act.put, List.setIfInBounds_toArray, List.set_cons_zero, List.set_cons_succ]
    refine wpAnyH_take (i := 3) (oi := ⟨some 211, _, _, _, _, _⟩) (v := ?vd4_3) rfl (by kernel_rfl) (by kernel_rfl) (by kernel_rfl) (fun _ _ _ h => h) (Or.inl ⟨by rfl, ?hyd4_3⟩) R3 ?restd4_3
    case hyd4_3 => (intro w hSw; have q0 := hSw; go_simp; try (with_reducible rfl))
    simp only [Act.put, List.setIfInBounds_toArray, List.set_cons_zero, List.set_cons_succ]
    refine wpAnyH_take (i := 4) (oi := ⟨some 212, _, _, _, _, _⟩) (v := ?vd4_4) rfl (by kernel_rfl) (by kernel_rfl) (by kernel_rfl) (fun _ _ _ h => h) (Or.inl ⟨by rfl, ?hyd4_4⟩) R3 ?restd4_4
    case hyd4_4 => (intro w hSw; have q0 := hSw; go_simp; try (with_reducible rfl))
    simp only [Act.put, List.setIfInBounds_toArray, List.set_cons_zero, List.set_cons_succ]
    refine wpAnyH_take (i := 5) (oi := ⟨some 213, _, _, _, _, _⟩) (v := ?vd4_5) rfl (by kernel_rfl) (by kernel_rfl) (by kernel_rfl) (fun _ _ _ h => h) (Or.inl ⟨by rfl, ?hyd4_5⟩) R3 ?restd4_5
    case hyd4_5 => (intro w hSw; have q0 := hSw; go_simp; try (with_reducible rfl))
    simp only [Act.put, List.setIfInBounds_toArray, List.set_cons_zero, List.set_cons_succ]
    refine wpAnyH_take (i := 7) (oi := ⟨some 215, _, _, _, _, _⟩) (v := ?vd4_7) rfl (by kernel_rfl) (by kernel_rfl) (by kernel_rfl) (fun _ _ _ h => h) (Or.inl ⟨by rfl, ?hyd4_7⟩) R3 ?restd4_7
    case hyd4_7 => (intro w hSw; have q0 := hSw; go_simp; try (with_reducible rfl))
    simp only [Act.put, List.setIfInBounds_toArray, List.set_cons_zero, List.set_cons_succ]
    refine anyH_one (i := 6) (o := ⟨some 214, _, _, _, _, _⟩) (by kernel_rfl) rfl (fun K hK => ?_)
    rw [if_pos (by rfl)]
    go_simp
    refine (fcode _ (Glob.at PP.out.glob (BD.out))).mono ?_
    rintro e6 w6 ⟨rfl, hs⟩
    have D6 := Lib.hid (DD.out.step hs)
    have I6 := Lib.hid (C.step ID.out hs)
    have V6 := Lib.hid (VD.out.below hs)
    have R6 := rangeOf (blk_step KD.out hs)
    clear hs
    refine hK.out _ _ R6 ?_
    clear hK K
    try simp only [Act.put, List.setIfInBounds_toArray, List.set_cons_zero, List.set_cons_succ]
    refine wpAnyH_take (i := 8) (oi := ⟨some 216, _, _, _, _, _⟩) (v := ?vd4_8) rfl (by kernel_rfl) (by kernel_rfl) (by kernel_rfl) (fun _ _ _ h => h) (Or.inl ⟨by rfl, ?hyd4_8⟩) R6 ?restd4_8
    case hyd4_8 => (intro w hSw; have q0 := hSw; go_simp; try (with_reducible rfl))
    simp only [Act.put, List.setIfInBounds_toArray, List.set_cons_zero, List.set_cons_succ]
    refine wpAnyH_take (i := 9) (oi := ⟨some 217, _, _, _, _, _⟩) (v := ?vd4_9) rfl (by kernel_rfl) (by kernel_rfl) (by kernel_rfl) (fun _ _ _ h => h) (Or.inl ⟨by rfl, ?hyd4_9⟩) R6 ?restd4_9
    case hyd4_9 => (intro w hSw; have q0 := hSw; go_simp; try (with_reducible rfl))
    simp only [Act.put, List.setIfInBounds_toArray, List.set_cons_zero, List.set_cons_succ]
    refine anyH_one (i := 10) (o := ⟨none, _, _, _, _, _⟩) (by kernel_rfl) rfl (fun K hK => ?_)
    rw [if_pos (by rfl)]
    refine wp_store_to 31 (.tmp 6) (.tmp 208) rfl (w.heap.size + 2) 0 (rtL t' (.slice aa an ac) (.slice da dn dc) (.slice ma mn mc)) rfl rfl ?_ rtInfo (rtL_one _ _ _ _ _ _ _ _ _ _) ?_
    · exact D6.out.there
    intro wz hz
    have F := Lib.hid (does_fin PP.out D6.out rfl I6.out V6.out N1.out NB.out OF3.out hz)
    have RZ := keptRange hz R6 NE.out
    clear hz
    refine hK.out _ _ RZ ?_
    clear hK K
    try simp only [Act.put]
    refine wpAnyH_take (i := 11) (oi := ⟨some 7, _, _, _, _, _⟩) (v := ?vd4_11) rfl (by kernel_rfl) (by kernel_rfl) (by kernel_rfl) (fun _ _ _ h => h) (Or.inl ⟨by rfl, ?hyd4_11⟩) RZ ?restd4_11
    case hyd4_11 => (intro w hSw; have q0 := hSw; go_simp; try (with_reducible rfl))
    simp only [Act.put, List.setIfInBounds_toArray, List.set_cons_zero, List.set_cons_succ]
    refine wpAnyH_done (by kernel_rfl) ?_ _
    go_wp2
    exact bodyPost_ret (v := .tuple #[.agg (rtL t' (.slice aa an ac) (.slice da dn dc) (.slice ma mn mc)).toArray, .bool true]) (results_cellT rfl _ _ (w.heap.size + 2) _ _ (.bool true) rfl rfl (rangeOf F.out.1) Tryd.underlying31 rfl rtInfo) rfl F.out.2
end Go.Proofs.YtkbfhpgcjljbbaaDoor
