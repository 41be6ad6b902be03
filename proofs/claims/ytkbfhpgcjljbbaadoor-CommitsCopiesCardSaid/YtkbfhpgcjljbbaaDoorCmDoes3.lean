/- A step done in both tables (layer 16): does at verb 3, by contract. -/
import Derived.Test.YtkbfhpgcjljbbaaDoorCmDoW
import Derived.Test.YtkbfhpgcjljbbaaDoorCmSame
namespace Go.Proofs.YtkbfhpgcjljbbaaDoor
set_option linter.unusedVariables false
set_option linter.unusedSimpArgs false
open Go.RowKit

set_option maxRecDepth 100000 in
set_option maxHeartbeats 4000000 in
theorem does_3 (C : CmT) (a : Addr) (S : Nat → Prop) (t : Tb) (va vd vm : Value) (n th : Int) (rr : Bool) (Lv : Value) (xs : List Wr) (w0 w : World) (P : DoPre C w0 w a S t va vd vm) (hL : WrV lDw w0 Lv xs) (hxs : xs.length ≤ 100) (hn : -9223372036854775808 ≤ n ∧ n ≤ 9223372036854775807) :
    Calls Tryd.prog 10 #[.pointer (some a), rtV t va vd vm, doV 3 n th rr Lv] w (DoesP C w0 w a S va vd vm t) := by
  obtain ⟨mn, hm⟩ : ∃ m, t.marks.length = m := ⟨_, rfl⟩
  obtain ⟨an, han⟩ : ∃ m, t.all.length = m := ⟨_, rfl⟩
  obtain ⟨dn, hdn⟩ : ∃ m, t.dropped.length = m := ⟨_, rfl⟩
  obtain ⟨ln, hln⟩ : ∃ m, xs.length = m := ⟨_, rfl⟩
  obtain ⟨ma, mc, rfl, -, mcm⟩ := P.rt.mks.lenN hm
  obtain ⟨aa, ac, rfl, -, acm⟩ := P.rt.all.lenN han
  obtain ⟨da, dc, rfl, -, dcm⟩ := P.rt.drp.lenN hdn
  obtain ⟨la, lc, rfl, -, lcm⟩ := hL.1.lenform
  rw [hln] at hL ⊢
  have OK := Lib.hid (C.ok P.inv)
  have PP := Lib.hid P
  have XL := Lib.hid (show WrV lDw w0 (.slice la ln lc) xs ∧ xs.length = ln ∧ xs.length ≤ 100 from ⟨hL, hln, hxs⟩)
  have NN := Lib.hid hn
  have LN := Lib.hid (show t.marks.length = mn ∧ t.all.length = an ∧ t.dropped.length = dn from ⟨hm, han, hdn⟩)
  have D0 := Lib.hid (DoW.start (Mt w S) w (rtL t (.slice aa an ac) (.slice da dn dc) (.slice ma mn mc)) rtZ 3 n th rr (.slice la ln lc))
  have lw := low3 w (.cells (rtL t (.slice aa an ac) (.slice da dn dc) (.slice ma mn mc)).toArray 31) (doO 3 n th rr (.slice la ln lc)) (.cells rtZ.toArray 31)
  obtain ⟨W, hW⟩ : ∃ W, W = ((w.alloc (.cells (rtL t (.slice aa an ac) (.slice da dn dc) (.slice ma mn mc)).toArray 31)).alloc (doO 3 n th rr (.slice la ln lc))).alloc (.cells rtZ.toArray 31) := ⟨_, rfl⟩
  rw [← hW] at D0 lw
  unfold rtL rtZ doO at hW
  have HW := Lib.hid hW
  have I0 := Lib.hid (C.step P.inv lw)
  have V0 := Lib.hid (P.rt.below lw)
  have B0 := Lib.hid (P.low.trans (lw.mono P.low.size))
  have ZW := Lib.hid (show w.heap.size + 3 ≤ W.heap.size from D0.out.size)
  have FT := Lib.hid (C.foot P.inv)
  unfold maxLen at mcm acm dcm lcm
  unfold rtV doV
  clear P hL hm han hdn hln hW lw hxs hn
  go_enter Tryd.func10, Tryd.ntmps10
  obtain ⟨cc, hcc⟩ : ∃ x, t.hasE th = x := ⟨_, rfl⟩
  obtain ⟨ee, hee⟩ : ∃ x, errV cc = x := ⟨_, rfl⟩
  obtain ⟨mm, hmm⟩ : ∃ x, t.marked th = x := ⟨_, rfl⟩
  have GG := Lib.hid (show _ ∧ _ ∧ _ from ⟨hcc, hee, hmm⟩)
  clear hcc hee hmm
  go_wp2_with fail
  rw [← HW.out]
  clear HW
  have Z0 := ZW
  have N1 := Lib.hid (show ∀ k, S k → S k ∨ w.heap.size + 3 ≤ k from fun k hk => .inl hk)
  have NB := Lib.hid (show ∀ b, rtB (.slice aa an ac) (.slice da dn dc) (.slice ma mn mc) b → rtB (.slice aa an ac) (.slice da dn dc) (.slice ma mn mc) b ∨ w.heap.size + 3 ≤ b from fun b hb => .inl hb)
  have OF3 := Lib.hid PP.out.off
  refine (C.marked a S t th _ I0.out).mono ?_
  rintro ev w1 ⟨rfl, hs⟩
  have D1 := Lib.hid (D0.out.step hs)
  have I1 := Lib.hid (C.step I0.out hs)
  have V1 := Lib.hid (V0.out.below hs)
  have B1 := Lib.hid (B0.out.trans (hs.mono B0.out.size))
  have Z1 := Lib.hid (Nat.le_trans Z0.out hs.size)
  clear hs
  simp only [GG.out.1, GG.out.2.1, GG.out.2.2]
  have c2 := D1.out.doo.c2
  go_wp2_with (refine wpList_load_mid rfl 31 (.tmp 4) rfl w.heap.size 0 rfl (rtL t (.slice aa an ac) (.slice da dn dc) (.slice ma mn mc)) _ (rangeOf D1.out.own) Tryd.underlying31 rfl rtInfo ?_)
  refine (rf_marked t _ _ _ th w0 _ V1.out).mono ?_
  rintro ev w2 ⟨rfl, hs⟩
  have D2 := Lib.hid (D1.out.step hs)
  have I2 := Lib.hid (C.step I1.out hs)
  have V2 := Lib.hid (V1.out.below hs)
  have B2 := Lib.hid (B1.out.trans (hs.mono B1.out.size))
  have Z2 := Lib.hid (Nat.le_trans Z1.out hs.size)
  clear hs
  simp only [GG.out.1, GG.out.2.1, GG.out.2.2]
  go_wp2_with fail
  have DD := Lib.hid (D2.out.step (Below.refl _ w2).drew)
  have ID := Lib.hid (C.step I2.out (Below.refl _ w2).drew)
  have VD := Lib.hid (V2.out.below (Below.refl _ w2).drew)
  have KD := Lib.hid (DD.out.own)
  have BD := Lib.hid (show Below w0.heap.size w0 (World.drew w2) from B2.out.drew)
  have NE := Lib.hid (show w.heap.size ≠ w.heap.size + 2 by omega)
  have R3 := rangeOf KD.out
  have fcode := fun w h => code_of cc w h
  rw [GG.out.2.1] at fcode
  refine anyH_region (fun w' => w'.rangeAt w.heap.size 0 (rtL t (.slice aa an ac) (.slice da dn dc) (.slice ma mn mc))) (by kernel_rfl) ?_
  generalize (World.drew w2) = wd at *
  refine wpAnyH_take (i := 0) (oi := ⟨some 181, _, _, _, _, _⟩) (v := .agg (rtL t (.slice aa an ac) (.slice da dn dc) (.slice ma mn mc)).toArray) rfl (by kernel_rfl) (by kernel_rfl) (by kernel_rfl) (fun _ _ _ h => h) (yieldsIf_load_mid (by rfl) 31 (.tmp 4) rfl w.heap.size 0 rfl (rtL t (.slice aa an ac) (.slice da dn dc) (.slice ma mn mc)) _ (fun w h => h) Tryd.underlying31 rfl rtInfo) R3 ?restd3_0
  simp only [Act.put, List.setIfInBounds_toArray, List.set_cons_zero, List.set_cons_succ]
  refine wpAnyH_take (i := 1) (oi := ⟨some 182, _, _, _, _, _⟩) (v := ?vd3_1) rfl (by kernel_rfl) (by kernel_rfl) (by kernel_rfl) (fun _ _ _ h => h) (Or.inl ⟨by rfl, ?hyd3_1⟩) R3 ?restd3_1
  case hyd3_1 => (intro w hSw; have q0 := hSw; go_simp; try (with_reducible rfl))
  simp only [Act.put, List.setIfInBounds_toArray, List.set_cons_zero, List.set_cons_succ]
  refine wpAnyH_take (i := 2) (oi := ⟨some 183, _, _, _, _, _⟩) (v := ?vd3_2) rfl (by kernel_rfl) (by kernel_rfl) (by kernel_rfl) (fun _ _ _ h => h) (Or.inl ⟨by rfl, ?hyd3_2⟩) R3 ?restd3_2
  case hyd3_2 => (intro w hSw; have q0 := hSw; go_simp; try (with_reducible rfl))
  simp only [Act.put, List.setIfInBounds_toArray, List.set_cons_zero, List.set_cons_succ]
  refine wpAnyH_take (i := 3) (oi := ⟨some 184, _, _, _, _, _⟩) (v := ?vd3_3) rfl (by kernel_rfl) (by kernel_rfl) (by kernel_rfl) (fun _ _ _ h => h) (Or.inl ⟨by rfl, ?hyd3_3⟩) R3 ?restd3_3
  case hyd3_3 => (intro w hSw; have q0 := hSw; go_simp; try (with_reducible rfl))
  simp only [Act.put, List.setIfInBounds_toArray, List.set_cons_zero, List.set_cons_succ]
  refine wpAnyH_take (i := 4) (oi := ⟨some 185, _, _, _, _, _⟩) (v := ?vd3_4) rfl (by kernel_rfl) (by kernel_rfl) (by kernel_rfl) (fun _ _ _ h => h) (Or.inl ⟨by rfl, ?hyd3_4⟩) R3 ?restd3_4
  case hyd3_4 => (intro w hSw; have q0 := hSw; go_simp; try (with_reducible rfl))
  simp only [Act.put, List.setIfInBounds_toArray, List.set_cons_zero, List.set_cons_succ]
  refine wpAnyH_take (i := 5) (oi := ⟨some 186, _, _, _, _, _⟩) (v := ?vd3_5) rfl (by kernel_rfl) (by kernel_rfl) (by kernel_rfl) (fun _ _ _ h => h) (Or.inl ⟨by rfl, ?hyd3_5⟩) R3 ?restd3_5
  case hyd3_5 => (intro w hSw; have q0 := hSw; go_simp; try (with_reducible rfl))
  simp only [Act.put, List.setIfInBounds_toArray, List.set_cons_zero, List.set_cons_succ]
  refine wpAnyH_take (i := 7) (oi := ⟨some 188, _, _, _, _, _⟩) (v := ?vd3_7) rfl (by kernel_rfl) (by kernel_rfl) (by kernel_rfl) (fun _ _ _ h => h) (Or.inl ⟨by rfl, ?hyd3_7⟩) R3 ?restd3_7
  case hyd3_7 => (intro w hSw; have q0 := hSw; go_simp; try (with_reducible rfl))
  simp only [Act.put, List.setIfInBounds_toArray, List.set_cons_zero, List.set_cons_succ]
  refine anyH_one (i := 6) (o := ⟨some 187, _, _, _, _, _⟩) (by kernel_rfl) rfl (fun K hK => ?_)
  rw [if_pos (by rfl)]
  go_simp
  refine (fcode _ (Glob.at PP.out.glob (BD.out))).mono ?_
  rintro e6 w6 ⟨rfl, hs⟩
  have D6 := Lib.hid (DD.out.step hs)
  have I6 := Lib.hid (C.step ID.out hs)
  have V6 := Lib.hid (VD.out.below hs)
  have R6 := rangeOf (blk_step KD.out hs)
  clear hs
  refine hK.out _ _ R6 ?_
  clear hK K
  try simp only [Act.put, List.setIfInBounds_toArray, List.set_cons_zero, List.set_cons_succ]
  refine wpAnyH_take (i := 8) (oi := ⟨some 189, _, _, _, _, _⟩) (v := ?vd3_8) rfl (by kernel_rfl) (by kernel_rfl) (by kernel_rfl) (fun _ _ _ h => h) (Or.inl ⟨by rfl, ?hyd3_8⟩) R6 ?restd3_8
  case hyd3_8 => (intro w hSw; have q0 := hSw; go_simp; try (with_reducible rfl))
  simp only [Act.put, List.setIfInBounds_toArray, List.set_cons_zero, List.set_cons_succ]
  refine wpAnyH_take (i := 9) (oi := ⟨some 190, _, _, _, _, _⟩) (v := ?vd3_9) rfl (by kernel_rfl) (by kernel_rfl) (by kernel_rfl) (fun _ _ _ h => h) (Or.inl ⟨by rfl, ?hyd3_9⟩) R6 ?restd3_9
  case hyd3_9 => (intro w hSw; have q0 := hSw; go_simp; try (with_reducible rfl))
  simp only [Act.put, List.setIfInBounds_toArray, List.set_cons_zero, List.set_cons_succ]
  refine anyH_one (i := 10) (o := ⟨none, _, _, _, _, _⟩) (by kernel_rfl) rfl (fun K hK => ?_)
  rw [if_pos (by rfl)]
  refine wp_store_to 31 (.tmp 6) (.tmp 181) rfl (w.heap.size + 2) 0 (rtL t (.slice aa an ac) (.slice da dn dc) (.slice ma mn mc)) rfl rfl ?_ rtInfo (rtL_one _ _ _ _ _ _ _ _ _ _) ?_
  · exact D6.out.there
  intro wz hz
  have F := Lib.hid (does_fin PP.out D6.out rfl I6.out V6.out N1.out NB.out OF3.out hz)
  have RZ := keptRange hz R6 NE.out
  clear hz
  refine hK.out _ _ RZ ?_
  clear hK K
  try simp only [Act.put]
  refine wpAnyH_take (i := 11) (oi := ⟨some 7, _, _, _, _, _⟩) (v := ?vd3_11) rfl (by kernel_rfl) (by kernel_rfl) (by kernel_rfl) (fun _ _ _ h => h) (Or.inl ⟨by rfl, ?hyd3_11⟩) RZ ?restd3_11
  case hyd3_11 => (intro w hSw; have q0 := hSw; go_simp; try (with_reducible rfl))
  simp only [Act.put, List.setIfInBounds_toArray, List.set_cons_zero, List.set_cons_succ]
  refine wpAnyH_done (by kernel_rfl) ?_ _
  go_wp2
  exact bodyPost_ret (v := .tuple #[.agg (rtL t (.slice aa an ac) (.slice da dn dc) (.slice ma mn mc)).toArray, .bool true]) (results_cellT rfl _ _ (w.heap.size + 2) _ _ (.bool true) rfl rfl (rangeOf F.out.1) Tryd.underlying31 rfl rtInfo) rfl F.out.2
end Go.Proofs.YtkbfhpgcjljbbaaDoor
