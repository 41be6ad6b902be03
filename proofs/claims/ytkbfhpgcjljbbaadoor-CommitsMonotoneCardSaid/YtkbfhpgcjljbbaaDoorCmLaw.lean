/- A table and the document's in a variable's block, between two steps of a law's (layer 16). -/
import Derived.Test.YtkbfhpgcjljbbaaDoorCmDoW
import Derived.Test.YtkbfhpgcjljbbaaDoorCmSame
import Derived.Test.YtkbfhpgcjljbbaaDoorCmFews
namespace Go.Proofs.YtkbfhpgcjljbbaaDoor
set_option linter.unusedVariables false
set_option linter.unusedSimpArgs false
open Go.RowKit

theorem atL_small {t : Tb} (h : t.ok) (n : Int) : SmallW (t.atL n) := by
  unfold Tb.atL
  split
  · rw [List.getD]
    cases hq : t.all[(n - 1).toNat]? with
    | none => exact SmallW.nil
    | some p => exact (h.small p (List.mem_of_getElem? hq)).1
  · exact SmallW.nil
set_option maxRecDepth 100000 in
set_option maxHeartbeats 4000000 in
theorem all_any (C : CmT) (a : Addr) (S : Nat → Prop) (t : Tb) (va vd vm : Value) (w0 w : World) (P : DoPre C w0 w a S t va vd vm) :
    Calls Tryd.prog 11 #[.pointer (some a), rtV t va vd vm] w fun ev w' => ev = .returned (.bool true) ∧ Below w.heap.size w w' := by
  obtain ⟨mn, hm⟩ : ∃ m, t.marks.length = m := ⟨_, rfl⟩
  obtain ⟨an, han⟩ : ∃ m, t.all.length = m := ⟨_, rfl⟩
  obtain ⟨dn, hdn⟩ : ∃ m, t.dropped.length = m := ⟨_, rfl⟩
  obtain ⟨ma, mc, rfl, -, mcm⟩ := P.rt.mks.lenN hm
  obtain ⟨aa, ac, rfl, -, acm⟩ := P.rt.all.lenN han
  obtain ⟨da, dc, rfl, -, dcm⟩ := P.rt.drp.lenN hdn
  have OK := Lib.hid (C.ok P.inv)
  have PP := Lib.hid P
  have LN := Lib.hid (show t.marks.length = mn ∧ t.all.length = an ∧ t.dropped.length = dn from ⟨hm, han, hdn⟩)
  have AN := Lib.hid (show an ≤ 500 ∧ mn ≤ 64 ∧ dn = an by have h1 := P.len; have h2 := OK.out.marks.2; have h3 := OK.out.len; omega)
  have lw := alloc_below0 w (.cells (rtL t (.slice aa an ac) (.slice da dn dc) (.slice ma mn mc)).toArray 31)
  have kw := blk_new w (.cells (rtL t (.slice aa an ac) (.slice da dn dc) (.slice ma mn mc)).toArray 31)
  obtain ⟨W, hW⟩ : ∃ W, W = w.alloc (.cells (rtL t (.slice aa an ac) (.slice da dn dc) (.slice ma mn mc)).toArray 31) := ⟨_, rfl⟩
  rw [← hW] at lw kw
  unfold rtL at hW
  have HW := Lib.hid hW
  have ID := Lib.hid (C.step P.inv (lw.trans ((Below.refl _ W).drew.mono lw.size)))
  have VD := Lib.hid (P.rt.below (lw.trans ((Below.refl _ W).drew.mono lw.size)))
  have BD := Lib.hid (show Below w.heap.size w (World.drew W) from lw.drew)
  have KD := Lib.hid (blk_step kw (Below.refl _ W).drew)
  unfold maxLen at mcm acm dcm
  unfold rtV
  clear P hm han hdn hW lw kw
  go_enter Tryd.func11, Tryd.ntmps11
  go_wp2_with fail
  rw [← HW.out]
  clear HW
  have R0 := rangeOf KD.out
  have p1_0 := (show _ = some (Value.int .i64 (t.low : Int)) from blk_cell KD.out 1)
  have p2_0 := (show _ = some (Value.slice aa an ac) from blk_cell KD.out 2)
  refine anyH_region (fun w' => w'.rangeAt w.heap.size 0 (rtL t (.slice aa an ac) (.slice da dn dc) (.slice ma mn mc)) ∧ w'.cell? ⟨w.heap.size, 1, none⟩ = some (.int .i64 (t.low : Int)) ∧ w'.cell? ⟨w.heap.size, 2, none⟩ = some (.slice aa an ac)) (by kernel_rfl) ?_
  generalize (World.drew W) = wd at *
  refine wpAnyH_take (i := 0) (oi := ⟨some 15, _, _, _, _, _⟩) (v := ?val_0) rfl (by kernel_rfl) (by kernel_rfl) (by kernel_rfl) (fun _ _ _ h => h) (Or.inl ⟨by rfl, ?hyal_0⟩) ⟨R0, p1_0, p2_0⟩ ?restal_0
  case hyal_0 => (intro w hSw; have q0 := hSw.2.1; have q1 := hSw.2.2; go_simp; try (with_reducible rfl))
  simp only [Act.put, List.setIfInBounds_toArray, List.set_cons_zero, List.set_cons_succ]
  refine wpAnyH_take (i := 2) (oi := ⟨some 17, _, _, _, _, _⟩) (v := ?val_2) rfl (by kernel_rfl) (by kernel_rfl) (by kernel_rfl) (fun _ _ _ h => h) (Or.inl ⟨by rfl, ?hyal_2⟩) ⟨R0, p1_0, p2_0⟩ ?restal_2
  case hyal_2 => (intro w hSw; have q0 := hSw.2.1; have q1 := hSw.2.2; go_simp; try (with_reducible rfl))
  simp only [Act.put, List.setIfInBounds_toArray, List.set_cons_zero, List.set_cons_succ]
  refine wpAnyH_take (i := 3) (oi := ⟨some 18, _, _, _, _, _⟩) (v := ?val_3) rfl (by kernel_rfl) (by kernel_rfl) (by kernel_rfl) (fun _ _ _ h => h) (Or.inl ⟨by rfl, ?hyal_3⟩) ⟨R0, p1_0, p2_0⟩ ?restal_3
  case hyal_3 => (intro w hSw; have q0 := hSw.2.1; have q1 := hSw.2.2; go_simp; try (with_reducible rfl))
  simp only [Act.put, List.setIfInBounds_toArray, List.set_cons_zero, List.set_cons_succ]
  refine wpAnyH_take (i := 4) (oi := ⟨some 19, _, _, _, _, _⟩) (v := ?val_4) rfl (by kernel_rfl) (by kernel_rfl) (by kernel_rfl) (fun _ _ _ h => h) (Or.inl ⟨by rfl, ?hyal_4⟩) ⟨R0, p1_0, p2_0⟩ ?restal_4
  case hyal_4 => (intro w hSw; have q0 := hSw.2.1; have q1 := hSw.2.2; go_simp; try (with_reducible rfl))
  simp only [Act.put, List.setIfInBounds_toArray, List.set_cons_zero, List.set_cons_succ]
  refine anyH_one (i := 1) (o := ⟨some 16, _, _, _, _, _⟩) (by kernel_rfl) rfl (fun K hK => ?_)
  rw [if_pos (by rfl)]
  go_simp
  refine (C.last a S t _ ID.out).mono ?_
  rintro e x1 ⟨rfl, hs⟩
  rw [LN.out.2.1]
  have I1 := Lib.hid (C.step ID.out hs)
  have V1 := Lib.hid (VD.out.below hs)
  have B1 := Lib.hid (BD.out.trans (hs.mono BD.out.size))
  have K1 := Lib.hid (blk_step KD.out hs)
  have R1 := rangeOf K1.out
  have p1_1 := (show _ = some (Value.int .i64 (t.low : Int)) from blk_cell K1.out 1)
  have p2_1 := (show _ = some (Value.slice aa an ac) from blk_cell K1.out 2)
  clear hs
  refine hK.out _ _ ⟨R1, p1_1, p2_1⟩ ?_
  clear hK K
  try simp only [Act.put, List.setIfInBounds_toArray, List.set_cons_zero, List.set_cons_succ]
  refine wpAnyH_take (i := 5) (oi := ⟨some 20, _, _, _, _, _⟩) (v := ?val_5) rfl (by kernel_rfl) (by kernel_rfl) (by kernel_rfl) (fun _ _ _ h => h) (Or.inl ⟨by rfl, ?hyal_5⟩) ⟨R1, p1_1, p2_1⟩ ?restal_5
  case hyal_5 => (intro w hSw; have q0 := hSw.2.1; have q1 := hSw.2.2; go_simp; try (with_reducible rfl))
  simp only [Act.put, List.setIfInBounds_toArray, List.set_cons_zero, List.set_cons_succ]
  refine wpAnyH_take (i := 6) (oi := ⟨some 21, _, _, _, _, _⟩) (v := ?val_6) rfl (by kernel_rfl) (by kernel_rfl) (by kernel_rfl) (fun _ _ _ h => h) (Or.inl ⟨by rfl, ?hyal_6⟩) ⟨R1, p1_1, p2_1⟩ ?restal_6
  case hyal_6 => (intro w hSw; have q0 := hSw.2.1; have q1 := hSw.2.2; go_simp; try (with_reducible rfl))
  simp only [Act.put, List.setIfInBounds_toArray, List.set_cons_zero, List.set_cons_succ]
  refine wpAnyH_take (i := 7) (oi := ⟨some 22, _, _, _, _, _⟩) (v := ?val_7) rfl (by kernel_rfl) (by kernel_rfl) (by kernel_rfl) (fun _ _ _ h => h) (Or.inl ⟨by rfl, ?hyal_7⟩) ⟨R1, p1_1, p2_1⟩ ?restal_7
  case hyal_7 => (intro w hSw; have q0 := hSw.2.1; have q1 := hSw.2.2; go_simp; try (with_reducible rfl))
  simp only [Act.put, List.setIfInBounds_toArray, List.set_cons_zero, List.set_cons_succ]
  refine wpAnyH_take (i := 9) (oi := ⟨some 24, _, _, _, _, _⟩) (v := ?val_9) rfl (by kernel_rfl) (by kernel_rfl) (by kernel_rfl) (fun _ _ _ h => h) (Or.inl ⟨by rfl, ?hyal_9⟩) ⟨R1, p1_1, p2_1⟩ ?restal_9
  case hyal_9 => (intro w hSw; have q0 := hSw.2.1; have q1 := hSw.2.2; go_simp; try (with_reducible rfl))
  simp only [Act.put, List.setIfInBounds_toArray, List.set_cons_zero, List.set_cons_succ]
  refine wpAnyH_take (i := 10) (oi := ⟨some 25, _, _, _, _, _⟩) (v := ?val_10) rfl (by kernel_rfl) (by kernel_rfl) (by kernel_rfl) (fun _ _ _ h => h) (Or.inl ⟨by rfl, ?hyal_10⟩) ⟨R1, p1_1, p2_1⟩ ?restal_10
  case hyal_10 => (intro w hSw; have q0 := hSw.2.1; have q1 := hSw.2.2; go_simp; try (with_reducible rfl))
  simp only [Act.put, List.setIfInBounds_toArray, List.set_cons_zero, List.set_cons_succ]
  refine anyH_one (i := 8) (o := ⟨some 23, _, _, _, _, _⟩) (by kernel_rfl) rfl (fun K hK => ?_)
  rw [if_pos (by rfl)]
  go_simp
  refine (C.base a S t _ I1.out).mono ?_
  rintro e x2 ⟨rfl, hs⟩
  have I2 := Lib.hid (C.step I1.out hs)
  have V2 := Lib.hid (V1.out.below hs)
  have B2 := Lib.hid (B1.out.trans (hs.mono B1.out.size))
  have K2 := Lib.hid (blk_step K1.out hs)
  have R2 := rangeOf K2.out
  have p1_2 := (show _ = some (Value.int .i64 (t.low : Int)) from blk_cell K2.out 1)
  have p2_2 := (show _ = some (Value.slice aa an ac) from blk_cell K2.out 2)
  clear hs
  refine hK.out _ _ ⟨R2, p1_2, p2_2⟩ ?_
  clear hK K
  try simp only [Act.put, List.setIfInBounds_toArray, List.set_cons_zero, List.set_cons_succ]
  refine wpAnyH_take (i := 11) (oi := ⟨some 26, _, _, _, _, _⟩) (v := ?val_11) rfl (by kernel_rfl) (by kernel_rfl) (by kernel_rfl) (fun _ _ _ h => h) (Or.inl ⟨by rfl, ?hyal_11⟩) ⟨R2, p1_2, p2_2⟩ ?restal_11
  case hyal_11 => (intro w hSw; have q0 := hSw.2.1; have q1 := hSw.2.2; go_simp; try (with_reducible rfl))
  simp only [Act.put, List.setIfInBounds_toArray, List.set_cons_zero, List.set_cons_succ]
  refine wpAnyH_take (i := 12) (oi := ⟨some 27, _, _, _, _, _⟩) (v := ?val_12) rfl (by kernel_rfl) (by kernel_rfl) (by kernel_rfl) (fun _ _ _ h => h) (Or.inl ⟨by rfl, ?hyal_12⟩) ⟨R2, p1_2, p2_2⟩ ?restal_12
  case hyal_12 => (intro w hSw; have q0 := hSw.2.1; have q1 := hSw.2.2; go_simp; try (with_reducible rfl))
  simp only [Act.put, List.setIfInBounds_toArray, List.set_cons_zero, List.set_cons_succ]
  refine wpAnyH_take (i := 13) (oi := ⟨some 28, _, _, _, _, _⟩) (v := ?val_13) rfl (by kernel_rfl) (by kernel_rfl) (by kernel_rfl) (fun _ _ _ h => h) (Or.inl ⟨by rfl, ?hyal_13⟩) ⟨R2, p1_2, p2_2⟩ ?restal_13
  case hyal_13 => (intro w hSw; have q0 := hSw.2.1; have q1 := hSw.2.2; go_simp; try (with_reducible rfl))
  simp only [Act.put, List.setIfInBounds_toArray, List.set_cons_zero, List.set_cons_succ]
  refine wpAnyH_take (i := 14) (oi := ⟨some 29, _, _, _, _, _⟩) (v := ?val_14) rfl (by kernel_rfl) (by kernel_rfl) (by kernel_rfl) (fun _ _ _ h => h) (Or.inl ⟨by rfl, ?hyal_14⟩) ⟨R2, p1_2, p2_2⟩ ?restal_14
  case hyal_14 => (intro w hSw; have q0 := hSw.2.1; have q1 := hSw.2.2; go_simp; try (with_reducible rfl))
  simp only [Act.put, List.setIfInBounds_toArray, List.set_cons_zero, List.set_cons_succ]
  refine wpAnyH_take (i := 16) (oi := ⟨some 31, _, _, _, _, _⟩) (v := .agg (rtL t (.slice aa an ac) (.slice da dn dc) (.slice ma mn mc)).toArray) rfl (by kernel_rfl) (by kernel_rfl) (by kernel_rfl) (fun _ _ _ h => h) (yieldsIf_load_mid (by rfl) 31 (.tmp 3) rfl w.heap.size 0 rfl (rtL t (.slice aa an ac) (.slice da dn dc) (.slice ma mn mc)) _ (fun w h => h.1) Tryd.underlying31 rfl rtInfo) ⟨R2, p1_2, p2_2⟩ ?restal_16
  simp only [Act.put, List.setIfInBounds_toArray, List.set_cons_zero, List.set_cons_succ]
  refine anyH_one (i := 15) (o := ⟨some 30, _, _, _, _, _⟩) (by kernel_rfl) rfl (fun K hK => ?_)
  rw [if_pos (by rfl)]
  go_simp
  refine (C.count a S t _ I2.out (by have := PP.out.len; omega)).mono ?_
  rintro e x3 ⟨rfl, hs⟩
  have I3 := Lib.hid (C.step I2.out hs)
  have V3 := Lib.hid (V2.out.below hs)
  have B3 := Lib.hid (B2.out.trans (hs.mono B2.out.size))
  have K3 := Lib.hid (blk_step K2.out hs)
  have R3 := rangeOf K3.out
  have p1_3 := (show _ = some (Value.int .i64 (t.low : Int)) from blk_cell K3.out 1)
  have p2_3 := (show _ = some (Value.slice aa an ac) from blk_cell K3.out 2)
  clear hs
  refine hK.out _ _ ⟨R3, p1_3, p2_3⟩ ?_
  clear hK K
  try simp only [Act.put, List.setIfInBounds_toArray, List.set_cons_zero, List.set_cons_succ]
  refine anyH_one (i := 17) (o := ⟨some 32, _, _, _, _, _⟩) (by kernel_rfl) rfl (fun K hK => ?_)
  rw [if_pos (by rfl)]
  go_simp
  refine (rf_count t _ _ _ w0 _ V3.out (by have h1 := LN.out.2.2; have h2 := AN.out; omega)).mono ?_
  rintro e x4 ⟨rfl, hs⟩
  have I4 := Lib.hid (C.step I3.out hs)
  have V4 := Lib.hid (V3.out.below hs)
  have B4 := Lib.hid (B3.out.trans (hs.mono B3.out.size))
  have K4 := Lib.hid (blk_step K3.out hs)
  have R4 := rangeOf K4.out
  have p1_4 := (show _ = some (Value.int .i64 (t.low : Int)) from blk_cell K4.out 1)
  have p2_4 := (show _ = some (Value.slice aa an ac) from blk_cell K4.out 2)
  clear hs
  refine hK.out _ _ ⟨R4, p1_4, p2_4⟩ ?_
  clear hK K
  try simp only [Act.put, List.setIfInBounds_toArray, List.set_cons_zero, List.set_cons_succ]
  refine wpAnyH_take (i := 18) (oi := ⟨some 33, _, _, _, _, _⟩) (v := ?val_18) rfl (by kernel_rfl) (by kernel_rfl) (by kernel_rfl) (fun _ _ _ h => h) (Or.inl ⟨by rfl, ?hyal_18⟩) ⟨R4, p1_4, p2_4⟩ ?restal_18
  case hyal_18 => (intro w hSw; have q0 := hSw.2.1; have q1 := hSw.2.2; go_simp; try (with_reducible rfl))
  simp only [Act.put, List.setIfInBounds_toArray, List.set_cons_zero, List.set_cons_succ]
  refine wpAnyH_take (i := 19) (oi := ⟨some 34, _, _, _, _, _⟩) (v := ?val_19) rfl (by kernel_rfl) (by kernel_rfl) (by kernel_rfl) (fun _ _ _ h => h) (Or.inl ⟨by rfl, ?hyal_19⟩) ⟨R4, p1_4, p2_4⟩ ?restal_19
  case hyal_19 => (intro w hSw; have q0 := hSw.2.1; have q1 := hSw.2.2; go_simp; try (with_reducible rfl))
  simp only [Act.put, List.setIfInBounds_toArray, List.set_cons_zero, List.set_cons_succ]
  refine wpAnyH_done (by kernel_rfl) ?_ _
  clear R0 p1_0 p2_0 R1 p1_1 p2_1 R2 p1_2 p2_2 R3 p1_3 p2_3 R4 p1_4 p2_4
  go_wp2
  go_loopg [5] (an + 2) (fun c i wr => ∃ k : Nat, k + c = an + 2 ∧ i = .int .i64 k ∧ Below x4.heap.size x4 wr)
  case atStart => exact ⟨0, by omega, rfl, Below.refl _ _⟩
  case round =>
    obtain ⟨k, hk, rfl, hB⟩ := hrel
    have A := Lib.hid (show k + gk = an + 2 from hk)
    have i0 := Lib.hid (C.step I4.out hB)
    have v0 := Lib.hid (V4.out.below hB)
    have b0 := Lib.hid (show Below x4.heap.size x4 wr from hB)
    have k0 := Lib.hid (blk_step K4.out hB)
    have c2 := (show wr.cell? ⟨w.heap.size, 2, none⟩ = some (Value.slice aa an ac) from blk_cell k0.out 2)
    have j1 : IntKind.i64.wrap ((an : Int) + 1) = (an : Int) + 1 := Go.IntWalk.i64_in _ (by have := AN.out.1; omega)
    clear hB
    by_cases hlt : k < an + 2
    · have j2 : (k : Int) ≤ (an : Int) + 1 := by omega
      have j3 : an ≤ 500 := AN.out.1
      obtain ⟨cc, hcc⟩ : ∃ x, t.atE (k : Int) = x := ⟨_, rfl⟩
      obtain ⟨ee, hee⟩ : ∃ x, errV cc = x := ⟨_, rfl⟩
      have GG := Lib.hid (show _ ∧ _ from ⟨hcc, hee⟩)
      clear hcc hee
      go_wp2_with fail
      refine (C.at_ a S t (k : Int) _ i0.out (by have := PP.out.len; omega)).mono ?_
      rintro ev y1 ⟨v', rfl, ho, hs⟩
      have i1 := Lib.hid (C.step i0.out hs)
      have v1 := Lib.hid (v0.out.below hs)
      have b1 := Lib.hid (b0.out.trans (hs.mono b0.out.size))
      have k1 := Lib.hid (blk_step k0.out hs)
      have O1 := Lib.hid ho
      clear ho c2
      clear hs
      obtain ⟨m, hm⟩ : ∃ m, (t.atL (k : Int)).length = m := ⟨_, rfl⟩
      obtain ⟨oa, oc, rfl, -, -⟩ := O1.out.lenN hm
      clear hm
      simp only [GG.out.1, GG.out.2]
      go_wp2_with (refine wpList_load_mid rfl 31 (.tmp 3) rfl w.heap.size 0 rfl (rtL t (.slice aa an ac) (.slice da dn dc) (.slice ma mn mc)) _ (rangeOf k1.out) Tryd.underlying31 rfl rtInfo ?_)
      refine (rf_at t _ _ _ (k : Int) w0 _ v1.out OK.out.len (by omega)).mono ?_
      rintro ev y2 ⟨u2, rfl, hu, hs⟩
      have i2 := Lib.hid (C.step i1.out hs)
      have v2 := Lib.hid (v1.out.below hs)
      have b2 := Lib.hid (b1.out.trans (hs.mono b1.out.size))
      have k2 := Lib.hid (blk_step k1.out hs)
      have U2 := Lib.hid (hu.below (PP.out.low.trans ((B4.out.trans (b2.out.mono B4.out.size)).mono PP.out.low.size)))
      have O2 := Lib.hid (O1.out.below hs)
      clear hu
      clear hs
      simp only [GG.out.1, GG.out.2]
      go_wp2_with fail
      refine (same_eq _ _ (t.atL (k : Int)) _ ⟨O2.out.sv, atL_small OK.out _⟩ U2.out).mono ?_
      rintro ev y3 ⟨rfl, hs⟩
      have i3 := Lib.hid (C.step i2.out hs)
      have v3 := Lib.hid (v2.out.below hs)
      have b3 := Lib.hid (b2.out.trans (hs.mono b2.out.size))
      have k3 := Lib.hid (blk_step k2.out hs)
      clear hs
      have fcode := fun w h => code_of cc w h
      rw [GG.out.2] at fcode
      go_wp2_with fail
      refine (fcode _ (Glob.at PP.out.glob (PP.out.low.trans ((B4.out.trans (b3.out.mono B4.out.size)).mono PP.out.low.size)))).mono ?_
      rintro ev y4 ⟨rfl, hs⟩
      have i4 := Lib.hid (C.step i3.out hs)
      have v4 := Lib.hid (v3.out.below hs)
      have b4 := Lib.hid (b3.out.trans (hs.mono b3.out.size))
      have k4 := Lib.hid (blk_step k3.out hs)
      clear hs
      go_wp2
      go_roundg (an + 2 - (k + 1))
      case measure => have := A.out; omega
      case rel => exact ⟨k + 1, by omega, by go_num, b4.out⟩
    · obtain rfl : k = an + 2 := by have := A.out; omega
      have j2 : ¬ (((an + 2 : Nat) : Int) ≤ (an : Int) + 1) := by omega
      have I5 := i0
      have V5 := v0
      have B5 := Lib.hid (B4.out.trans (b0.out.mono B4.out.size))
      have K5 := k0
      clear i0 v0 b0 k0 A I4 V4 B4 K4 hk hlt
      generalize wr = x5 at *
      have c4 := (show x5.cell? ⟨w.heap.size, 4, none⟩ = some (Value.slice ma mn mc) from blk_cell K5.out 4)
      go_wp2
      go_loopg [68] mn (fun c i wr => ∃ k : Nat, k + c = mn ∧ i = .int .i64 k ∧ Below x5.heap.size x5 wr)
      case atStart => exact ⟨0, by omega, rfl, Below.refl _ _⟩
      case round =>
        obtain ⟨k, hk, rfl, hB⟩ := hrel
        have A := Lib.hid (show k + gk = mn from hk)
        have i0 := Lib.hid (C.step I5.out hB)
        have v0 := Lib.hid (V5.out.below hB)
        have b0 := Lib.hid (show Below x5.heap.size x5 wr from hB)
        have k0 := Lib.hid (blk_step K5.out hB)
        clear hB c4
        by_cases hlt : k < mn
        · have j3 : mn ≤ 64 := AN.out.2.1
          obtain ⟨cc, hcc⟩ : ∃ x, t.hasE (k : Int) = x := ⟨_, rfl⟩
          obtain ⟨ee, hee⟩ : ∃ x, errV cc = x := ⟨_, rfl⟩
          obtain ⟨qq, hqq⟩ : ∃ x, t.marked (k : Int) = x := ⟨_, rfl⟩
          have GG := Lib.hid (show _ ∧ _ ∧ _ from ⟨hcc, hee, hqq⟩)
          clear hcc hee hqq
          go_wp2_with fail
          refine (C.marked a S t (k : Int) _ i0.out).mono ?_
          rintro ev y1 ⟨rfl, hs⟩
          have i1 := Lib.hid (C.step i0.out hs)
          have v1 := Lib.hid (v0.out.below hs)
          have b1 := Lib.hid (b0.out.trans (hs.mono b0.out.size))
          have k1 := Lib.hid (blk_step k0.out hs)
          clear hs
          simp only [GG.out.1, GG.out.2.1, GG.out.2.2]
          go_wp2_with (refine wpList_load_mid rfl 31 (.tmp 3) rfl w.heap.size 0 rfl (rtL t (.slice aa an ac) (.slice da dn dc) (.slice ma mn mc)) _ (rangeOf k1.out) Tryd.underlying31 rfl rtInfo ?_)
          refine (rf_marked t _ _ _ (k : Int) w0 _ v1.out).mono ?_
          rintro ev y2 ⟨rfl, hs⟩
          have i2 := Lib.hid (C.step i1.out hs)
          have v2 := Lib.hid (v1.out.below hs)
          have b2 := Lib.hid (b1.out.trans (hs.mono b1.out.size))
          have k2 := Lib.hid (blk_step k1.out hs)
          clear hs
          simp only [GG.out.1, GG.out.2.1, GG.out.2.2]
          have fcode := fun w h => code_of cc w h
          rw [GG.out.2.1] at fcode
          go_wp2_with fail
          refine (fcode _ (Glob.at PP.out.glob (PP.out.low.trans ((B5.out.trans (b2.out.mono B5.out.size)).mono PP.out.low.size)))).mono ?_
          rintro ev y3 ⟨rfl, hs⟩
          have i3 := Lib.hid (C.step i2.out hs)
          have v3 := Lib.hid (v2.out.below hs)
          have b3 := Lib.hid (b2.out.trans (hs.mono b2.out.size))
          have k3 := Lib.hid (blk_step k2.out hs)
          clear hs
          go_wp2
          go_roundg (mn - (k + 1))
          case measure => have := A.out; omega
          case rel => exact ⟨k + 1, by omega, by go_num, b3.out⟩
        · obtain rfl : mn = k := by have := A.out; omega
          have BZ := Lib.hid (B5.out.trans (b0.out.mono B5.out.size))
          go_wp2
          go_ret
          exact ⟨rfl, BZ.out⟩

set_option linter.unusedVariables false
set_option linter.unusedSimpArgs false
open Go.RowKit

theorem DoPre.step {C : CmT} {w0 w w' : World} {a : Addr} {S : Nat → Prop} {t : Tb} {va vd vm : Value} (h : DoPre C w0 w a S t va vd vm) (hb : Below w.heap.size w w') : DoPre C w0 w' a S t va vd vm :=
  ⟨C.step h.inv hb, h.rt.below hb, h.low.trans (hb.mono h.low.size), h.off, h.S0, h.glob, h.len, h.small⟩
structure LawP (C : CmT) (w0 w : World) (a : Addr) (S : Nat → Prop) (t : Tb) (rb : Nat) (va vd vm : Value) : Prop where
  pre : DoPre C w0 w a S t va vd vm
  blk : w.heap[rb]? = some (.cells (rtL t va vd vm).toArray 31 (0, 0))
  nS : ¬ S rb
  nB : ¬ rtB va vd vm rb
  rb0 : w0.heap.size ≤ rb
theorem LawP.step {C : CmT} {w0 w w' : World} {a : Addr} {S : Nat → Prop} {t : Tb} {rb : Nat} {va vd vm : Value} (h : LawP C w0 w a S t rb va vd vm) (hb : Below w.heap.size w w') : LawP C w0 w' a S t rb va vd vm :=
  ⟨h.pre.step hb, blk_step h.blk hb, h.nS, h.nB, h.rb0⟩
/-- behind does: the variable still has what it had, and may be written -/
structure LawQ (C : CmT) (w0 w : World) (a : Addr) (S : Nat → Prop) (t : Tb) (rb : Nat) (va vd vm : Value) : Prop where
  pre : DoPre C w0 w a S t va vd vm
  blk : ∃ L : List Value, L.length = 6 ∧ w.heap[rb]? = some (.cells L.toArray 31 (0, 0))
  nS : ¬ S rb
  nB : ¬ rtB va vd vm rb
  rb0 : w0.heap.size ≤ rb
theorem LawP.does {C : CmT} {w0 w w2 : World} {a : Addr} {S S' : Nat → Prop} {t : Tb} {rb : Nat} {va vd vm va' vd' vm' : Value} {d : DoD} (h : LawP C w0 w a S t rb va vd vm) (hd : d.may) (hlen : t.all.length + 1 ≤ 500)
    (hI : C.Inv w2 a S' (t.step d)) (hV : RtV w0 w2 (t.step d) va' vd' vm') (hoff : ∀ k, rtB va' vd' vm' k → ¬ S' k) (hK : Kept (Mt w S) w w2) (hS : ∀ k, S' k → S k ∨ w.heap.size ≤ k) (hB : ∀ b, rtB va' vd' vm' b → rtB va vd vm b ∨ w.heap.size ≤ b) :
    LawQ C w0 w2 a S' (t.step d) rb va' vd' vm' := by
  have hlt := (Array.getElem?_eq_some_iff.1 h.blk).1
  refine ⟨⟨hI, hV, h.pre.low.trans (hK.mt.below h.pre.S0 h.pre.low.size), hoff, fun k hk => (hS k hk).elim (h.pre.S0 k) (fun e => Nat.le_trans h.pre.low.size e), h.pre.glob, ?_, step_small hd h.pre.small⟩, ⟨_, rfl, blk_keep h.blk hK.mt h.nS⟩, fun hs => (hS rb hs).elim h.nS (fun e => by omega), fun hb => (hB rb hb).elim h.nB (fun e => by omega), h.rb0⟩
  have := step_grow t d
  omega
theorem LawQ.step {C : CmT} {w0 w w' : World} {a : Addr} {S : Nat → Prop} {t : Tb} {rb : Nat} {va vd vm : Value} (h : LawQ C w0 w a S t rb va vd vm) (hb : Below w.heap.size w w') : LawQ C w0 w' a S t rb va vd vm :=
  let ⟨L, h1, h2⟩ := h.blk
  ⟨h.pre.step hb, ⟨L, h1, blk_step h2 hb⟩, h.nS, h.nB, h.rb0⟩
theorem LawQ.there {C : CmT} {w0 w : World} {a : Addr} {S : Nat → Prop} {t : Tb} {rb : Nat} {va vd vm : Value} (h : LawQ C w0 w a S t rb va vd vm) : w.there rb 0 6 := by
  obtain ⟨L, h1, h2⟩ := h.blk
  exact blk_there h2 6 (by simp [h1])
/-- the variable's block is written -/
theorem DoPre.write {C : CmT} {w0 w wz : World} {a : Addr} {S : Nat → Prop} {t : Tb} {rb : Nat} {va vd vm : Value} (h : DoPre C w0 w a S t va vd vm) (nS : ¬ S rb) (nB : ¬ rtB va vd vm rb) (rb0 : w0.heap.size ≤ rb) (hk : Kept (fun k => k = rb) w wz) : DoPre C w0 wz a S t va vd vm :=
  ⟨C.keep h.inv (hk.wide (fun k _ e hs => nS (e ▸ hs))), h.rt.keep hk (fun k hb e => nB (e ▸ hb)), h.low.trans (hk.below (fun k e => by omega) h.low.size), h.off, h.S0, h.glob, h.len, h.small⟩
theorem LawQ.store {C : CmT} {w0 w wz : World} {a : Addr} {S : Nat → Prop} {t : Tb} {rb : Nat} {va vd vm : Value} (h : LawQ C w0 w a S t rb va vd vm) (hz : wz = w.setCells rb 0 (rtL t va vd vm)) : LawP C w0 wz a S t rb va vd vm := by
  obtain ⟨L, h1, h2⟩ := h.blk
  have hk : Kept (fun k => k = rb) w wz := by rw [hz]; exact Kept.setCells (w := w) (b := rb) _ 0 w (Kept.refl _ _)
  exact ⟨h.pre.write h.nS h.nB h.rb0 hk, by rw [hz]; exact list_laid _ h2 (by simp [h1, rtL]), h.nS, h.nB, h.rb0⟩
/-- a new table, and the document's -/
theorem LawP.new {C : CmT} {w0 w1 w2 w3 : World} {a : Addr} {S : Nat → Prop} {n l : Int} {vm : Value} {rb : Nat} (hok : okT n l = true) (hI : C.Inv w1 a S (Tb.new n.toNat l)) (hS : ∀ k, S k → w0.heap.size ≤ k) (hb1 : Below w0.heap.size w0 w1)
    (ho : OwnS lInt w1.heap.size w2 vm (List.replicate n.toNat (-1))) (hb2 : Below w1.heap.size w1 w2) (hb3 : Below w2.heap.size w2 w3) (hblk : w3.heap[rb]? = some (.cells (rtL (Tb.new n.toNat l) (.slice none 0 0) (.slice none 0 0) vm).toArray 31 (0, 0))) (hrb : rb = w2.heap.size) (hg : Ea.Glob w0) :
    LawP C w0 w3 a S (Tb.new n.toNat l) rb (.slice none 0 0) (.slice none 0 0) vm := by
  have hf := C.foot hI
  refine ⟨⟨C.step (C.step hI hb2) hb3, ⟨⟨[], OwnS.nil _ _ _, rfl, fun i s p hs => (by cases hs)⟩, OwnS.nil _ _ _, (ho.mono (Nat.zero_le _)).below hb3⟩, (hb1.trans (hb2.mono hb1.size)).trans (hb3.mono (hb1.trans (hb2.mono hb1.size)).size), fun k hk hs => ?_, hS, hg, Nat.zero_le _, fun p hp => (by cases hp)⟩, hblk, fun hs => ?_, fun hb => ?_, ?_⟩
  · rcases hk with e | e | e
    · cases e
    · cases e
    · have h1 := (ho.bounds k e).1
      have h2 := hf k hs
      omega
  · have h2 := hf rb hs
    have h3 := hb2.size
    omega
  · rcases hb with e | e | e
    · cases e
    · cases e
    · have h1 := (ho.bounds rb e).2
      omega
  · have h1 := hb1.size
    have h3 := hb2.size
    omega
end Go.Proofs.YtkbfhpgcjljbbaaDoor
