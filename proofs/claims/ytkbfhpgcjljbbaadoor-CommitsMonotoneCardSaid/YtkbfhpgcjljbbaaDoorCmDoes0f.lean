/- A step done in both tables (layer 16): does at verb 0, by contract. -/
import Derived.Test.YtkbfhpgcjljbbaaDoorCmDoW
import Derived.Test.YtkbfhpgcjljbbaaDoorCmSame
namespace Go.Proofs.YtkbfhpgcjljbbaaDoor
set_option linter.unusedVariables false
set_option linter.unusedSimpArgs false
open Go.RowKit

set_option maxRecDepth 100000 in
set_option maxHeartbeats 4000000 in
theorem does_0f (C : CmT) (a : Addr) (S : Nat → Prop) (t : Tb) (va vd vm : Value) (n th : Int) (Lv : Value) (xs : List Wr) (w0 w : World) (P : DoPre C w0 w a S t va vd vm) (hL : WrV lDw w0 Lv xs) (hxs : xs.length ≤ 100) (hn : -9223372036854775808 ≤ n ∧ n ≤ 9223372036854775807) (hsx : ∀ x ∈ xs, x.2.1.size ≤ 1000) :
    Calls Tryd.prog 10 #[.pointer (some a), rtV t va vd vm, doV 0 n th false Lv] w (DoesP C w0 w a S va vd vm (t.app n xs)) := by
  obtain ⟨mn, hm⟩ : ∃ m, t.marks.length = m := ⟨_, rfl⟩
  obtain ⟨an, han⟩ : ∃ m, t.all.length = m := ⟨_, rfl⟩
  obtain ⟨dn, hdn⟩ : ∃ m, t.dropped.length = m := ⟨_, rfl⟩
  obtain ⟨ln, hln⟩ : ∃ m, xs.length = m := ⟨_, rfl⟩
  obtain ⟨ma, mc, rfl, -, mcm⟩ := P.rt.mks.lenN hm
  obtain ⟨aa, ac, rfl, -, acm⟩ := P.rt.all.lenN han
  obtain ⟨da, dc, rfl, -, dcm⟩ := P.rt.drp.lenN hdn
  obtain ⟨la, lc, rfl, -, lcm⟩ := hL.1.lenform
  rw [hln] at hL ⊢
  have OK := Lib.hid (C.ok P.inv)
  have PP := Lib.hid P
  have XL := Lib.hid (show WrV lDw w0 (.slice la ln lc) xs ∧ xs.length = ln ∧ xs.length ≤ 100 from ⟨hL, hln, hxs⟩)
  have NN := Lib.hid hn
  have LN := Lib.hid (show t.marks.length = mn ∧ t.all.length = an ∧ t.dropped.length = dn from ⟨hm, han, hdn⟩)
  have D0 := Lib.hid (DoW.start (Mt w S) w (rtL t (.slice aa an ac) (.slice da dn dc) (.slice ma mn mc)) rtZ 0 n th false (.slice la ln lc))
  have lw := low3 w (.cells (rtL t (.slice aa an ac) (.slice da dn dc) (.slice ma mn mc)).toArray 31) (doO 0 n th false (.slice la ln lc)) (.cells rtZ.toArray 31)
  obtain ⟨W, hW⟩ : ∃ W, W = ((w.alloc (.cells (rtL t (.slice aa an ac) (.slice da dn dc) (.slice ma mn mc)).toArray 31)).alloc (doO 0 n th false (.slice la ln lc))).alloc (.cells rtZ.toArray 31) := ⟨_, rfl⟩
  rw [← hW] at D0 lw
  unfold rtL rtZ doO at hW
  have HW := Lib.hid hW
  have I0 := Lib.hid (C.step P.inv lw)
  have V0 := Lib.hid (P.rt.below lw)
  have B0 := Lib.hid (P.low.trans (lw.mono P.low.size))
  have ZW := Lib.hid (show w.heap.size + 3 ≤ W.heap.size from D0.out.size)
  have FT := Lib.hid (C.foot P.inv)
  unfold maxLen at mcm acm dcm lcm
  unfold rtV doV
  clear P hL hm han hdn hln hW lw hxs hn
  go_enter Tryd.func10, Tryd.ntmps10
  have MX := Lib.hid (show ln ≤ 1000 by have h1 := XL.out.2.1; have h2 := XL.out.2.2; omega)
  have SMX := Lib.hid hsx
  have X0 := Lib.hid (XL.out.1.below B0.out)
  obtain ⟨cc, hcc⟩ : ∃ x, t.appE n xs = x := ⟨_, rfl⟩
  obtain ⟨ee, hee⟩ : ∃ x, errV cc = x := ⟨_, rfl⟩
  obtain ⟨bb, hbb⟩ : ∃ x, t.appB n xs = x := ⟨_, rfl⟩
  obtain ⟨t', ht'⟩ : ∃ x, t.app n xs = x := ⟨_, rfl⟩
  have GG := Lib.hid (show _ ∧ _ ∧ _ ∧ _ from ⟨hcc, hee, hbb, ht'⟩)
  rw [ht']
  clear hsx hcc hee hbb ht'
  go_wp2_with fail
  rw [← HW.out]
  clear HW
  have Z0 := ZW
  refine (given_any _ xs _ X0.out (by have := XL.out.2.2; omega)).mono ?_
  rintro ev w1 ⟨gv, rfl, ho, hs⟩
  have D1 := Lib.hid (D0.out.step hs)
  have I1 := Lib.hid (C.step I0.out hs)
  have V1 := Lib.hid (V0.out.below hs)
  have B1 := Lib.hid (B0.out.trans (hs.mono B0.out.size))
  have Z1 := Lib.hid (Nat.le_trans Z0.out hs.size)
  have O1 := Lib.hid ho
  clear ho
  clear hs
  obtain ⟨va, vc, rfl, -, -⟩ := O1.out.lenN XL.out.2.1
  have G1 := Lib.hid (show WrV lPw w1 (.slice va ln vc) xs from ⟨O1.out.sv, XL.out.1.2⟩)
  go_wp2_with fail
  refine (C.append a S t n _ xs _ I1.out (by have := PP.out.len; omega) G1.out (by have := XL.out.2.2; omega)).mono ?_
  rintro ev w2 ⟨S1, rfl, hI, hk, hS⟩
  rw [GG.out.2.2.2] at hI
  have D2 := Lib.hid (D1.out.keep hk FT.out)
  have V2 := Lib.hid (V1.out.keep hk.mt PP.out.off)
  have B2 := Lib.hid (mut_step PP.out.S0 B1.out B1.out.size hk hS).1
  have I2 := Lib.hid hI
  have N1 := Lib.hid (show ∀ k, S1 k → S k ∨ w.heap.size + 3 ≤ k from fun k hk => (hS k hk).imp id (fun h => Nat.le_trans Z1.out h))
  have Z2 := Lib.hid (show w.heap.size + 3 ≤ w2.heap.size from Nat.le_trans Z1.out hk.size)
  have OF1 := Lib.hid (show ∀ k, rtB (.slice aa an ac) (.slice da dn dc) (.slice ma mn mc) k → ¬ S1 k from fun k hk hs => (N1.out k hs).elim (PP.out.off k hk) (fun h => by have := PP.out.rt.bounds k hk; omega))
  have OW := Lib.hid (O1.out.keep hk.mt (fun k e hs => by have h1 := (O1.out.bounds k e).1; have h2 := FT.out k hs; have h3 := ZW.out; omega))
  have NS := Lib.hid (show ∀ k, (Value.slice va ln vc).ownBlock = some k → ¬ S1 k from fun k e hs => (hS k hs).elim (fun h => by have h1 := (O1.out.bounds k e).1; have h2 := FT.out k h; have h3 := ZW.out; omega) (fun h => by have := (O1.out.bounds k e).2; omega))
  clear hI hk hS
  unfold two
  simp only [GG.out.1, GG.out.2.1, GG.out.2.2.1]
  clear O1 G1
  have ZB := ZW
  have LM := Lib.hid XL.out.2.1
  go_wp2
  go_loopg [71] ln (fun c i wr => ∃ k : Nat, k + c = ln ∧ i = .int .i64 k ∧ OwnS lPw W.heap.size wr (.slice va ln vc) (turned addV xs k) ∧ Kept (fun k => (Value.slice va ln vc).ownBlock = some k) w2 wr)
  case atStart => exact ⟨0, by omega, rfl, by rw [turned_zero]; exact OW.out, Kept.refl _ _⟩
  case round =>
    obtain ⟨k, hk, rfl, hO, hK⟩ := hrel
    have A := Lib.hid (show k + gk = ln ∧ Kept (fun k => (Value.slice va ln vc).ownBlock = some k) w2 wr from ⟨hk, hK⟩)
    by_cases hlt : k < ln
    · obtain ⟨x, hx⟩ : ∃ x, (xs)[k]? = some x := ⟨_, List.getElem?_eq_getElem (by rw [LM.out]; exact hlt)⟩
      obtain ⟨g, rfl⟩ := hO.addrN (by omega)
      have x1 := addV_cell hO hx
      have xf := hO.free (k * 3 + 1)
      have O2 := Lib.hid (addV_set hO hx)
      have K2 := Lib.hid (Kept.setCellB hK (k * 3 + 1) (.string (x.2.1 ++ ⟨#[120]⟩)))
      have hsz : x.2.1.size ≤ 1000 := SMX.out x (List.mem_of_getElem? hx)
      have j3 : (0 : Int) ≤ (k : Int) := by omega
      have j4 : (k : Int) < (ln : Int) := by omega
      have j5 : ln ≤ 1000 := MX.out
      clear hx hO hK
      go_wp2
      go_roundg (ln - (k + 1))
      case measure => have := A.out.1; omega
      case rel => exact ⟨k + 1, by omega, by go_num, O2.out, K2.out⟩
    · obtain rfl : ln = k := by have := A.out.1; omega
      have GB : ∀ k, (Value.slice va ln vc).ownBlock = some k → w.heap.size + 3 ≤ k := fun k hk => by have h1 := (OW.out.bounds k hk).1; have h2 := ZB.out; omega
      have DL := Lib.hid (D2.out.keepT hK GB)
      have IL := Lib.hid (C.keep I2.out (hK.wide (fun k _ hk hs => NS.out k hk hs)))
      have VL := Lib.hid (V2.out.keep hK (fun k hk hs => by have h1 := GB k hs; have h2 := PP.out.rt.bounds k hk; omega))
      have BL := Lib.hid (B2.out.trans (hK.below (fun k hk => by have h1 := GB k hk; have h2 := PP.out.low.size; omega) B2.out.size))
      have ZL := Lib.hid (Nat.le_trans Z2.out hK.size)
      clear hO hK
      have Q1 := DL.out.doo.c1
      have Q4 := DL.out.doo.c4
      generalize wr = w3 at *
      go_wp2_with (refine wpList_load_mid rfl 31 (.tmp 4) rfl w.heap.size 0 rfl (rtL t (.slice aa an ac) (.slice da dn dc) (.slice ma mn mc)) _ (rangeOf DL.out.own) Tryd.underlying31 rfl rtInfo ?_)
      refine (rf_append t _ _ _ n _ xs w0 _ VL.out BL.out XL.out.1 (by have := PP.out.len; omega) OK.out.len).mono ?_
      rintro ev w4 ⟨va', vd', vm', rfl, hr, hnb, hs⟩
      have D2 := Lib.hid (DL.out.step hs)
      have I2 := Lib.hid (C.step IL.out hs)
      have B2 := Lib.hid (BL.out.trans (hs.mono BL.out.size))
      have Z2 := Lib.hid (Nat.le_trans ZL.out hs.size)
      rw [GG.out.2.2.2] at hr
      obtain ⟨pa, pc, rfl, -, -⟩ := hr.all.lenN rfl
      obtain ⟨qa, qc, rfl, -, -⟩ := hr.drp.lenN rfl
      obtain ⟨ra, rc, rfl, -, -⟩ := hr.mks.lenN rfl
      obtain ⟨pn, hpn⟩ : ∃ x, t'.all.length = x := ⟨_, rfl⟩
      obtain ⟨qn, hqn⟩ : ∃ x, t'.dropped.length = x := ⟨_, rfl⟩
      obtain ⟨rn, hrn⟩ : ∃ x, t'.marks.length = x := ⟨_, rfl⟩
      rw [hpn, hqn, hrn] at hr hnb ⊢
      clear hpn hqn hrn
      have V2 := Lib.hid hr
      have NB := Lib.hid (show ∀ b, rtB (.slice pa pn pc) (.slice qa qn qc) (.slice ra rn rc) b → rtB (.slice aa an ac) (.slice da dn dc) (.slice ma mn mc) b ∨ w.heap.size + 3 ≤ b from fun b hb => (hnb b hb).imp id (fun h => by have := ZL.out; omega))
      have OF3 := Lib.hid (show ∀ b, rtB (.slice pa pn pc) (.slice qa qn qc) (.slice ra rn rc) b → ¬ S1 b from fun b hb hs => (hnb b hb).elim (fun h => OF1.out b h hs) (fun h => by have := C.foot IL.out b hs; omega))
      clear hr hnb hs Q1 Q4
      simp only [rtV, GG.out.2.2.2, GG.out.1, GG.out.2.1, GG.out.2.2.1]
      go_wp2_with fail
      have bq := alloc_below0 w4 (.cells (rtL t' (.slice pa pn pc) (.slice qa qn qc) (.slice ra rn rc)).toArray 31)
      have kq := blk_new w4 (.cells (rtL t' (.slice pa pn pc) (.slice qa qn qc) (.slice ra rn rc)).toArray 31)
      obtain ⟨W3, hW3⟩ : ∃ x, x = w4.alloc (.cells (rtL t' (.slice pa pn pc) (.slice qa qn qc) (.slice ra rn rc)).toArray 31) := ⟨_, rfl⟩
      rw [← hW3] at bq kq
      unfold rtL at hW3
      rw [← hW3]
      have DD := Lib.hid ((D2.out.step bq).step (Below.refl _ W3).drew)
      have ID := Lib.hid (C.step (C.step I2.out bq) (Below.refl _ W3).drew)
      have VD := Lib.hid ((V2.out.below bq).below (Below.refl _ W3).drew)
      have KD := Lib.hid (blk_step kq (Below.refl _ W3).drew)
      have BD := Lib.hid (show Below w0.heap.size w0 W3.drew from (B2.out.trans (bq.mono B2.out.size)).drew)
      have NE := Lib.hid (show w4.heap.size ≠ w.heap.size + 2 by have := Z2.out; omega)
      have R3 := rangeOf KD.out
      clear bq kq hW3
      have fcode := fun w h => code_of cc w h
      rw [GG.out.2.1] at fcode
      cases bb with
      | false =>
        refine anyH_region (fun w' => w'.rangeAt w4.heap.size 0 (rtL t' (.slice pa pn pc) (.slice qa qn qc) (.slice ra rn rc))) (by kernel_rfl) ?_
        generalize (World.drew W3) = wd at *
        refine wpAnyH_take (i := 0) (oi := ⟨some 92, _, _, _, _, _⟩) (v := .agg (rtL t' (.slice pa pn pc) (.slice qa qn qc) (.slice ra rn rc)).toArray) rfl (by kernel_rfl) (by kernel_rfl) (by kernel_rfl) (fun _ _ _ h => h) (yieldsIf_load_mid (by rfl) 31 (.tmp 13) rfl w4.heap.size 0 rfl (rtL t' (.slice pa pn pc) (.slice qa qn qc) (.slice ra rn rc)) _ (fun w h => h) Tryd.underlying31 rfl rtInfo) R3 ?restn0f_0
        simp only [Act.put, List.setIfInBounds_toArray, List.set_cons_zero, List.set_cons_succ]
        refine wpAnyH_take (i := 1) (oi := ⟨some 93, _, _, _, _, _⟩) (v := ?vn0f_1) rfl (by kernel_rfl) (by kernel_rfl) (by kernel_rfl) (fun _ _ _ h => h) (Or.inl ⟨by rfl, ?hyn0f_1⟩) R3 ?restn0f_1
        case hyn0f_1 => (intro w hSw; have q0 := hSw; go_simp; try (with_reducible rfl))
        simp only [Act.put, List.setIfInBounds_toArray, List.set_cons_zero, List.set_cons_succ]
        refine wpAnyH_take (i := 2) (oi := ⟨some 94, _, _, _, _, _⟩) (v := ?vn0f_2) rfl (by kernel_rfl) (by kernel_rfl) (by kernel_rfl) (fun _ _ _ h => h) (Or.inl ⟨by rfl, ?hyn0f_2⟩) R3 ?restn0f_2
        case hyn0f_2 => (intro w hSw; have q0 := hSw; go_simp; try (with_reducible rfl))
        simp only [Act.put, List.setIfInBounds_toArray, List.set_cons_zero, List.set_cons_succ]
        refine wpAnyH_take (i := 3) (oi := ⟨some 95, _, _, _, _, _⟩) (v := ?vn0f_3) rfl (by kernel_rfl) (by kernel_rfl) (by kernel_rfl) (fun _ _ _ h => h) (Or.inl ⟨by rfl, ?hyn0f_3⟩) R3 ?restn0f_3
        case hyn0f_3 => (intro w hSw; have q0 := hSw; go_simp; try (with_reducible rfl))
        simp only [Act.put, List.setIfInBounds_toArray, List.set_cons_zero, List.set_cons_succ]
        refine wpAnyH_take (i := 4) (oi := ⟨some 96, _, _, _, _, _⟩) (v := ?vn0f_4) rfl (by kernel_rfl) (by kernel_rfl) (by kernel_rfl) (fun _ _ _ h => h) (Or.inl ⟨by rfl, ?hyn0f_4⟩) R3 ?restn0f_4
        case hyn0f_4 => (intro w hSw; have q0 := hSw; go_simp; try (with_reducible rfl))
        simp only [Act.put, List.setIfInBounds_toArray, List.set_cons_zero, List.set_cons_succ]
        refine wpAnyH_take (i := 5) (oi := ⟨some 97, _, _, _, _, _⟩) (v := ?vn0f_5) rfl (by kernel_rfl) (by kernel_rfl) (by kernel_rfl) (fun _ _ _ h => h) (Or.inl ⟨by rfl, ?hyn0f_5⟩) R3 ?restn0f_5
        case hyn0f_5 => (intro w hSw; have q0 := hSw; go_simp; try (with_reducible rfl))
        simp only [Act.put, List.setIfInBounds_toArray, List.set_cons_zero, List.set_cons_succ]
        refine wpAnyH_take (i := 7) (oi := ⟨some 99, _, _, _, _, _⟩) (v := ?vn0f_7) rfl (by kernel_rfl) (by kernel_rfl) (by kernel_rfl) (fun _ _ _ h => h) (Or.inl ⟨by rfl, ?hyn0f_7⟩) R3 ?restn0f_7
        case hyn0f_7 => (intro w hSw; have q0 := hSw; go_simp; try (with_reducible rfl))
        simp only [Act.put, List.setIfInBounds_toArray, List.set_cons_zero, List.set_cons_succ]
        refine anyH_one (i := 6) (o := ⟨some 98, _, _, _, _, _⟩) (by kernel_rfl) rfl (fun K hK => ?_)
        rw [if_pos (by rfl)]
        go_simp
        refine (fcode _ (Glob.at PP.out.glob (BD.out))).mono ?_
        rintro e6 w6 ⟨rfl, hs⟩
        have D6 := Lib.hid (DD.out.step hs)
        have I6 := Lib.hid (C.step ID.out hs)
        have V6 := Lib.hid (VD.out.below hs)
        have R6 := rangeOf (blk_step KD.out hs)
        clear hs
        refine hK.out _ _ R6 ?_
        clear hK K
        try simp only [Act.put, List.setIfInBounds_toArray, List.set_cons_zero, List.set_cons_succ]
        refine wpAnyH_take (i := 8) (oi := ⟨some 100, _, _, _, _, _⟩) (v := ?vn0f_8) rfl (by kernel_rfl) (by kernel_rfl) (by kernel_rfl) (fun _ _ _ h => h) (Or.inl ⟨by rfl, ?hyn0f_8⟩) R6 ?restn0f_8
        case hyn0f_8 => (intro w hSw; have q0 := hSw; go_simp; try (with_reducible rfl))
        simp only [Act.put, List.setIfInBounds_toArray, List.set_cons_zero, List.set_cons_succ]
        refine wpAnyH_take (i := 9) (oi := ⟨some 101, _, _, _, _, _⟩) (v := ?vn0f_9) rfl (by kernel_rfl) (by kernel_rfl) (by kernel_rfl) (fun _ _ _ h => h) (Or.inl ⟨by rfl, ?hyn0f_9⟩) R6 ?restn0f_9
        case hyn0f_9 => (intro w hSw; have q0 := hSw; go_simp; try (with_reducible rfl))
        simp only [Act.put, List.setIfInBounds_toArray, List.set_cons_zero, List.set_cons_succ]
        refine anyH_one (i := 10) (o := ⟨none, _, _, _, _, _⟩) (by kernel_rfl) rfl (fun K hK => ?_)
        rw [if_pos (by rfl)]
        refine wp_store_to 31 (.tmp 6) (.tmp 92) rfl (w.heap.size + 2) 0 (rtL t' (.slice pa pn pc) (.slice qa qn qc) (.slice ra rn rc)) rfl rfl ?_ rtInfo (rtL_one _ _ _ _ _ _ _ _ _ _) ?_
        · exact D6.out.there
        intro wz hz
        have F := Lib.hid (does_fin PP.out D6.out rfl I6.out V6.out N1.out NB.out OF3.out hz)
        have RZ := keptRange hz R6 NE.out
        clear hz
        refine hK.out _ _ RZ ?_
        clear hK K
        try simp only [Act.put]
        refine wpAnyH_take (i := 11) (oi := ⟨some 7, _, _, _, _, _⟩) (v := ?vn0f_11) rfl (by kernel_rfl) (by kernel_rfl) (by kernel_rfl) (fun _ _ _ h => h) (Or.inl ⟨by rfl, ?hyn0f_11⟩) RZ ?restn0f_11
        case hyn0f_11 => (intro w hSw; have q0 := hSw; go_simp; try (with_reducible rfl))
        simp only [Act.put, List.setIfInBounds_toArray, List.set_cons_zero, List.set_cons_succ]
        refine wpAnyH_done (by kernel_rfl) ?_ _
        go_wp2
        exact bodyPost_ret (v := .tuple #[.agg (rtL t' (.slice pa pn pc) (.slice qa qn qc) (.slice ra rn rc)).toArray, .bool true]) (results_cellT rfl _ _ (w.heap.size + 2) _ _ (.bool true) rfl rfl (rangeOf F.out.1) Tryd.underlying31 rfl rtInfo) rfl F.out.2
      | true =>
        refine anyH_region (fun w' => w'.rangeAt w4.heap.size 0 (rtL t' (.slice pa pn pc) (.slice qa qn qc) (.slice ra rn rc))) (by kernel_rfl) ?_
        generalize (World.drew W3) = wd at *
        refine wpAnyH_take (i := 0) (oi := ⟨some 92, _, _, _, _, _⟩) (v := .agg (rtL t' (.slice pa pn pc) (.slice qa qn qc) (.slice ra rn rc)).toArray) rfl (by kernel_rfl) (by kernel_rfl) (by kernel_rfl) (fun _ _ _ h => h) (yieldsIf_load_mid (by rfl) 31 (.tmp 13) rfl w4.heap.size 0 rfl (rtL t' (.slice pa pn pc) (.slice qa qn qc) (.slice ra rn rc)) _ (fun w h => h) Tryd.underlying31 rfl rtInfo) R3 ?restd0f_0
        simp only [Act.put, List.setIfInBounds_toArray, List.set_cons_zero, List.set_cons_succ]
        refine wpAnyH_take (i := 1) (oi := ⟨some 93, _, _, _, _, _⟩) (v := ?vd0f_1) rfl (by kernel_rfl) (by kernel_rfl) (by kernel_rfl) (fun _ _ _ h => h) (Or.inl ⟨by rfl, ?hyd0f_1⟩) R3 ?restd0f_1
        case hyd0f_1 => (intro w hSw; have q0 := hSw; go_simp; try (with_reducible rfl))
        simp only [Act.put, List.setIfInBounds_toArray, List.set_cons_zero, List.set_cons_succ]
        refine wpAnyH_take (i := 2) (oi := ⟨some 94, _, _, _, _, _⟩) (v := ?vd0f_2) rfl (by kernel_rfl) (by kernel_rfl) (by kernel_rfl) (fun _ _ _ h => h) (Or.inl ⟨by rfl, ?hyd0f_2⟩) R3 ?restd0f_2
        case hyd0f_2 => (intro w hSw; have q0 := hSw; go_simp; try (with_reducible rfl))
        simp only [Act.put, List.setIfInBounds_toArray, List.set_cons_zero, List.set_cons_succ]
        refine wpAnyH_take (i := 3) (oi := ⟨some 95, _, _, _, _, _⟩) (v := ?vd0f_3) rfl (by kernel_rfl) (by kernel_rfl) (by kernel_rfl) (fun _ _ _ h => h) (Or.inl ⟨by rfl, ?hyd0f_3⟩) R3 ?restd0f_3
        case hyd0f_3 => (intro w hSw; have q0 := hSw; go_simp; try (with_reducible rfl))
        simp only [Act.put, List.setIfInBounds_toArray, List.set_cons_zero, List.set_cons_succ]
        refine wpAnyH_take (i := 4) (oi := ⟨some 96, _, _, _, _, _⟩) (v := ?vd0f_4) rfl (by kernel_rfl) (by kernel_rfl) (by kernel_rfl) (fun _ _ _ h => h) (Or.inl ⟨by rfl, ?hyd0f_4⟩) R3 ?restd0f_4
        case hyd0f_4 => (intro w hSw; have q0 := hSw; go_simp; try (with_reducible rfl))
        simp only [Act.put, List.setIfInBounds_toArray, List.set_cons_zero, List.set_cons_succ]
        refine wpAnyH_take (i := 5) (oi := ⟨some 97, _, _, _, _, _⟩) (v := ?vd0f_5) rfl (by kernel_rfl) (by kernel_rfl) (by kernel_rfl) (fun _ _ _ h => h) (Or.inl ⟨by rfl, ?hyd0f_5⟩) R3 ?restd0f_5
        case hyd0f_5 => (intro w hSw; have q0 := hSw; go_simp; try (with_reducible rfl))
        simp only [Act.put, List.setIfInBounds_toArray, List.set_cons_zero, List.set_cons_succ]
        refine wpAnyH_take (i := 7) (oi := ⟨some 99, _, _, _, _, _⟩) (v := ?vd0f_7) rfl (by kernel_rfl) (by kernel_rfl) (by kernel_rfl) (fun _ _ _ h => h) (Or.inl ⟨by rfl, ?hyd0f_7⟩) R3 ?restd0f_7
        case hyd0f_7 => (intro w hSw; have q0 := hSw; go_simp; try (with_reducible rfl))
        simp only [Act.put, List.setIfInBounds_toArray, List.set_cons_zero, List.set_cons_succ]
        refine anyH_one (i := 6) (o := ⟨some 98, _, _, _, _, _⟩) (by kernel_rfl) rfl (fun K hK => ?_)
        rw [if_pos (by rfl)]
        go_simp
        refine (fcode _ (Glob.at PP.out.glob (BD.out))).mono ?_
        rintro e6 w6 ⟨rfl, hs⟩
        have D6 := Lib.hid (DD.out.step hs)
        have I6 := Lib.hid (C.step ID.out hs)
        have V6 := Lib.hid (VD.out.below hs)
        have R6 := rangeOf (blk_step KD.out hs)
        clear hs
        refine hK.out _ _ R6 ?_
        clear hK K
        try simp only [Act.put, List.setIfInBounds_toArray, List.set_cons_zero, List.set_cons_succ]
        refine wpAnyH_take (i := 8) (oi := ⟨some 100, _, _, _, _, _⟩) (v := ?vd0f_8) rfl (by kernel_rfl) (by kernel_rfl) (by kernel_rfl) (fun _ _ _ h => h) (Or.inl ⟨by rfl, ?hyd0f_8⟩) R6 ?restd0f_8
        case hyd0f_8 => (intro w hSw; have q0 := hSw; go_simp; try (with_reducible rfl))
        simp only [Act.put, List.setIfInBounds_toArray, List.set_cons_zero, List.set_cons_succ]
        refine wpAnyH_take (i := 9) (oi := ⟨some 101, _, _, _, _, _⟩) (v := ?vd0f_9) rfl (by kernel_rfl) (by kernel_rfl) (by kernel_rfl) (fun _ _ _ h => h) (Or.inl ⟨by rfl, ?hyd0f_9⟩) R6 ?restd0f_9
        case hyd0f_9 => (intro w hSw; have q0 := hSw; go_simp; try (with_reducible rfl))
        simp only [Act.put, List.setIfInBounds_toArray, List.set_cons_zero, List.set_cons_succ]
        refine anyH_one (i := 10) (o := ⟨none, _, _, _, _, _⟩) (by kernel_rfl) rfl (fun K hK => ?_)
        rw [if_pos (by rfl)]
        refine wp_store_to 31 (.tmp 6) (.tmp 92) rfl (w.heap.size + 2) 0 (rtL t' (.slice pa pn pc) (.slice qa qn qc) (.slice ra rn rc)) rfl rfl ?_ rtInfo (rtL_one _ _ _ _ _ _ _ _ _ _) ?_
        · exact D6.out.there
        intro wz hz
        have F := Lib.hid (does_fin PP.out D6.out rfl I6.out V6.out N1.out NB.out OF3.out hz)
        have RZ := keptRange hz R6 NE.out
        clear hz
        refine hK.out _ _ RZ ?_
        clear hK K
        try simp only [Act.put]
        refine wpAnyH_take (i := 11) (oi := ⟨some 7, _, _, _, _, _⟩) (v := ?vd0f_11) rfl (by kernel_rfl) (by kernel_rfl) (by kernel_rfl) (fun _ _ _ h => h) (Or.inl ⟨by rfl, ?hyd0f_11⟩) RZ ?restd0f_11
        case hyd0f_11 => (intro w hSw; have q0 := hSw; go_simp; try (with_reducible rfl))
        simp only [Act.put, List.setIfInBounds_toArray, List.set_cons_zero, List.set_cons_succ]
        refine wpAnyH_done (by kernel_rfl) ?_ _
        go_wp2
        exact bodyPost_ret (v := .tuple #[.agg (rtL t' (.slice pa pn pc) (.slice qa qn qc) (.slice ra rn rc)).toArray, .bool true]) (results_cellT rfl _ _ (w.heap.size + 2) _ _ (.bool true) rfl rfl (rangeOf F.out.1) Tryd.underlying31 rfl rtInfo) rfl F.out.2
end Go.Proofs.YtkbfhpgcjljbbaaDoor
