/- A step done in both tables (layer 16): does at verb 1, by contract. -/
import Derived.Test.YtkbfhpgcjljbbaaDoorCmDoW
import Derived.Test.YtkbfhpgcjljbbaaDoorCmSame
namespace Go.Proofs.YtkbfhpgcjljbbaaDoor
set_option linter.unusedVariables false
set_option linter.unusedSimpArgs false
open Go.RowKit

set_option maxRecDepth 100000 in
set_option maxHeartbeats 4000000 in
theorem does_1 (C : CmT) (a : Addr) (S : Nat → Prop) (t : Tb) (va vd vm : Value) (n th : Int) (rr : Bool) (Lv : Value) (xs : List Wr) (w0 w : World) (P : DoPre C w0 w a S t va vd vm) (hL : WrV lDw w0 Lv xs) (hxs : xs.length ≤ 100) (hn : -9223372036854775808 ≤ n ∧ n ≤ 9223372036854775807) :
    Calls Tryd.prog 10 #[.pointer (some a), rtV t va vd vm, doV 1 n th rr Lv] w (DoesP C w0 w a S va vd vm t) := by
  obtain ⟨mn, hm⟩ : ∃ m, t.marks.length = m := ⟨_, rfl⟩
  obtain ⟨an, han⟩ : ∃ m, t.all.length = m := ⟨_, rfl⟩
  obtain ⟨dn, hdn⟩ : ∃ m, t.dropped.length = m := ⟨_, rfl⟩
  obtain ⟨ln, hln⟩ : ∃ m, xs.length = m := ⟨_, rfl⟩
  obtain ⟨ma, mc, rfl, -, mcm⟩ := P.rt.mks.lenN hm
  obtain ⟨aa, ac, rfl, -, acm⟩ := P.rt.all.lenN han
  obtain ⟨da, dc, rfl, -, dcm⟩ := P.rt.drp.lenN hdn
  obtain ⟨la, lc, rfl, -, lcm⟩ := hL.1.lenform
  rw [hln] at hL ⊢
  have OK := Lib.hid (C.ok P.inv)
  have PP := Lib.hid P
  have XL := Lib.hid (show WrV lDw w0 (.slice la ln lc) xs ∧ xs.length = ln ∧ xs.length ≤ 100 from ⟨hL, hln, hxs⟩)
  have NN := Lib.hid hn
  have LN := Lib.hid (show t.marks.length = mn ∧ t.all.length = an ∧ t.dropped.length = dn from ⟨hm, han, hdn⟩)
  have D0 := Lib.hid (DoW.start (Mt w S) w (rtL t (.slice aa an ac) (.slice da dn dc) (.slice ma mn mc)) rtZ 1 n th rr (.slice la ln lc))
  have lw := low3 w (.cells (rtL t (.slice aa an ac) (.slice da dn dc) (.slice ma mn mc)).toArray 31) (doO 1 n th rr (.slice la ln lc)) (.cells rtZ.toArray 31)
  obtain ⟨W, hW⟩ : ∃ W, W = ((w.alloc (.cells (rtL t (.slice aa an ac) (.slice da dn dc) (.slice ma mn mc)).toArray 31)).alloc (doO 1 n th rr (.slice la ln lc))).alloc (.cells rtZ.toArray 31) := ⟨_, rfl⟩
  rw [← hW] at D0 lw
  unfold rtL rtZ doO at hW
  have HW := Lib.hid hW
  have I0 := Lib.hid (C.step P.inv lw)
  have V0 := Lib.hid (P.rt.below lw)
  have B0 := Lib.hid (P.low.trans (lw.mono P.low.size))
  have ZW := Lib.hid (show w.heap.size + 3 ≤ W.heap.size from D0.out.size)
  have FT := Lib.hid (C.foot P.inv)
  unfold maxLen at mcm acm dcm lcm
  unfold rtV doV
  clear P hL hm han hdn hln hW lw hxs hn
  go_enter Tryd.func10, Tryd.ntmps10
  obtain ⟨cc, hcc⟩ : ∃ x, t.atE n = x := ⟨_, rfl⟩
  obtain ⟨ee, hee⟩ : ∃ x, errV cc = x := ⟨_, rfl⟩
  have GG := Lib.hid (show _ ∧ _ from ⟨hcc, hee⟩)
  clear hcc hee
  go_wp2_with fail
  rw [← HW.out]
  clear HW
  have Z0 := ZW
  have N1 := Lib.hid (show ∀ k, S k → S k ∨ w.heap.size + 3 ≤ k from fun k hk => .inl hk)
  have NB := Lib.hid (show ∀ b, rtB (.slice aa an ac) (.slice da dn dc) (.slice ma mn mc) b → rtB (.slice aa an ac) (.slice da dn dc) (.slice ma mn mc) b ∨ w.heap.size + 3 ≤ b from fun b hb => .inl hb)
  have OF3 := Lib.hid PP.out.off
  refine (C.at_ a S t n _ I0.out (by have := PP.out.len; omega)).mono ?_
  rintro ev w1 ⟨v1, rfl, ho, hs⟩
  have D1 := Lib.hid (D0.out.step hs)
  have I1 := Lib.hid (C.step I0.out hs)
  have V1 := Lib.hid (V0.out.below hs)
  have B1 := Lib.hid (B0.out.trans (hs.mono B0.out.size))
  have Z1 := Lib.hid (Nat.le_trans Z0.out hs.size)
  have O1 := Lib.hid ho
  clear ho
  clear hs
  obtain ⟨m, hm⟩ : ∃ m, (t.atL n).length = m := ⟨_, rfl⟩
  obtain ⟨va, vc, rfl, -, -⟩ := O1.out.lenN hm
  have LM := Lib.hid hm
  have SMX := Lib.hid (show (∀ x ∈ t.atL n, x.2.1.size ≤ 1000) ∧ m ≤ 1000 by
    rw [← hm]
    unfold Tb.atL
    split
    · rw [List.getD]
      cases hq : t.all[(n - 1).toNat]? with
      | none => exact ⟨fun x hx => (by cases hx), Nat.zero_le _⟩
      | some p => have h := PP.out.small p (List.mem_of_getElem? hq); exact ⟨h.2, Nat.le_trans h.1 (by decide)⟩
    · exact ⟨fun x hx => (by cases hx), Nat.zero_le _⟩)
  have MX := Lib.hid SMX.out.2
  have SMX := Lib.hid SMX.out.1
  have SMW := Lib.hid (show SmallW (t.atL n) by
    unfold Tb.atL
    split
    · rw [List.getD]
      cases hq : t.all[(n - 1).toNat]? with
      | none => exact SmallW.nil
      | some p => exact (OK.out.small p (List.mem_of_getElem? hq)).1
    · exact SmallW.nil)
  clear hm
  simp only [GG.out.1, GG.out.2]
  have c1 := D1.out.doo.c1
  go_wp2_with (refine wpList_load_mid rfl 31 (.tmp 4) rfl w.heap.size 0 rfl (rtL t (.slice aa an ac) (.slice da dn dc) (.slice ma mn mc)) _ (rangeOf D1.out.own) Tryd.underlying31 rfl rtInfo ?_)
  refine (rf_at t _ _ _ n w0 _ V1.out OK.out.len NN.out).mono ?_
  rintro ev w2 ⟨u2, rfl, hu, hs⟩
  have D2 := Lib.hid (D1.out.step hs)
  have I2 := Lib.hid (C.step I1.out hs)
  have V2 := Lib.hid (V1.out.below hs)
  have B2 := Lib.hid (B1.out.trans (hs.mono B1.out.size))
  have Z2 := Lib.hid (Nat.le_trans Z1.out hs.size)
  have U2 := Lib.hid (hu.below B2.out)
  have O2 := Lib.hid (O1.out.below hs)
  clear hu
  clear hs
  simp only [GG.out.1, GG.out.2]
  clear c1
  go_wp2_with fail
  refine (same_eq _ _ (t.atL n) _ ⟨O2.out.sv, SMW.out⟩ U2.out).mono ?_
  rintro ev w3 ⟨rfl, hs⟩
  have D3 := Lib.hid (D2.out.step hs)
  have I3 := Lib.hid (C.step I2.out hs)
  have V3 := Lib.hid (V2.out.below hs)
  have B3 := Lib.hid (B2.out.trans (hs.mono B2.out.size))
  have Z3 := Lib.hid (Nat.le_trans Z2.out hs.size)
  have O3 := Lib.hid (O2.out.below hs)
  clear hs
  have fcode := fun w h => code_of cc w h
  rw [GG.out.2] at fcode
  go_wp2_with fail
  refine (fcode _ (Glob.at PP.out.glob B3.out)).mono ?_
  rintro ev w4 ⟨rfl, hs⟩
  have D4 := Lib.hid (D3.out.step hs)
  have I4 := Lib.hid (C.step I3.out hs)
  have V4 := Lib.hid (V3.out.below hs)
  have B4 := Lib.hid (B3.out.trans (hs.mono B3.out.size))
  have Z4 := Lib.hid (Nat.le_trans Z3.out hs.size)
  have OW := Lib.hid (O3.out.below hs)
  clear hs
  have ZB := ZW
  clear O1 O2 O3
  go_wp2
  go_loopg [129] m (fun c i wr => ∃ k : Nat, k + c = m ∧ i = .int .i64 k ∧ OwnS lPw W.heap.size wr (.slice va m vc) (turned addV (t.atL n) k) ∧ Kept (fun k => (Value.slice va m vc).ownBlock = some k) w4 wr)
  case atStart => exact ⟨0, by omega, rfl, by rw [turned_zero]; exact OW.out, Kept.refl _ _⟩
  case round =>
    obtain ⟨k, hk, rfl, hO, hK⟩ := hrel
    have A := Lib.hid (show k + gk = m ∧ Kept (fun k => (Value.slice va m vc).ownBlock = some k) w4 wr from ⟨hk, hK⟩)
    by_cases hlt : k < m
    · obtain ⟨x, hx⟩ : ∃ x, ((t.atL n))[k]? = some x := ⟨_, List.getElem?_eq_getElem (by rw [LM.out]; exact hlt)⟩
      obtain ⟨g, rfl⟩ := hO.addrN (by omega)
      have x1 := addV_cell hO hx
      have xf := hO.free (k * 3 + 1)
      have O2 := Lib.hid (addV_set hO hx)
      have K2 := Lib.hid (Kept.setCellB hK (k * 3 + 1) (.string (x.2.1 ++ ⟨#[120]⟩)))
      have hsz : x.2.1.size ≤ 1000 := SMX.out x (List.mem_of_getElem? hx)
      have j3 : (0 : Int) ≤ (k : Int) := by omega
      have j4 : (k : Int) < (m : Int) := by omega
      have j5 : m ≤ 1000 := MX.out
      clear hx hO hK
      go_wp2
      go_roundg (m - (k + 1))
      case measure => have := A.out.1; omega
      case rel => exact ⟨k + 1, by omega, by go_num, O2.out, K2.out⟩
    · obtain rfl : m = k := by have := A.out.1; omega
      have GB : ∀ k, (Value.slice va m vc).ownBlock = some k → w.heap.size + 3 ≤ k := fun k hk => by have h1 := (OW.out.bounds k hk).1; have h2 := ZB.out; omega
      have DL := Lib.hid (D4.out.keepT hK GB)
      have IL := Lib.hid (C.keep I4.out (hK.wide (fun k _ hk hs => by have h1 := GB k hk; have h2 := FT.out k hs; omega)))
      have VL := Lib.hid (V4.out.keep hK (fun k hk hs => by have h1 := GB k hs; have h2 := PP.out.rt.bounds k hk; omega))
      have BL := Lib.hid (B4.out.trans (hK.below (fun k hk => by have h1 := GB k hk; have h2 := PP.out.low.size; omega) B4.out.size))
      have ZL := Lib.hid (Nat.le_trans Z4.out hK.size)
      clear hO hK
      go_wp2_with (first
        | (refine wpList_load_mid rfl 31 (.tmp 4) rfl w.heap.size 0 rfl (rtL t (.slice aa an ac) (.slice da dn dc) (.slice ma mn mc)) _ (rangeOf DL.out.own) Tryd.underlying31 rfl rtInfo ?_)
        | (refine wpList_store_mid rfl 31 (.tmp 6) (.tmp 141) rfl (w.heap.size + 2) 0 (rtL t (.slice aa an ac) (.slice da dn dc) (.slice ma mn mc)).toArray rfl rfl DL.out.there rtInfo (rtL_one _ _ _ _ _ _ _ _ _ _) ?_
           generalize hz : World.setCells _ _ _ _ = wz
           have F := Lib.hid (does_fin PP.out DL.out rfl IL.out VL.out N1.out NB.out OF3.out hz.symm)
           clear hz))
      exact bodyPost_ret (v := .tuple #[.agg (rtL t (.slice aa an ac) (.slice da dn dc) (.slice ma mn mc)).toArray, .bool true]) (results_cellT rfl _ _ (w.heap.size + 2) _ _ (.bool true) rfl rfl (rangeOf F.out.1) Tryd.underlying31 rfl rtInfo) rfl F.out.2
end Go.Proofs.YtkbfhpgcjljbbaaDoor
