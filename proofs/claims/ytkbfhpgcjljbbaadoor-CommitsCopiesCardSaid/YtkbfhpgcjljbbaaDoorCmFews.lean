/- The laws' own fews over steps (layer 16), by contract; steps that came in. -/
import Derived.Test.YtkbfhpgcjljbbaaDoorCmDoW
import Derived.Test.YtkbfhpgcjljbbaaDoorCmSame
import Derived.Test.YtkbfhpgcjljbbaaDoorCmDoes0t
import Derived.Test.YtkbfhpgcjljbbaaDoorCmDoes0f
import Derived.Test.YtkbfhpgcjljbbaaDoorCmDoes1
import Derived.Test.YtkbfhpgcjljbbaaDoorCmDoes2
import Derived.Test.YtkbfhpgcjljbbaaDoorCmDoes3
import Derived.Test.YtkbfhpgcjljbbaaDoorCmDoes4
import Derived.Test.YtkbfhpgcjljbbaaDoorCmDoes5
import Derived.Test.YtkbfhpgcjljbbaaDoorCmDoes6t
import Derived.Test.YtkbfhpgcjljbbaaDoorCmDoes6f
namespace Go.Proofs.YtkbfhpgcjljbbaaDoor
set_option linter.unusedVariables false
set_option linter.unusedSimpArgs false
open Go.RowKit

set_option maxRecDepth 100000 in
set_option maxHeartbeats 4000000 in
theorem does_7 (C : CmT) (a : Addr) (S : Nat → Prop) (t : Tb) (va vd vm : Value) (n th : Int) (rr : Bool) (Lv : Value) (xs : List Wr) (w0 w : World) (P : DoPre C w0 w a S t va vd vm) (hL : WrV lDw w0 Lv xs) (hxs : xs.length ≤ 100) (hn : -9223372036854775808 ≤ n ∧ n ≤ 9223372036854775807) :
    Calls Tryd.prog 10 #[.pointer (some a), rtV t va vd vm, doV 7 n th rr Lv] w (DoesP C w0 w a S va vd vm (t.trim n)) := by
  obtain ⟨mn, hm⟩ : ∃ m, t.marks.length = m := ⟨_, rfl⟩
  obtain ⟨an, han⟩ : ∃ m, t.all.length = m := ⟨_, rfl⟩
  obtain ⟨dn, hdn⟩ : ∃ m, t.dropped.length = m := ⟨_, rfl⟩
  obtain ⟨ln, hln⟩ : ∃ m, xs.length = m := ⟨_, rfl⟩
  obtain ⟨ma, mc, rfl, -, mcm⟩ := P.rt.mks.lenN hm
  obtain ⟨aa, ac, rfl, -, acm⟩ := P.rt.all.lenN han
  obtain ⟨da, dc, rfl, -, dcm⟩ := P.rt.drp.lenN hdn
  obtain ⟨la, lc, rfl, -, lcm⟩ := hL.1.lenform
  rw [hln] at hL ⊢
  have OK := Lib.hid (C.ok P.inv)
  have PP := Lib.hid P
  have XL := Lib.hid (show WrV lDw w0 (.slice la ln lc) xs ∧ xs.length = ln ∧ xs.length ≤ 100 from ⟨hL, hln, hxs⟩)
  have NN := Lib.hid hn
  have LN := Lib.hid (show t.marks.length = mn ∧ t.all.length = an ∧ t.dropped.length = dn from ⟨hm, han, hdn⟩)
  have D0 := Lib.hid (DoW.start (Mt w S) w (rtL t (.slice aa an ac) (.slice da dn dc) (.slice ma mn mc)) rtZ 7 n th rr (.slice la ln lc))
  have lw := low3 w (.cells (rtL t (.slice aa an ac) (.slice da dn dc) (.slice ma mn mc)).toArray 31) (doO 7 n th rr (.slice la ln lc)) (.cells rtZ.toArray 31)
  obtain ⟨W, hW⟩ : ∃ W, W = ((w.alloc (.cells (rtL t (.slice aa an ac) (.slice da dn dc) (.slice ma mn mc)).toArray 31)).alloc (doO 7 n th rr (.slice la ln lc))).alloc (.cells rtZ.toArray 31) := ⟨_, rfl⟩
  rw [← hW] at D0 lw
  unfold rtL rtZ doO at hW
  have HW := Lib.hid hW
  have I0 := Lib.hid (C.step P.inv lw)
  have V0 := Lib.hid (P.rt.below lw)
  have B0 := Lib.hid (P.low.trans (lw.mono P.low.size))
  have ZW := Lib.hid (show w.heap.size + 3 ≤ W.heap.size from D0.out.size)
  have FT := Lib.hid (C.foot P.inv)
  unfold maxLen at mcm acm dcm lcm
  unfold rtV doV
  clear P hL hm han hdn hln hW lw hxs hn
  go_enter Tryd.func10, Tryd.ntmps10
  obtain ⟨nn, hnn⟩ : ∃ x, (t.trimN n : Int) = x := ⟨_, rfl⟩
  obtain ⟨t', ht'⟩ : ∃ x, t.trim n = x := ⟨_, rfl⟩
  have GG := Lib.hid (show _ ∧ _ from ⟨hnn, ht'⟩)
  rw [ht']
  clear hnn ht'
  go_wp2_with fail
  rw [← HW.out]
  clear HW
  refine (C.trim a S t n _ I0.out (by have := PP.out.len; omega) NN.out).mono ?_
  rintro ev w1 ⟨S1, rfl, hI, hk, hS⟩
  rw [GG.out.2] at hI
  have D1 := Lib.hid (D0.out.keep hk FT.out)
  have V1 := Lib.hid (V0.out.keep hk.mt PP.out.off)
  have B1 := Lib.hid (mut_step PP.out.S0 B0.out B0.out.size hk hS).1
  have I1 := Lib.hid hI
  have N1 := Lib.hid (show ∀ k, S1 k → S k ∨ w.heap.size + 3 ≤ k from fun k hk => (hS k hk).imp id (fun h => Nat.le_trans ZW.out h))
  have Z1 := Lib.hid (show w.heap.size + 3 ≤ w1.heap.size from Nat.le_trans ZW.out hk.size)
  have OF1 := Lib.hid (show ∀ k, rtB (.slice aa an ac) (.slice da dn dc) (.slice ma mn mc) k → ¬ S1 k from fun k hk hs => (N1.out k hs).elim (PP.out.off k hk) (fun h => by have := PP.out.rt.bounds k hk; omega))
  clear hI hk hS
  simp only [GG.out.1]
  have c1 := D1.out.doo.c1
  go_wp2_with (refine wpList_load_mid rfl 31 (.tmp 4) rfl w.heap.size 0 rfl (rtL t (.slice aa an ac) (.slice da dn dc) (.slice ma mn mc)) _ (rangeOf D1.out.own) Tryd.underlying31 rfl rtInfo ?_)
  refine (rf_trim t _ _ _ n w0 _ V1.out (by have h1 := OK.out.len; have h2 := PP.out.len; omega) (by have h1 := OK.out.low; have h2 := PP.out.len; omega) NN.out).mono ?_
  rintro ev w2 ⟨va', vd', vm', rfl, hr, hnb, hs⟩
  have D2 := Lib.hid (D1.out.step hs)
  have I2 := Lib.hid (C.step I1.out hs)
  have B2 := Lib.hid (B1.out.trans (hs.mono B1.out.size))
  have Z2 := Lib.hid (Nat.le_trans Z1.out hs.size)
  rw [GG.out.2] at hr
  obtain ⟨pa, pc, rfl, -, -⟩ := hr.all.lenN rfl
  obtain ⟨qa, qc, rfl, -, -⟩ := hr.drp.lenN rfl
  obtain ⟨ra, rc, rfl, -, -⟩ := hr.mks.lenN rfl
  obtain ⟨pn, hpn⟩ : ∃ x, t'.all.length = x := ⟨_, rfl⟩
  obtain ⟨qn, hqn⟩ : ∃ x, t'.dropped.length = x := ⟨_, rfl⟩
  obtain ⟨rn, hrn⟩ : ∃ x, t'.marks.length = x := ⟨_, rfl⟩
  rw [hpn, hqn, hrn] at hr hnb ⊢
  clear hpn hqn hrn
  have V2 := Lib.hid hr
  have NB := Lib.hid (show ∀ b, rtB (.slice pa pn pc) (.slice qa qn qc) (.slice ra rn rc) b → rtB (.slice aa an ac) (.slice da dn dc) (.slice ma mn mc) b ∨ w.heap.size + 3 ≤ b from fun b hb => (hnb b hb).imp id (fun h => by have := Z1.out; omega))
  have OF3 := Lib.hid (show ∀ b, rtB (.slice pa pn pc) (.slice qa qn qc) (.slice ra rn rc) b → ¬ S1 b from fun b hb hs => (hnb b hb).elim (fun h => OF1.out b h hs) (fun h => by have := C.foot I1.out b hs; omega))
  clear hr hnb
  clear hs
  simp only [rtV, GG.out.2, GG.out.1]
  go_wp2_with (first
    | (have bq := alloc_below0 w2 (.cells (rtL t' (.slice pa pn pc) (.slice qa qn qc) (.slice ra rn rc)).toArray 31)
       have kq := blk_new w2 (.cells (rtL t' (.slice pa pn pc) (.slice qa qn qc) (.slice ra rn rc)).toArray 31)
       obtain ⟨W3, hW3⟩ : ∃ x, x = w2.alloc (.cells (rtL t' (.slice pa pn pc) (.slice qa qn qc) (.slice ra rn rc)).toArray 31) := ⟨_, rfl⟩
       rw [← hW3] at bq kq
       unfold rtL at hW3
       rw [← hW3]
       have DD := Lib.hid (D2.out.step bq)
       have ID := Lib.hid (C.step I2.out bq)
       have VD := Lib.hid (V2.out.below bq)
       have KD := Lib.hid kq
       have BD := Lib.hid (B2.out.trans (bq.mono B2.out.size))
       have NE := Lib.hid (show w2.heap.size ≠ w.heap.size + 2 by have := Z2.out; omega)
       have R3 := rangeOf KD.out
       clear bq kq hW3
       refine wpList_load_mid rfl 31 (.tmp 46) rfl w2.heap.size 0 rfl (rtL t' (.slice pa pn pc) (.slice qa qn qc) (.slice ra rn rc)) _ (rangeOf KD.out) Tryd.underlying31 rfl rtInfo ?_)
    | (refine wpList_store_mid rfl 31 (.tmp 6) (.tmp 289) rfl (w.heap.size + 2) 0 (rtL t' (.slice pa pn pc) (.slice qa qn qc) (.slice ra rn rc)).toArray rfl rfl DD.out.there rtInfo (rtL_one _ _ _ _ _ _ _ _ _ _) ?_
       generalize hz : World.setCells _ _ _ _ = wz
       have F := Lib.hid (does_fin PP.out DD.out rfl ID.out VD.out N1.out NB.out OF3.out hz.symm)
       clear hz))
  exact bodyPost_ret (v := .tuple #[.agg (rtL t' (.slice pa pn pc) (.slice qa qn qc) (.slice ra rn rc)).toArray, .bool true]) (results_cellT rfl _ _ (w.heap.size + 2) _ _ (.bool true) rfl rfl (rangeOf F.out.1) Tryd.underlying31 rfl rtInfo) rfl F.out.2

set_option linter.unusedVariables false
set_option linter.unusedSimpArgs false
open Go.RowKit

set_option maxRecDepth 100000 in
set_option maxHeartbeats 4000000 in
theorem does_N (C : CmT) (a : Addr) (S : Nat → Prop) (t : Tb) (va vd vm : Value) (verb n th : Int) (rr : Bool) (Lv : Value) (xs : List Wr) (w0 w : World) (P : DoPre C w0 w a S t va vd vm) (hL : WrV lDw w0 Lv xs) (hxs : xs.length ≤ 100) (hn : -9223372036854775808 ≤ n ∧ n ≤ 9223372036854775807) (hv : ∀ k : Int, 0 ≤ k → k ≤ 7 → (verb == k) = false) :
    Calls Tryd.prog 10 #[.pointer (some a), rtV t va vd vm, doV verb n th rr Lv] w (DoesP C w0 w a S va vd vm t) := by
  obtain ⟨mn, hm⟩ : ∃ m, t.marks.length = m := ⟨_, rfl⟩
  obtain ⟨an, han⟩ : ∃ m, t.all.length = m := ⟨_, rfl⟩
  obtain ⟨dn, hdn⟩ : ∃ m, t.dropped.length = m := ⟨_, rfl⟩
  obtain ⟨ln, hln⟩ : ∃ m, xs.length = m := ⟨_, rfl⟩
  obtain ⟨ma, mc, rfl, -, mcm⟩ := P.rt.mks.lenN hm
  obtain ⟨aa, ac, rfl, -, acm⟩ := P.rt.all.lenN han
  obtain ⟨da, dc, rfl, -, dcm⟩ := P.rt.drp.lenN hdn
  obtain ⟨la, lc, rfl, -, lcm⟩ := hL.1.lenform
  rw [hln] at hL ⊢
  have OK := Lib.hid (C.ok P.inv)
  have PP := Lib.hid P
  have XL := Lib.hid (show WrV lDw w0 (.slice la ln lc) xs ∧ xs.length = ln ∧ xs.length ≤ 100 from ⟨hL, hln, hxs⟩)
  have NN := Lib.hid hn
  have LN := Lib.hid (show t.marks.length = mn ∧ t.all.length = an ∧ t.dropped.length = dn from ⟨hm, han, hdn⟩)
  have D0 := Lib.hid (DoW.start (Mt w S) w (rtL t (.slice aa an ac) (.slice da dn dc) (.slice ma mn mc)) rtZ verb n th rr (.slice la ln lc))
  have lw := low3 w (.cells (rtL t (.slice aa an ac) (.slice da dn dc) (.slice ma mn mc)).toArray 31) (doO verb n th rr (.slice la ln lc)) (.cells rtZ.toArray 31)
  obtain ⟨W, hW⟩ : ∃ W, W = ((w.alloc (.cells (rtL t (.slice aa an ac) (.slice da dn dc) (.slice ma mn mc)).toArray 31)).alloc (doO verb n th rr (.slice la ln lc))).alloc (.cells rtZ.toArray 31) := ⟨_, rfl⟩
  rw [← hW] at D0 lw
  unfold rtL rtZ doO at hW
  have HW := Lib.hid hW
  have I0 := Lib.hid (C.step P.inv lw)
  have V0 := Lib.hid (P.rt.below lw)
  have B0 := Lib.hid (P.low.trans (lw.mono P.low.size))
  have ZW := Lib.hid (show w.heap.size + 3 ≤ W.heap.size from D0.out.size)
  have FT := Lib.hid (C.foot P.inv)
  unfold maxLen at mcm acm dcm lcm
  unfold rtV doV
  clear P hL hm han hdn hln hW lw hxs hn
  have v0 := hv 0 (by decide) (by decide)
  have v1 := hv 1 (by decide) (by decide)
  have v2 := hv 2 (by decide) (by decide)
  have v3 := hv 3 (by decide) (by decide)
  have v4 := hv 4 (by decide) (by decide)
  have v5 := hv 5 (by decide) (by decide)
  have v6 := hv 6 (by decide) (by decide)
  have v7 := hv 7 (by decide) (by decide)
  clear hv
  go_enter Tryd.func10, Tryd.ntmps10
  have Z0 := ZW
  have N1 := Lib.hid (show ∀ k, S k → S k ∨ w.heap.size + 3 ≤ k from fun k hk => .inl hk)
  have NB := Lib.hid (show ∀ b, rtB (.slice aa an ac) (.slice da dn dc) (.slice ma mn mc) b → rtB (.slice aa an ac) (.slice da dn dc) (.slice ma mn mc) b ∨ w.heap.size + 3 ≤ b from fun b hb => .inl hb)
  have OF3 := Lib.hid PP.out.off
  go_wp2_with (first
    | (rw [← HW.out]; refine wpList_load_mid rfl 31 (.tmp 4) rfl w.heap.size 0 rfl (rtL t (.slice aa an ac) (.slice da dn dc) (.slice ma mn mc)) _ (rangeOf D0.out.own) Tryd.underlying31 rfl rtInfo ?_)
    | (refine wpList_store_mid rfl 31 (.tmp 6) (.tmp 293) rfl (w.heap.size + 2) 0 (rtL t (.slice aa an ac) (.slice da dn dc) (.slice ma mn mc)).toArray rfl rfl D0.out.there rtInfo (rtL_one _ _ _ _ _ _ _ _ _ _) ?_
       generalize hz : World.setCells _ _ _ _ = wz
       have F := Lib.hid (does_fin PP.out D0.out rfl I0.out V0.out N1.out NB.out OF3.out hz.symm)
       clear hz))
  exact bodyPost_ret (v := .tuple #[.agg (rtL t (.slice aa an ac) (.slice da dn dc) (.slice ma mn mc)).toArray, .bool true]) (results_cellT rfl _ _ (w.heap.size + 2) _ _ (.bool true) rfl rfl (rangeOf F.out.1) Tryd.underlying31 rfl rtInfo) rfl F.out.2

set_option linter.unusedVariables false
set_option linter.unusedSimpArgs false
open Go.RowKit

/-- a step, plain: verb, number, thread, by itself, writes -/
structure DoD where
  verb : Int
  n : Int
  th : Int
  r : Bool
  xs : List Wr
def Tb.step (t : Tb) (d : DoD) : Tb :=
  if d.verb = 0 then t.app (if d.r then (t.all.length : Int) else d.n) d.xs else if d.verb = 2 then t.mark d.th d.n else if d.verb = 4 then t.grab d.th else if d.verb = 5 then t.yield_ d.th
  else if d.verb = 6 then t.adv (if d.r then (t.low : Int) else d.n) else if d.verb = 7 then t.trim d.n else t
/-- a step that came in, as it may be gone through -/
structure DoD.may (d : DoD) : Prop where
  len : d.xs.length ≤ 100
  size : ∀ x ∈ d.xs, x.2.1.size ≤ 1000
  n : -9223372036854775808 ≤ d.n ∧ d.n ≤ 9223372036854775807
theorem step_grow (t : Tb) (d : DoD) : (t.step d).all.length ≤ t.all.length + 1 := by
  unfold Tb.step Tb.app Tb.mark Tb.grab Tb.yield_ Tb.adv Tb.trim
  repeat' split
  all_goals (first | (simp; done) | (show t.all.length ≤ t.all.length + 1; omega))
theorem step_small {t : Tb} {d : DoD} (hd : d.may) (h : ∀ p ∈ t.all, p.length ≤ 100 ∧ ∀ x ∈ p, x.2.1.size ≤ 1000) : ∀ p ∈ (t.step d).all, p.length ≤ 100 ∧ ∀ x ∈ p, x.2.1.size ≤ 1000 := by
  unfold Tb.step Tb.app Tb.mark Tb.grab Tb.yield_ Tb.adv Tb.trim
  repeat' split
  all_goals (first
    | exact h
    | (intro p hp
       rcases List.mem_append.1 hp with hp | hp
       · exact h p hp
       · rw [List.mem_singleton.1 hp]; exact ⟨hd.len, hd.size⟩))
theorem does_any (C : CmT) (a : Addr) (S : Nat → Prop) (t : Tb) (va vd vm : Value) (d : DoD) (Lv : Value) (w0 w : World) (P : DoPre C w0 w a S t va vd vm) (hL : WrV lDw w0 Lv d.xs) (hd : d.may) :
    Calls Tryd.prog 10 #[.pointer (some a), rtV t va vd vm, doV d.verb d.n d.th d.r Lv] w (DoesP C w0 w a S va vd vm (t.step d)) := by
  obtain ⟨verb, n, th, r, xs⟩ := d
  unfold Tb.step
  simp only
  by_cases h0 : verb = 0
  · subst h0
    cases r with
    | true => exact does_0t C a S t va vd vm n th Lv xs w0 w P hL hd.len hd.n hd.size
    | false => exact does_0f C a S t va vd vm n th Lv xs w0 w P hL hd.len hd.n hd.size
  rw [if_neg h0]
  by_cases h2 : verb = 2
  · subst h2; exact does_2 C a S t va vd vm n th r Lv xs w0 w P hL hd.len hd.n
  rw [if_neg h2]
  by_cases h4 : verb = 4
  · subst h4; exact does_4 C a S t va vd vm n th r Lv xs w0 w P hL hd.len hd.n
  rw [if_neg h4]
  by_cases h5 : verb = 5
  · subst h5; exact does_5 C a S t va vd vm n th r Lv xs w0 w P hL hd.len hd.n
  rw [if_neg h5]
  by_cases h6 : verb = 6
  · subst h6
    cases r with
    | true => exact does_6t C a S t va vd vm n th Lv xs w0 w P hL hd.len hd.n
    | false => exact does_6f C a S t va vd vm n th Lv xs w0 w P hL hd.len hd.n
  rw [if_neg h6]
  by_cases h7 : verb = 7
  · subst h7; exact does_7 C a S t va vd vm n th r Lv xs w0 w P hL hd.len hd.n
  rw [if_neg h7]
  by_cases h1 : verb = 1
  · subst h1; exact does_1 C a S t va vd vm n th r Lv xs w0 w P hL hd.len hd.n
  by_cases h3 : verb = 3
  · subst h3; exact does_3 C a S t va vd vm n th r Lv xs w0 w P hL hd.len hd.n
  refine does_N C a S t va vd vm verb n th r Lv xs w0 w P hL hd.len hd.n (fun k hk0 hk7 => ?_)
  rw [beq_eq_false_iff_ne]
  omega

set_option linter.unusedVariables false
set_option linter.unusedSimpArgs false
open Go.RowKit

abbrev DoR := Int × Int × Int × Bool × Sl
def lDo : Lay DoR := ⟨36, 5, fun x => [.int .i64 x.1, .int .i64 x.2.1, .int .i64 x.2.2.1, .bool x.2.2.2.1, x.2.2.2.2.v], fun _ => rfl, fun x u h => by simp at h; rcases h with rfl | rfl | rfl | rfl | rfl <;> rfl⟩
/-- v reads as these steps -/
def DosV (w : World) (v : Value) (ds : List DoD) : Prop := ∃ rs : List DoR, SV lDo w v rs ∧ rs.length = ds.length ∧ ∀ (i : Nat) (r : DoR) (d : DoD), rs[i]? = some r → ds[i]? = some d →
  r.1 = d.verb ∧ r.2.1 = d.n ∧ r.2.2.1 = d.th ∧ r.2.2.2.1 = d.r ∧ WrV lDw w r.2.2.2.2.v d.xs ∧ -9223372036854775808 ≤ d.n ∧ d.n ≤ 9223372036854775807
theorem DosV.below {w w' : World} {v : Value} {ds : List DoD} (h : DosV w v ds) (hb : Below w.heap.size w w') : DosV w' v ds := by
  obtain ⟨rs, h1, h2, h3⟩ := h
  exact ⟨rs, h1.below hb, h2, fun i r d hr hd => by
    obtain ⟨e1, e2, e3, e4, e5, e6⟩ := h3 i r d hr hd
    exact ⟨e1, e2, e3, e4, e5.below hb, e6⟩⟩
theorem DosV.lenform {w : World} {v : Value} {ds : List DoD} (h : DosV w v ds) : ∃ a cap, v = .slice a ds.length cap ∧ ds.length ≤ cap ∧ cap ≤ maxLen := by
  obtain ⟨rs, h1, h2, -⟩ := h
  obtain ⟨a, cap, e, h3, h4⟩ := h1.lenform
  rw [h2] at e h3
  exact ⟨a, cap, e, h3, h4⟩
/-- a step at its place: its cells, and its writes -/
theorem DosV.elem {w : World} {a : Option Addr} {n cap : Nat} {ds : List DoD} (h : DosV w (.slice a n cap) ds) {i : Nat} {d : DoD} (hi : ds[i]? = some d) :
    ∃ b off la lc, a = some ⟨b, off, none⟩ ∧ (w.cell? ⟨b, off + i * 5, none⟩ = some (.int .i64 d.verb) ∧ w.cell? ⟨b, off + i * 5 + 1, none⟩ = some (.int .i64 d.n) ∧ w.cell? ⟨b, off + i * 5 + 2, none⟩ = some (.int .i64 d.th) ∧ w.cell? ⟨b, off + i * 5 + 3, none⟩ = some (.bool d.r) ∧ w.cell? ⟨b, off + i * 5 + 4, none⟩ = some (.slice la d.xs.length lc)) ∧
      WrV lDw w (.slice la d.xs.length lc) d.xs ∧ -9223372036854775808 ≤ d.n ∧ d.n ≤ 9223372036854775807 := by
  obtain ⟨rs, h1, h2, h3⟩ := h
  have hlt := (List.getElem?_eq_some_iff.1 hi).1
  obtain ⟨b, off, rfl⟩ := h1.addr (by omega)
  obtain ⟨⟨v, n', th, r, ⟨la, ln, lc⟩⟩, hr⟩ : ∃ r, rs[i]? = some r := ⟨_, List.getElem?_eq_getElem (by omega)⟩
  obtain ⟨e1, e2, e3, e4, e5, e6⟩ := h3 i _ d hr hi
  simp only at e1 e2 e3 e4
  subst e1 e2 e3 e4
  obtain ⟨a2, c2, e, -, -⟩ := e5.1.lenform
  obtain ⟨rfl, rfl, rfl⟩ : la = a2 ∧ ln = d.xs.length ∧ lc = c2 := by simpa [Sl.v] using e
  refine ⟨b, off, la, lc, rfl, ⟨?_, ?_, ?_, ?_, ?_⟩, e5, e6⟩
  · have := h1.cellAt hr (j := 0) rfl; simpa [lDo] using this
  · have := h1.cellAt hr (j := 1) rfl; simpa [lDo] using this
  · have := h1.cellAt hr (j := 2) rfl; simpa [lDo] using this
  · have := h1.cellAt hr (j := 3) rfl; simpa [lDo] using this
  · have := h1.cellAt hr (j := 4) rfl; simpa [lDo, Sl.v] using this
def fewsB (ds : List DoD) : Bool := ds.all (fun d => fewW d.xs) && decide (ds.length ≤ 60)
theorem fewsB_at {ds : List DoD} (h : fewsB ds = true) {d : DoD} (hd : d ∈ ds) (hn : -9223372036854775808 ≤ d.n ∧ d.n ≤ 9223372036854775807) : d.may := by
  unfold fewsB at h
  rw [Bool.and_eq_true, List.all_eq_true] at h
  have h1 := h.1 d hd
  exact ⟨by have := fewW_len h1; omega, fun x hx => (fewW_size h1 x hx).2, hn⟩
theorem fewsB_len {ds : List DoD} (h : fewsB ds = true) : ds.length ≤ 60 := by
  unfold fewsB at h
  rw [Bool.and_eq_true, decide_eq_true_eq] at h
  exact h.2
set_option maxRecDepth 100000 in
set_option maxHeartbeats 4000000 in
theorem fews_any (v : Value) (ds : List DoD) (w : World) (hv : DosV w v ds) : Calls Tryd.prog 6 #[v] w fun ev w' => ev = .returned (.bool (fewsB ds)) ∧ Below w.heap.size w w' := by
  obtain ⟨va, vc, rfl, vlc, vcm⟩ := hv.lenform
  obtain ⟨m, hm⟩ : ∃ m, ds.length = m := ⟨_, rfl⟩
  rw [hm] at hv vlc ⊢
  have V := Lib.hid hv
  have LN := Lib.hid hm
  unfold maxLen at vcm
  clear hv hm
  go_enter Tryd.func6, Tryd.ntmps6
  go_wp2
  go_loopg [7] m (fun c i wr => ∃ k : Nat, k + c = m ∧ i = .int .i64 k ∧ (ds.take k).all (fun d => fewW d.xs) = true ∧ Below w.heap.size w wr)
  case atStart => exact ⟨0, by omega, rfl, rfl, Below.refl _ _⟩
  case round =>
    obtain ⟨k, hk, rfl, hA, hB⟩ := hrel
    have A := Lib.hid (show k + gk = m ∧ (ds.take k).all (fun d => fewW d.xs) = true ∧ Below w.heap.size w wr from ⟨hk, hA, hB⟩)
    clear hA
    by_cases hlt : k < m
    · obtain ⟨d, hd⟩ : ∃ d, ds[k]? = some d := ⟨_, List.getElem?_eq_getElem (by rw [LN.out]; exact hlt)⟩
      obtain ⟨b, off, la, lc, rfl, ⟨x0, x1, x2, x3, x4⟩, hw, -⟩ := (V.out.below hB).elem hd
      have b1 := alloc_below0 wr (doO d.verb d.n d.th d.r (.slice la d.xs.length lc))
      have W1 := Lib.hid (hw.below b1)
      have B1 := Lib.hid (hB.trans (b1.mono hB.size))
      have D1 := DoAt.new d.verb d.n d.th d.r (.slice la d.xs.length lc) wr
      have c4 := D1.c4
      have HD := Lib.hid hd
      unfold doO at b1 W1 B1 D1 c4
      have j3 : (0 : Int) ≤ (k : Int) := by omega
      have j4 : (k : Int) < (m : Int) := by omega
      clear hd hw hB b1 D1
      go_wp2_with fail
      refine (wfew_any _ d.xs _ W1.out).mono ?_
      rintro ev w2 ⟨rfl, hs⟩
      have B2 := Lib.hid (B1.out.trans (hs.mono B1.out.size))
      clear hs x0 x1 x2 x3 x4 c4
      cases hf : fewW d.xs with
      | false =>
        have G := Lib.hid (show fewsB ds = false by
          cases h : fewsB ds with
          | false => rfl
          | true =>
            unfold fewsB at h
            rw [Bool.and_eq_true, List.all_eq_true] at h
            have := h.1 d (List.mem_of_getElem? HD.out)
            rw [hf] at this
            exact this.symm)
        clear hf
        go_wp2
        go_ret
        exact ⟨by rw [G.out]; rfl, B2.out⟩
      | true =>
        have T := Lib.hid (show (ds.take (k + 1)).all (fun d => fewW d.xs) = true by
          obtain ⟨hk', e⟩ := List.getElem?_eq_some_iff.1 HD.out
          rw [List.take_succ_eq_append_getElem hk', e, List.all_append, A.out.2.1]
          simp [hf])
        clear hf
        have j5 : m ≤ 9223372036854775807 := by omega
        go_wp2
        go_roundg (m - (k + 1))
        case measure => have := A.out.1; omega
        case rel => exact ⟨k + 1, by omega, by go_num, T.out, B2.out⟩
    · obtain rfl : m = k := by have := A.out.1; omega
      have G := Lib.hid (show fewsB ds = decide (m ≤ 60) by
        unfold fewsB
        have h := A.out.2.1
        rw [List.take_of_length_le (Nat.le_of_eq LN.out)] at h
        rw [h, LN.out]; rfl)
      have BZ := Lib.hid hB
      clear hB
      by_cases h60 : m ≤ 60
      · go_wp2
        go_ret
        exact ⟨by rw [G.out, decide_eq_true h60]; first | rfl | (simp; omega), BZ.out⟩
      · go_wp2
        go_ret
        exact ⟨by rw [G.out, decide_eq_false (show ¬ m ≤ 60 by omega)]; first | rfl | (simp; omega), BZ.out⟩
end Go.Proofs.YtkbfhpgcjljbbaaDoor
