/- The document's own table (layer 16): Count, Mark and Append, by contract. -/
import Derived.Test.YtkbfhpgcjljbbaaDoorCmRt1
namespace Go.Proofs.YtkbfhpgcjljbbaaDoor
set_option linter.unusedVariables false
set_option linter.unusedSimpArgs false
open Go.RowKit

theorem int_cell {base : Nat} {w : World} {b n c : Nat} {xs : List Int} (h : OwnS lInt base w (.slice (some ⟨b, 0, none⟩) n c) xs) {i : Nat} {x : Int} (hi : xs[i]? = some x) : w.cell? ⟨b, i, none⟩ = some (.int .i64 x) := by
  have := h.sv.cellAt hi (j := 0) (u := .int .i64 x) rfl; simpa [lInt] using this
theorem bool_cell {base : Nat} {w : World} {b n c : Nat} {xs : List Bool} (h : OwnS lBool base w (.slice (some ⟨b, 0, none⟩) n c) xs) {i : Nat} {x : Bool} (hi : xs[i]? = some x) : w.cell? ⟨b, i, none⟩ = some (.bool x) := by
  have := h.sv.cellAt hi (j := 0) (u := .bool x) rfl; simpa [lBool] using this
theorem all_cell {w0 w : World} {b n c : Nat} {ps : List (List Wr)} (h : AllO w0 w (.slice (some ⟨b, 0, none⟩) n c) ps) {i : Nat} {p : List Wr} (hi : ps[i]? = some p) :
    ∃ aa cc, w.cell? ⟨b, i, none⟩ = some (.slice aa p.length cc) ∧ WrV lDw w0 (.slice aa p.length cc) p := by
  obtain ⟨ss, h1, h2, h3⟩ := h
  have hlt := (List.getElem?_eq_some_iff.1 hi).1
  obtain ⟨⟨aa, m, cc⟩, hs⟩ : ∃ s, ss[i]? = some s := ⟨_, List.getElem?_eq_getElem (by omega)⟩
  have hw := h3 i _ p hs hi
  obtain ⟨a2, c2, e, -, -⟩ := hw.1.lenform
  obtain ⟨rfl, rfl, rfl⟩ : aa = a2 ∧ m = p.length ∧ cc = c2 := by simpa [Sl.v] using e
  have hc := h1.sv.cellAt hs (j := 0) (u := Sl.v (aa, p.length, cc)) rfl
  exact ⟨aa, cc, by simpa [lDs, Sl.v] using hc, hw⟩
theorem AllO.addrN {w0 w : World} {a : Option Addr} {n cap : Nat} {ps : List (List Wr)} (h : AllO w0 w (.slice a n cap) ps) (hn : ¬ n = 0) : ∃ g, a = some ⟨g, 0, none⟩ := by
  obtain ⟨ss, h1, h2, h3⟩ := h
  exact h1.addrN hn
set_option maxRecDepth 100000 in
set_option maxHeartbeats 4000000 in
theorem rf_marked (t : Tb) (va vd vm : Value) (k : Int) (w0 w : World) (h : RtV w0 w t va vd vm) :
    Calls Tryd.prog 27 #[rtV t va vd vm, .int .i64 k] w fun ev w' => ev = .returned (.tuple #[.int .i64 (t.marked k), .int .i64 (t.hasE k)]) ∧ Below w.heap.size w w' := by
  obtain ⟨mn, hm⟩ : ∃ m, t.marks.length = m := ⟨_, rfl⟩
  obtain ⟨an, han⟩ : ∃ m, t.all.length = m := ⟨_, rfl⟩
  obtain ⟨dn, hdn⟩ : ∃ m, t.dropped.length = m := ⟨_, rfl⟩
  obtain ⟨ma, mc, rfl, -, mcm⟩ := h.mks.lenN hm
  obtain ⟨aa, ac, rfl, -, acm⟩ := h.all.lenN han
  obtain ⟨da, dc, rfl, -, dcm⟩ := h.drp.lenN hdn
  have V := Lib.hid h
  have LN := Lib.hid (show t.marks.length = mn ∧ t.all.length = an ∧ t.dropped.length = dn from ⟨hm, han, hdn⟩)
  have b0 := alloc_below0 w (rtO t (.slice aa an ac) (.slice da dn dc) (.slice ma mn mc))
  have V1 := Lib.hid (V.out.below b0)
  have B0 := Lib.hid b0
  have K0 := Lib.hid (blk_new w (rtO t (.slice aa an ac) (.slice da dn dc) (.slice ma mn mc)))
  unfold rtO at b0 V1 B0 K0
  unfold maxLen at mcm acm dcm
  unfold rtV
  clear h hm han hdn b0
  go_enter Tryd.func27, Tryd.ntmps27
  go_wp2_with fail
  refine (rf_is t _ _ _ k w0 _ V1.out).mono ?_
  rintro ev w1 ⟨rfl, hs⟩
  have B1 := Lib.hid (B0.out.trans (hs.mono B0.out.size))
  have V2 := Lib.hid (V1.out.below hs)
  have K1 := Lib.hid (blk_step K0.out hs)
  clear hs
  cases hh : t.has k with
  | false =>
    have E := Lib.hid (show t.marked k = -1 ∧ t.hasE k = 1 by unfold Tb.marked Tb.hasE; rw [hh]; exact ⟨rfl, rfl⟩)
    clear hh
    go_wp2
    go_ret2
    exact ⟨by rw [E.out.1, E.out.2]; rfl, B1.out⟩
  | true =>
    have HH := hh
    unfold Tb.has at HH
    rw [LN.out.1] at HH
    simp only [Bool.and_eq_true, decide_eq_true_eq] at HH
    obtain ⟨kn, rfl⟩ : ∃ kn : Nat, k = kn := ⟨k.toNat, by omega⟩
    obtain ⟨h1, h2⟩ := HH
    obtain ⟨x, hx⟩ : ∃ x, t.marks[kn]? = some x := ⟨_, List.getElem?_eq_getElem (by rw [LN.out.1]; omega)⟩
    have E := Lib.hid (show t.marked kn = x ∧ t.hasE kn = 0 by unfold Tb.marked Tb.hasE; rw [hh]; exact ⟨by simp [List.getD, hx], rfl⟩)
    obtain ⟨g, rfl⟩ := V2.out.mks.addrN (by omega)
    have x0 := int_cell V2.out.mks hx
    have c4 := blk_cell K1.out 4
    clear hh hx
    go_wp2
    go_ret2
    exact ⟨by rw [E.out.1, E.out.2]; rfl, B1.out⟩
set_option maxRecDepth 100000 in
set_option maxHeartbeats 4000000 in
theorem rf_at (t : Tb) (va vd vm : Value) (k : Int) (w0 w : World) (h : RtV w0 w t va vd vm) (hok : t.dropped.length = t.all.length) (hk : -9223372036854775808 ≤ k ∧ k ≤ 9223372036854775807) :
    Calls Tryd.prog 22 #[rtV t va vd vm, .int .i64 k] w fun ev w' => ∃ v', ev = .returned (.tuple #[v', .int .i64 (t.atE k)]) ∧ WrV lDw w0 v' (t.atL k) ∧ Below w.heap.size w w' := by
  obtain ⟨mn, hm⟩ : ∃ m, t.marks.length = m := ⟨_, rfl⟩
  obtain ⟨an, han⟩ : ∃ m, t.all.length = m := ⟨_, rfl⟩
  obtain ⟨dn, hdn⟩ : ∃ m, t.dropped.length = m := ⟨_, rfl⟩
  obtain ⟨ma, mc, rfl, -, mcm⟩ := h.mks.lenN hm
  obtain ⟨aa, ac, rfl, -, acm⟩ := h.all.lenN han
  obtain ⟨da, dc, rfl, -, dcm⟩ := h.drp.lenN hdn
  have V := Lib.hid h
  have LN := Lib.hid (show t.marks.length = mn ∧ t.all.length = an ∧ t.dropped.length = dn from ⟨hm, han, hdn⟩)
  have b0 := alloc_below0 w (rtO t (.slice aa an ac) (.slice da dn dc) (.slice ma mn mc))
  have V1 := Lib.hid (V.out.below b0)
  have B0 := Lib.hid b0
  have K0 := Lib.hid (blk_new w (rtO t (.slice aa an ac) (.slice da dn dc) (.slice ma mn mc)))
  unfold rtO at b0 V1 B0 K0
  unfold maxLen at mcm acm dcm
  unfold rtV
  clear h hm han hdn b0
  have OK := Lib.hid (show dn = an by rw [← LN.out.2.2, ← LN.out.2.1]; exact hok)
  clear hok
  by_cases h1 : k < 1
  · have E := Lib.hid (show t.atE k = 1 ∧ t.atL k = [] by
      have e : t.atE k = 1 := by unfold Tb.atE; rw [if_pos (.inl h1)]
      unfold Tb.atL; rw [e]; exact ⟨rfl, rfl⟩)
    go_enter Tryd.func22, Tryd.ntmps22
    go_wp2
    go_ret2
    exact ⟨_, by rw [E.out.1]; rfl, by rw [E.out.2]; exact WrV.nil _ _, B0.out⟩
  · by_cases h2 : (an : Int) < k
    · have E := Lib.hid (show t.atE k = 1 ∧ t.atL k = [] by
        have e : t.atE k = 1 := by unfold Tb.atE; rw [LN.out.2.1, if_pos (.inr h2)]
        unfold Tb.atL; rw [e]; exact ⟨rfl, rfl⟩)
      go_enter Tryd.func22, Tryd.ntmps22
      go_wp2
      go_ret2
      exact ⟨_, by rw [E.out.1]; rfl, by rw [E.out.2]; exact WrV.nil _ _, B0.out⟩
    · obtain ⟨kn, rfl⟩ : ∃ kn : Nat, k = (kn : Int) + 1 := ⟨(k - 1).toNat, by omega⟩
      obtain ⟨x, hx⟩ : ∃ x, t.dropped[kn]? = some x := ⟨_, List.getElem?_eq_getElem (by rw [LN.out.2.2, OK.out]; omega)⟩
      obtain ⟨p, hp⟩ : ∃ p, t.all[kn]? = some p := ⟨_, List.getElem?_eq_getElem (by rw [LN.out.2.1]; omega)⟩
      obtain ⟨g, rfl⟩ := V1.out.drp.addrN (by have := OK.out; omega)
      obtain ⟨g2, rfl⟩ := V1.out.all.addrN (by omega)
      have x0 := bool_cell V1.out.drp hx
      obtain ⟨aa, cc, y0, hw⟩ := all_cell V1.out.all hp
      have HWr := Lib.hid hw
      have i1 : IntKind.i64.wrap ((kn : Int) + 1 - 1) = (kn : Int) := by rw [show (kn : Int) + 1 - 1 = (kn : Int) by omega]; exact Go.IntWalk.i64_in _ (by omega)
      have i2 : (0 : Int) ≤ (kn : Int) := by omega
      have i3 : (kn : Int) < (an : Int) := by omega
      have i4 : (kn : Int) < (dn : Int) := by have := OK.out; omega
      have e1 : t.atE ((kn : Int) + 1) = if x then 6 else 0 := by
        unfold Tb.atE
        rw [LN.out.2.1, if_neg (by omega), show ((kn : Int) + 1 - 1).toNat = kn by omega, List.getD, hx]
        cases x <;> rfl
      cases x with
      | true =>
        have E := Lib.hid (show t.atE ((kn : Int) + 1) = 6 ∧ t.atL ((kn : Int) + 1) = [] from ⟨e1, by unfold Tb.atL; rw [e1]; rfl⟩)
        clear hx hp hw e1
        go_enter Tryd.func22, Tryd.ntmps22
        go_wp2
        go_ret2
        exact ⟨_, by rw [E.out.1]; rfl, by rw [E.out.2]; exact WrV.nil _ _, B0.out⟩
      | false =>
        have E := Lib.hid (show t.atE ((kn : Int) + 1) = 0 ∧ t.atL ((kn : Int) + 1) = p from ⟨e1, by unfold Tb.atL; rw [e1, show ((kn : Int) + 1 - 1).toNat = kn by omega, List.getD, hp]; rfl⟩)
        clear hx hp hw e1
        go_enter Tryd.func22, Tryd.ntmps22
        go_wp2
        go_ret2
        exact ⟨_, by rw [E.out.1]; rfl, by rw [E.out.2]; exact HWr.out, B0.out⟩

set_option linter.unusedVariables false
set_option linter.unusedSimpArgs false
open Go.RowKit

theorem countB_append : ∀ a b : List Bool, Tb.countB (a ++ b) = Tb.countB a + Tb.countB b
  | [], _ => by simp [Tb.countB]
  | x :: a, b => by simp [Tb.countB, countB_append a b]; omega
theorem countB_le : ∀ a : List Bool, Tb.countB a ≤ a.length
  | [] => by simp [Tb.countB]
  | x :: a => by have := countB_le a; cases x <;> simp [Tb.countB] <;> omega
theorem take_at2 {α : Type} {xs : List α} {k : Nat} {x : α} (h : xs[k]? = some x) : xs.take (k + 1) = xs.take k ++ [x] := by
  obtain ⟨hk, e⟩ := List.getElem?_eq_some_iff.1 h
  rw [List.take_succ_eq_append_getElem hk, e]
set_option maxRecDepth 100000 in
set_option maxHeartbeats 4000000 in
theorem rf_count (t : Tb) (va vd vm : Value) (w0 w : World) (h : RtV w0 w t va vd vm) (hlen : t.dropped.length ≤ 10000) :
    Calls Tryd.prog 36 #[rtV t va vd vm] w fun ev w' => ev = .returned (.int .i64 (t.count : Int)) ∧ Below w.heap.size w w' := by
  obtain ⟨mn, hm⟩ : ∃ m, t.marks.length = m := ⟨_, rfl⟩
  obtain ⟨an, han⟩ : ∃ m, t.all.length = m := ⟨_, rfl⟩
  obtain ⟨dn, hdn⟩ : ∃ m, t.dropped.length = m := ⟨_, rfl⟩
  obtain ⟨ma, mc, rfl, -, mcm⟩ := h.mks.lenN hm
  obtain ⟨aa, ac, rfl, -, acm⟩ := h.all.lenN han
  obtain ⟨da, dc, rfl, -, dcm⟩ := h.drp.lenN hdn
  have V := Lib.hid h
  have LN := Lib.hid (show t.marks.length = mn ∧ t.all.length = an ∧ t.dropped.length = dn from ⟨hm, han, hdn⟩)
  have b0 := alloc_below0 w (rtO t (.slice aa an ac) (.slice da dn dc) (.slice ma mn mc))
  have V1 := Lib.hid (V.out.below b0)
  have B0 := Lib.hid b0
  have K0 := Lib.hid (blk_new w (rtO t (.slice aa an ac) (.slice da dn dc) (.slice ma mn mc)))
  unfold rtO at b0 V1 B0 K0
  unfold maxLen at mcm acm dcm
  unfold rtV
  clear h hm han hdn b0
  have HL := Lib.hid (show dn ≤ 10000 by rw [← LN.out.2.2]; exact hlen)
  obtain ⟨W, hW⟩ : ∃ W, W = w.alloc (rtO t (.slice aa an ac) (.slice da dn dc) (.slice ma mn mc)) := ⟨_, rfl⟩
  unfold rtO at hW
  rw [← hW] at V1 B0 K0
  have HW := Lib.hid hW
  clear hlen hW
  go_enter Tryd.func36, Tryd.ntmps36
  go_wp2
  rw [← HW.out]
  clear HW
  go_loopg [3, 4] dn (fun c s i wr => ∃ k : Nat, k + c = dn ∧ i = .int .i64 k ∧ s = .int .i64 (Tb.countB (t.dropped.take k) : Int) ∧ Below W.heap.size W wr)
  case atStart => exact ⟨0, by omega, rfl, rfl, Below.refl _ _⟩
  case round =>
    obtain ⟨k, hk, rfl, rfl, hB⟩ := hrel
    have A := Lib.hid (show Below W.heap.size W wr ∧ k + gk = dn from ⟨hB, hk⟩)
    have c3 := blk_cell (blk_step K0.out hB) 3
    by_cases hlt : k < dn
    · obtain ⟨x, hx⟩ : ∃ x, t.dropped[k]? = some x := ⟨_, List.getElem?_eq_getElem (by rw [LN.out.2.2]; exact hlt)⟩
      obtain ⟨g, rfl⟩ := V1.out.drp.addrN (by omega)
      have x0 := bool_cell (V1.out.drp.below hB) hx
      have T := Lib.hid (show Tb.countB (t.dropped.take (k + 1)) = Tb.countB (t.dropped.take k) + (if x then 0 else 1) by rw [take_at2 hx, countB_append]; simp [Tb.countB])
      have hle : Tb.countB (t.dropped.take k) ≤ 10000 := by have h1 := countB_le (t.dropped.take k); rw [List.length_take] at h1; have := HL.out; omega
      have j3 : (0 : Int) ≤ (k : Int) := by omega
      have j4 : (k : Int) < (dn : Int) := by omega
      have j5 : dn ≤ 10000 := HL.out
      clear hx hB
      generalize Tb.countB (t.dropped.take k) = s at *
      cases x
      all_goals
        go_wp2
        go_roundg (dn - (k + 1))
        case measure => have := A.out.2; omega
        case rel => exact ⟨k + 1, by omega, by go_num, by rw [T.out]; first | rfl | go_num, A.out.1⟩
    · obtain rfl : dn = k := by have := A.out.2; omega
      have G := Lib.hid (show Tb.countB (t.dropped.take dn) = t.count by rw [List.take_of_length_le (Nat.le_of_eq LN.out.2.2)]; rfl)
      rw [G.out]
      have BZ := Lib.hid (B0.out.trans (hB.mono B0.out.size))
      clear hB
      go_wp2
      go_ret
      exact ⟨rfl, BZ.out⟩
set_option maxRecDepth 100000 in
set_option maxHeartbeats 4000000 in
theorem rf_mark (t : Tb) (va vd vm : Value) (k n : Int) (w0 w : World) (h : RtV w0 w t va vd vm) (hn : -9223372036854775808 ≤ n ∧ n ≤ 9223372036854775807) (hm64 : t.marks.length ≤ 64) :
    Calls Tryd.prog 25 #[rtV t va vd vm, .int .i64 k, .int .i64 n] w fun ev w' => ∃ va' vd' vm', ev = .returned (.tuple #[rtV (t.mark k n) va' vd' vm', .int .i64 (t.hasE k)]) ∧ RtV w0 w' (t.mark k n) va' vd' vm' ∧ (∀ b, rtB va' vd' vm' b → rtB va vd vm b ∨ w.heap.size ≤ b) ∧ Below w.heap.size w w' := by
  obtain ⟨mn, hm⟩ : ∃ m, t.marks.length = m := ⟨_, rfl⟩
  obtain ⟨an, han⟩ : ∃ m, t.all.length = m := ⟨_, rfl⟩
  obtain ⟨dn, hdn⟩ : ∃ m, t.dropped.length = m := ⟨_, rfl⟩
  obtain ⟨ma, mc, rfl, -, mcm⟩ := h.mks.lenN hm
  obtain ⟨aa, ac, rfl, -, acm⟩ := h.all.lenN han
  obtain ⟨da, dc, rfl, -, dcm⟩ := h.drp.lenN hdn
  have V := Lib.hid h
  have LN := Lib.hid (show t.marks.length = mn ∧ t.all.length = an ∧ t.dropped.length = dn from ⟨hm, han, hdn⟩)
  have R0 := Lib.hid (RtW.start w (rtL t (.slice aa an ac) (.slice da dn dc) (.slice ma mn mc)))
  obtain ⟨W, hW⟩ : ∃ W, W = (w.alloc (.cells (rtL t (.slice aa an ac) (.slice da dn dc) (.slice ma mn mc)).toArray 31)).alloc (.cells rtZ.toArray 31) := ⟨_, rfl⟩
  rw [← hW] at R0
  unfold rtL rtZ at hW
  have HW := Lib.hid hW
  have V1 := Lib.hid (V.out.below R0.out.low)
  unfold maxLen at mcm acm dcm
  unfold rtV
  clear h hm han hdn hW
  go_enter Tryd.func25, Tryd.ntmps25
  go_wp2_with (rw [← HW.out]; refine wpList_load_mid rfl 31 (.tmp 3) rfl w.heap.size 0 rfl (rtL t (.slice aa an ac) (.slice da dn dc) (.slice ma mn mc)) _ (rangeOf R0.out.own) Tryd.underlying31 rfl rtInfo ?_)
  refine (rf_is t _ _ _ k w0 _ V1.out).mono ?_
  rintro ev w1 ⟨rfl, hs⟩
  have R1 := Lib.hid (R0.out.step hs)
  have V2 := Lib.hid (V1.out.below hs)
  clear hs
  cases hh : t.has k with
  | false =>
    have E := Lib.hid (show t.mark k n = t ∧ t.hasE k = 1 by unfold Tb.mark Tb.hasE; rw [hh]; exact ⟨rfl, rfl⟩)
    clear hh
    go_wp2_with (first
      | (refine wpList_load_mid rfl 31 (.tmp 3) rfl w.heap.size 0 rfl (rtL t (.slice aa an ac) (.slice da dn dc) (.slice ma mn mc)) _ (rangeOf (R1.out).own) Tryd.underlying31 rfl rtInfo ?_)
      | (refine wpList_store_mid rfl 31 (.tmp 6) (.tmp 13) rfl (w.heap.size + 1) 0 (rtL t (.slice aa an ac) (.slice da dn dc) (.slice ma mn mc)).toArray rfl rfl (R1.out).thereR rtInfo (rtL_one _ _ _ _ _ _ _ _ _ _) ?_
         generalize hwz : World.setCells _ _ _ _ = wz
         have RZ := Lib.hid (show RtW w wz _ (rtL t (.slice aa an ac) (.slice da dn dc) (.slice ma mn mc)) by rw [← hwz]; exact (R1.out).put (n := 6) rfl _ rfl)
         clear hwz))
    exact bodyPost_ret (v := .tuple #[.agg (rtL t (.slice aa an ac) (.slice da dn dc) (.slice ma mn mc)).toArray, .int .i64 1]) (results_cellT rfl _ _ (w.heap.size + 1) _ _ (.int .i64 1) rfl rfl (rangeOf RZ.out.ans) Tryd.underlying31 rfl rtInfo) rfl ⟨_, _, _, by rw [E.out.1, E.out.2]; rfl, by rw [E.out.1]; exact V.out.below RZ.out.low, fun b hb => .inl hb, RZ.out.low⟩
  | true =>
    have HH := hh
    unfold Tb.has at HH
    rw [LN.out.1] at HH
    simp only [Bool.and_eq_true, decide_eq_true_eq] at HH
    obtain ⟨kn, rfl⟩ : ∃ kn : Nat, k = kn := ⟨k.toNat, by omega⟩
    obtain ⟨h1, h2⟩ := HH
    have E := Lib.hid (show t.mark kn n = { t with marks := t.marks.set kn (max n (-1)) } ∧ t.hasE kn = 0 by unfold Tb.mark Tb.hasE; rw [hh]; exact ⟨rfl, rfl⟩)
    obtain ⟨x, hx⟩ : ∃ x, t.marks[kn]? = some x := ⟨_, List.getElem?_eq_getElem (by rw [LN.out.1]; omega)⟩
    have HX := Lib.hid hx
    have be := alloc_below0 w1 (.cells #[] 3)
    have R2 := Lib.hid (R1.out.step be)
    have V3 := Lib.hid (V2.out.below be)
    have OE := Lib.hid (OwnS.lit lInt w1.heap.size w1 w1.heap.size rfl [] (Nat.le_refl _) (by simp [maxLen]))
    have c4 := (show _ = some (Value.slice ma mn mc) from blk_cell R2.out.own 4)
    have BE := Lib.hid be
    have SZ := Lib.hid (show w.heap.size + 2 ≤ w1.heap.size from R1.out.size)
    have LM := Lib.hid (show t.marks.length ≤ 64 from hm64)
    clear hh hx be hm64
    have hmax : ∀ (w : World) (ts : Array TypeId) (t : TypeId), (Builtin.max_ ts t #[.int .i64 n, .int .i64 (-1)]).run Tryd.prog w = .ok (.int .i64 (max n (-1))) w := fun w ts t => by
      rw [run_max_int2]
      congr 2
      by_cases h : (-1 : Int) > n
      · rw [if_pos h]; omega
      · rw [if_neg h]; omega
    have i1 : (0 : Int) ≤ (kn : Int) := by omega
    have i2 : (kn : Int) < (mn : Int) := by omega
    have ine : ¬ mn = 0 := by omega
    go_wp2_with (first
      | (refine wpList_appS lInt 29 Tryd.underlying29 lInt_known (by decide) (by decide) rfl (.tmp 14) (.tmp 16) rfl w1.heap.size rfl rfl OE.out V3.out.mks.sv (by have := LM.out; simp; omega) BE.out.size ?_
         intro v4 w4 ho4 hg4
         rw [List.nil_append] at ho4
         have B4 := Lib.hid (show Below w1.heap.size w1 w4 from BE.out.trans ((Kept.of_grown hg4).below (fun j hj => (OE.out.bounds j hj.symm).1) BE.out.size))
         obtain ⟨va4, vc4, rfl, -, -⟩ := ho4.lenN LN.out.1
         obtain ⟨g, rfl⟩ := ho4.addrN ine
         have GB := Lib.hid (show w1.heap.size ≤ g ∧ g < w4.heap.size from ho4.bounds g rfl)
         have x0 := int_cell ho4 HX.out
         have xf := ho4.free kn
         have O5 := Lib.hid (show OwnS lInt w1.heap.size (w4.setCell ⟨g, kn, none⟩ (.int .i64 (max n (-1)))) (.slice (some ⟨g, 0, none⟩) mn vc4) (t.marks.set kn (max n (-1))) by
           have h := ho4.set HX.out (y := max n (-1)) (j := 0) (u := .int .i64 (max n (-1))) (by decide) rfl
           simpa [lInt] using h)
         have B5 := Lib.hid (below_set B4.out GB.out.1 kn (.int .i64 (max n (-1))))
         have R5 := Lib.hid (R1.out.step B5.out)
         have c5 := (show _ = some (Value.slice ma mn mc) from blk_cell R5.out.own 4)
         have f5 := blk_free R5.out.own 4
         clear ho4 hg4 c4)
      | (refine wpList_load_mid rfl 31 (.tmp 3) rfl w.heap.size 0 rfl (rtL t (.slice aa an ac) (.slice da dn dc) (.slice (some ⟨g, 0, none⟩) mn vc4)) _ (rangeOf ((R5.out.field 4 (.slice (some ⟨g, 0, none⟩) mn vc4))).own) Tryd.underlying31 rfl rtInfo ?_)
      | (refine wpList_store_mid rfl 31 (.tmp 6) (.tmp 25) rfl (w.heap.size + 1) 0 (rtL t (.slice aa an ac) (.slice da dn dc) (.slice (some ⟨g, 0, none⟩) mn vc4)).toArray rfl rfl ((R5.out.field 4 (.slice (some ⟨g, 0, none⟩) mn vc4))).thereR rtInfo (rtL_one _ _ _ _ _ _ _ _ _ _) ?_
         generalize hwz : World.setCells _ _ _ _ = wz
         have RZ := Lib.hid (show RtW w wz _ (rtL t (.slice aa an ac) (.slice da dn dc) (.slice (some ⟨g, 0, none⟩) mn vc4)) by rw [← hwz]; exact ((R5.out.field 4 (.slice (some ⟨g, 0, none⟩) mn vc4))).put (n := 6) rfl _ rfl)
         have KZ := Lib.hid (show Kept (rtK w.heap.size) (w4.setCell ⟨g, kn, none⟩ (.int .i64 (max n (-1)))) wz by rw [← hwz]; exact (keptF _ _ _ _).trans (keptP _ _ _))
         clear hwz))
    exact bodyPost_ret (v := .tuple #[.agg (rtL t (.slice aa an ac) (.slice da dn dc) (.slice (some ⟨g, 0, none⟩) mn vc4)).toArray, .int .i64 0]) (results_cellT rfl _ _ (w.heap.size + 1) _ _ (.int .i64 0) rfl rfl (rangeOf RZ.out.ans) Tryd.underlying31 rfl rtInfo) rfl ⟨_, _, _, by rw [E.out.1, E.out.2]; rfl, by
      rw [E.out.1]
      have hv := V.out.below RZ.out.low
      exact ⟨hv.all, hv.drp, (O5.out.mono (Nat.zero_le _)).kept KZ.out (fun a m c hv hs => by
        obtain ⟨e, -, -⟩ := Value.slice.inj hv
        obtain rfl := Option.some.inj e
        have h1 := GB.out.1
        have h2 := SZ.out
        rcases hs with hs | hs <;> simp at hs <;> omega)⟩, fun b hb => by
      rcases hb with hb | hb | hb
      · exact .inl (.inl hb)
      · exact .inl (.inr (.inl hb))
      · obtain rfl : g = b := by simpa [Value.ownBlock] using hb
        exact .inr (by have h1 := GB.out.1; have h2 := SZ.out; omega), RZ.out.low⟩
end Go.Proofs.YtkbfhpgcjljbbaaDoor
