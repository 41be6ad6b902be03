/- The document's own table (layer 16): Append, by contract. -/
import Derived.Test.YtkbfhpgcjljbbaaDoorCmRt3
namespace Go.Proofs.YtkbfhpgcjljbbaaDoor
set_option linter.unusedVariables false
set_option linter.unusedSimpArgs false
open Go.RowKit

theorem Tb.app_no {t : Tb} {last : Int} {xs : List Wr} {e : Int} (hb : t.appB last xs = false) (he : t.appE last xs = e) : t.app last xs = t ∧ t.appB last xs = false ∧ t.appE last xs = e := ⟨by unfold Tb.app; rw [hb]; rfl, hb, he⟩
theorem AllO.more {w0 w : World} {ss : List Sl} {ps : List (List Wr)} {v : Value} {s : Sl} {p : List Wr} (h2 : ss.length = ps.length) (h3 : ∀ (i : Nat) (s : Sl) (p : List Wr), ss[i]? = some s → ps[i]? = some p → WrV lDw w0 s.v p)
    (ho : OwnS lDs 0 w v (ss ++ [s])) (hp : WrV lDw w0 s.v p) : AllO w0 w v (ps ++ [p]) := by
  refine ⟨ss ++ [s], ho, by simp [h2], fun i s' p' hs hp' => ?_⟩
  by_cases hi : i < ss.length
  · rw [List.getElem?_append_left hi] at hs
    rw [List.getElem?_append_left (by omega)] at hp'
    exact h3 i s' p' hs hp'
  · rw [List.getElem?_append_right (by omega)] at hs
    rw [List.getElem?_append_right (by omega)] at hp'
    rw [h2] at hs
    match hq : i - ps.length, hs, hp' with
    | 0, hs, hp' => cases Option.some.inj hs; cases Option.some.inj hp'; exact hp
    | k + 1, hs, hp' => cases hs
set_option maxRecDepth 100000 in
set_option maxHeartbeats 4000000 in
theorem rf_append (t : Tb) (va vd vm : Value) (last : Int) (lv : Value) (xs : List Wr) (w0 w : World) (h : RtV w0 w t va vd vm) (hB0 : Below w0.heap.size w0 w) (hx : WrV lDw w0 lv xs) (hlen : t.all.length ≤ 1000) (hok : t.dropped.length = t.all.length) :
    Calls Tryd.prog 20 #[rtV t va vd vm, .int .i64 last, lv] w fun ev w' => ∃ va' vd' vm', ev = .returned (.tuple #[rtV (t.app last xs) va' vd' vm', .bool (t.appB last xs), .int .i64 (t.appE last xs)]) ∧ RtV w0 w' (t.app last xs) va' vd' vm' ∧ (∀ b, rtB va' vd' vm' b → rtB va vd vm b ∨ w.heap.size ≤ b) ∧ Below w.heap.size w w' := by
  obtain ⟨mn, hm⟩ : ∃ m, t.marks.length = m := ⟨_, rfl⟩
  obtain ⟨an, han⟩ : ∃ m, t.all.length = m := ⟨_, rfl⟩
  obtain ⟨dn, hdn⟩ : ∃ m, t.dropped.length = m := ⟨_, rfl⟩
  obtain ⟨ma, mc, rfl, -, mcm⟩ := h.mks.lenN hm
  obtain ⟨aa, ac, rfl, -, acm⟩ := h.all.lenN han
  obtain ⟨da, dc, rfl, -, dcm⟩ := h.drp.lenN hdn
  obtain ⟨la, lc, rfl, -, lcm⟩ := hx.1.lenform
  obtain ⟨n, hn⟩ : ∃ n, xs.length = n := ⟨_, rfl⟩
  rw [hn] at hx ⊢
  have X := Lib.hid hx
  have LX := Lib.hid (show xs.length = n ∧ an ≤ 1000 ∧ dn = an from ⟨hn, by rw [← han]; exact hlen, by rw [← hdn, ← han]; exact hok⟩)
  have XB := Lib.hid hB0
  have V := Lib.hid h
  have LN := Lib.hid (show t.marks.length = mn ∧ t.all.length = an ∧ t.dropped.length = dn from ⟨hm, han, hdn⟩)
  have R0 := Lib.hid (RtW.start w (rtL t (.slice aa an ac) (.slice da dn dc) (.slice ma mn mc)))
  obtain ⟨W, hW⟩ : ∃ W, W = (w.alloc (.cells (rtL t (.slice aa an ac) (.slice da dn dc) (.slice ma mn mc)).toArray 31)).alloc (.cells rtZ.toArray 31) := ⟨_, rfl⟩
  rw [← hW] at R0
  unfold rtL rtZ at hW
  have HW := Lib.hid hW
  have V1 := Lib.hid (V.out.below R0.out.low)
  unfold maxLen at mcm acm dcm
  unfold rtV
  unfold maxLen at lcm
  clear h hm han hdn hW hx hn hB0 hlen hok
  by_cases h0 : n = 0
  · have E := Lib.hid (Tb.app_no (t := t) (last := last) (xs := xs) (e := 1) (by unfold Tb.appB Tb.may; rw [List.eq_nil_of_length_eq_zero (LX.out.1.trans h0)]; rfl) (by unfold Tb.appE Tb.may; rw [List.eq_nil_of_length_eq_zero (LX.out.1.trans h0)]; rfl))
    subst h0
    go_enter Tryd.func20, Tryd.ntmps20
    go_wp2
    exact bodyPost_ret (v := .tuple #[.agg (rtL t (.slice aa an ac) (.slice da dn dc) (.slice ma mn mc)).toArray, .bool false, .int .i64 1]) (results_cellTT rfl _ _ (w.heap.size + 1) _ _ (.bool false) (.int .i64 1) rfl rfl rfl (rangeOf (RtW.both w (rtL t (.slice aa an ac) (.slice da dn dc) (.slice ma mn mc)) (rtL t (.slice aa an ac) (.slice da dn dc) (.slice ma mn mc))).ans) Tryd.underlying31 rfl rtInfo) rfl ⟨_, _, _, by rw [E.out.1, E.out.2.1, E.out.2.2]; rfl, by rw [E.out.1]; exact V.out.below (RtW.both w (rtL t (.slice aa an ac) (.slice da dn dc) (.slice ma mn mc)) (rtL t (.slice aa an ac) (.slice da dn dc) (.slice ma mn mc))).low, fun b hb => .inl hb, (RtW.both w (rtL t (.slice aa an ac) (.slice da dn dc) (.slice ma mn mc)) (rtL t (.slice aa an ac) (.slice da dn dc) (.slice ma mn mc))).low⟩
  · have X1 := Lib.hid (X.out.below (XB.out.trans (R0.out.low.mono XB.out.size)))
    go_enter Tryd.func20, Tryd.ntmps20
    go_wp2_with fail
    rw [← HW.out]
    clear HW
    refine (refRight16_any _ xs _ X1.out).mono ?_
    rintro ev w1 ⟨rfl, hs⟩
    have R1 := Lib.hid (R0.out.step hs)
    have V2 := Lib.hid (V1.out.below hs)
    clear hs
    cases hr : wRight xs with
    | false =>
      have E := Lib.hid (Tb.app_no (t := t) (last := last) (xs := xs) (e := 1) (by unfold Tb.appB Tb.may; rw [hr]; simp) (by unfold Tb.appE Tb.may; rw [hr]; simp))
      clear hr
      go_wp2_with (first
        | (refine wpList_load_mid rfl 31 (.tmp 3) rfl w.heap.size 0 rfl (rtL t (.slice aa an ac) (.slice da dn dc) (.slice ma mn mc)) _ (rangeOf (R1.out).own) Tryd.underlying31 rfl rtInfo ?_)
        | (refine wpList_store_mid rfl 31 (.tmp 6) (.tmp 17) rfl (w.heap.size + 1) 0 (rtL t (.slice aa an ac) (.slice da dn dc) (.slice ma mn mc)).toArray rfl rfl (R1.out).thereR rtInfo (rtL_one _ _ _ _ _ _ _ _ _ _) ?_
           generalize hwz : World.setCells _ _ _ _ = wz
           have RZ := Lib.hid (show RtW w wz _ (rtL t (.slice aa an ac) (.slice da dn dc) (.slice ma mn mc)) by rw [← hwz]; exact (R1.out).put (n := 6) rfl _ rfl)
           clear hwz))
      exact bodyPost_ret (v := .tuple #[.agg (rtL t (.slice aa an ac) (.slice da dn dc) (.slice ma mn mc)).toArray, .bool false, .int .i64 1]) (results_cellTT rfl _ _ (w.heap.size + 1) _ _ (.bool false) (.int .i64 1) rfl rfl rfl (rangeOf RZ.out.ans) Tryd.underlying31 rfl rtInfo) rfl ⟨_, _, _, by rw [E.out.1, E.out.2.1, E.out.2.2]; rfl, by rw [E.out.1]; exact V.out.below RZ.out.low, fun b hb => .inl hb, RZ.out.low⟩
    | true =>
      have MAY := Lib.hid (show Tb.may xs = true by
        unfold Tb.may
        rw [hr]
        have := LX.out.1
        cases xs with
        | nil => simp at this; omega
        | cons x xs => rfl)
      clear hr
      have c2 := (show _ = some (Value.slice aa an ac) from blk_cell R1.out.own 2)
      by_cases h1 : last = (an : Int)
      · subst h1
        have c0 := (show _ = some (Value.int .i64 t.limit) from blk_cell R1.out.own 0)
        by_cases h2 : (an : Int) = t.limit
        · have E := Lib.hid (Tb.app_no (t := t) (last := (an : Int)) (xs := xs) (e := 5) (by unfold Tb.appB; rw [LN.out.2.1, decide_eq_true h2]; simp) (by unfold Tb.appE; rw [MAY.out, LN.out.2.1, if_neg (by simp), if_neg (by simp), if_pos h2]))
          have i1 : ((an : Int) == t.limit) = true := by simp [h2]
          clear h2
          go_wp2_with (first
            | (refine wpList_load_mid rfl 31 (.tmp 3) rfl w.heap.size 0 rfl (rtL t (.slice aa an ac) (.slice da dn dc) (.slice ma mn mc)) _ (rangeOf (R1.out).own) Tryd.underlying31 rfl rtInfo ?_)
            | (refine wpList_store_mid rfl 31 (.tmp 6) (.tmp 30) rfl (w.heap.size + 1) 0 (rtL t (.slice aa an ac) (.slice da dn dc) (.slice ma mn mc)).toArray rfl rfl (R1.out).thereR rtInfo (rtL_one _ _ _ _ _ _ _ _ _ _) ?_
               generalize hwz : World.setCells _ _ _ _ = wz
               have RZ := Lib.hid (show RtW w wz _ (rtL t (.slice aa an ac) (.slice da dn dc) (.slice ma mn mc)) by rw [← hwz]; exact (R1.out).put (n := 6) rfl _ rfl)
               clear hwz))
          exact bodyPost_ret (v := .tuple #[.agg (rtL t (.slice aa an ac) (.slice da dn dc) (.slice ma mn mc)).toArray, .bool false, .int .i64 5]) (results_cellTT rfl _ _ (w.heap.size + 1) _ _ (.bool false) (.int .i64 5) rfl rfl rfl (rangeOf RZ.out.ans) Tryd.underlying31 rfl rtInfo) rfl ⟨_, _, _, by rw [E.out.1, E.out.2.1, E.out.2.2]; rfl, by rw [E.out.1]; exact V.out.below RZ.out.low, fun b hb => .inl hb, RZ.out.low⟩
        · have E := Lib.hid (show t.app (an : Int) xs = { t with all := t.all ++ [xs], dropped := t.dropped ++ [false] } ∧ t.appB (an : Int) xs = true ∧ t.appE (an : Int) xs = 0 by
            have e : t.appB (an : Int) xs = true := by unfold Tb.appB; rw [MAY.out, LN.out.2.1, decide_eq_true rfl, decide_eq_false h2]; rfl
            exact ⟨by unfold Tb.app; rw [if_pos e], e, by unfold Tb.appE; rw [MAY.out, LN.out.2.1, if_neg (by simp), if_neg (by simp), if_neg h2]⟩)
          have i1 : ((an : Int) == t.limit) = false := by simp; omega
          clear h2 c2
          obtain ⟨ss, hss, hs2, hs3⟩ := V2.out.all
          have SS := Lib.hid (show ss.length = an ∧ ss.length = t.all.length ∧ _ from ⟨hs2.trans LN.out.2.1, hs2, hs3⟩)
          have be := alloc_below0 w1 (.cells #[] 34)
          have BE := Lib.hid be
          have R2 := Lib.hid (R1.out.step be)
          have VA := Lib.hid (hss.sv.below be)
          have OE := Lib.hid (OwnS.lit lDs w1.heap.size w1 w1.heap.size rfl [] (Nat.le_refl _) (by simp [maxLen]))
          have SZ := Lib.hid (show w.heap.size + 2 ≤ w1.heap.size from R1.out.size)
          have c2 := (show (w1.alloc (.cells #[] 34)).cell? ⟨w.heap.size, 2, none⟩ = some (Value.slice aa an ac) from blk_cell R2.out.own 2)
          have c2o := (show w1.cell? ⟨w.heap.size, 2, none⟩ = some (Value.slice aa an ac) from blk_cell R1.out.own 2)
          clear hss hs2 hs3 be
          go_wp2_with (first
          | (refine wpList_appS lDs 27 Tryd.underlying27 lDs_known (by decide) (by decide) rfl (.tmp 31) (.tmp 33) rfl w1.heap.size rfl rfl OE.out VA.out (by have h1 := SS.out.1; have h2 := LX.out.2.1; simp; omega) BE.out.size ?_
             intro v2 w2 ho2 hg2
             rw [List.nil_append] at ho2
             have B2 := Lib.hid (show Below w1.heap.size w1 w2 from BE.out.trans ((Kept.of_grown hg2).below (fun j hj => (OE.out.bounds j hj.symm).1) BE.out.size))
             have bq := alloc_below0 w2 (.cells #[.slice la n lc] 34)
             have O2 := Lib.hid (ho2.below bq)
             have B2q := Lib.hid (B2.out.trans (bq.mono B2.out.size))
             have SR := Lib.hid (OwnS.lit lDs w2.heap.size w2 w2.heap.size rfl [(la, n, lc)] (Nat.le_refl _) (by simp [maxLen])).sv
             clear ho2 hg2 bq)
          | (refine wpList_appS lDs 27 Tryd.underlying27 lDs_known (by decide) (by decide) rfl (.tmp 34) (.tmp 36) rfl w1.heap.size rfl rfl O2.out SR.out (by have h1 := SS.out.1; have h2 := LX.out.2.1; simp; omega) B2q.out.size ?_
             intro v3 w3 ho3 hg3
             have B3 := Lib.hid (show Below w1.heap.size w1 w3 from B2q.out.trans ((Kept.of_grown hg3).below (fun j hj => (O2.out.bounds j hj.symm).1) B2q.out.size))
             obtain ⟨a3, c3, rfl, -, -⟩ := ho3.lenN (n := an + 1) (by simp [SS.out.1])
             obtain ⟨g3, rfl⟩ := ho3.addrN (by omega)
             have G3 := Lib.hid (show w1.heap.size ≤ g3 ∧ g3 < w3.heap.size from ho3.bounds g3 rfl)
             have R3 := Lib.hid (R1.out.step B3.out)
             have d2 := (show w3.cell? ⟨w.heap.size, 2, none⟩ = some (Value.slice aa an ac) from blk_cell R3.out.own 2)
             have f2 := blk_free R3.out.own 2
             have O4 := Lib.hid (show OwnS lDs w1.heap.size (w3.setCell ⟨w.heap.size, 2, none⟩ (.slice (some ⟨g3, 0, none⟩) (an + 1) c3)) (.slice (some ⟨g3, 0, none⟩) (an + 1) c3) (ss ++ [(la, n, lc)]) from ho3.setOther (fun k hk => by
               obtain rfl : g3 = k := by simpa [Value.ownBlock] using hk
               have h1 := G3.out.1
               have h2 := SZ.out
               omega))
             have R4 := Lib.hid (R3.out.field 2 (.slice (some ⟨g3, 0, none⟩) (an + 1) c3))
             have be4 := alloc_below0 (w3.setCell ⟨w.heap.size, 2, none⟩ (.slice (some ⟨g3, 0, none⟩) (an + 1) c3)) (.cells #[] 4)
             have BE4 := Lib.hid be4
             have R4q := Lib.hid (R4.out.step be4)
             have e3 := (show (World.alloc (w3.setCell ⟨w.heap.size, 2, none⟩ (.slice (some ⟨g3, 0, none⟩) (an + 1) c3)) (.cells #[] 4)).cell? ⟨w.heap.size, 3, none⟩ = some (Value.slice da dn dc) from blk_cell R4q.out.own 3)
             have VD := Lib.hid (V.out.drp.below R4q.out.low).sv
             have OE4 := Lib.hid (OwnS.lit lBool w3.heap.size (w3.setCell ⟨w.heap.size, 2, none⟩ (.slice (some ⟨g3, 0, none⟩) (an + 1) c3)) w3.heap.size (by simp) [] (Nat.le_refl _) (by simp [maxLen]))
             clear ho3 hg3 be4)
          | (refine wpList_appS lBool 28 Tryd.underlying28 lBool_known (by decide) (by decide) rfl (.tmp 39) (.tmp 41) rfl w3.heap.size rfl rfl OE4.out VD.out (by have h1 := LN.out.2.2; have h2 := LX.out.2; simp; omega) (by simp) ?_
             intro v5 w5 ho5 hg5
             rw [List.nil_append] at ho5
             have B5 := Lib.hid (show Below w3.heap.size (w3.setCell ⟨w.heap.size, 2, none⟩ (.slice (some ⟨g3, 0, none⟩) (an + 1) c3)) w5 from (BE4.out.mono (by simp)).trans ((Kept.of_grown hg5).below (fun j hj => (OE4.out.bounds j hj.symm).1) (by simp)))
             have bq := alloc_below0 w5 (.cells #[.bool false] 4)
             have z5 := B5.out.size
             have O5 := Lib.hid (ho5.below bq)
             have B5q := Lib.hid (B5.out.trans (bq.mono (by simpa using z5)))
             have SR5 := Lib.hid (OwnS.lit lBool w5.heap.size w5 w5.heap.size rfl [false] (Nat.le_refl _) (by simp [maxLen])).sv
             clear ho5 hg5 bq z5)
          | (refine wpList_appS lBool 28 Tryd.underlying28 lBool_known (by decide) (by decide) rfl (.tmp 42) (.tmp 43) rfl w3.heap.size rfl rfl O5.out SR5.out (by have h1 := LN.out.2.2; have h2 := LX.out.2; simp; omega) (by have h := B5q.out.size; simpa using h) ?_
             intro v6 w6 ho6 hg6
             have z5 := B5q.out.size
             have B6 := Lib.hid (show Below w3.heap.size (w3.setCell ⟨w.heap.size, 2, none⟩ (.slice (some ⟨g3, 0, none⟩) (an + 1) c3)) w6 from B5q.out.trans ((Kept.of_grown hg6).below (fun j hj => (O5.out.bounds j hj.symm).1) (by simpa using z5)))
             obtain ⟨a6, c6, rfl, -, -⟩ := ho6.lenN (n := an + 1) (by simp [LN.out.2.2, LX.out.2.2])
             obtain ⟨g6, rfl⟩ := ho6.addrN (by omega)
             have G6 := Lib.hid (show w3.heap.size ≤ g6 ∧ g6 < w6.heap.size from ho6.bounds g6 rfl)
             have B6' := Lib.hid (show Below (World.heap (w3.setCell ⟨w.heap.size, 2, none⟩ (.slice (some ⟨g3, 0, none⟩) (an + 1) c3))).size (w3.setCell ⟨w.heap.size, 2, none⟩ (.slice (some ⟨g3, 0, none⟩) (an + 1) c3)) w6 by have h := B6.out; simpa using h)
             have R6 := Lib.hid (R4.out.step B6'.out)
             have d3 := (show w6.cell? ⟨w.heap.size, 3, none⟩ = some (Value.slice da dn dc) from blk_cell R6.out.own 3)
             have f3 := blk_free R6.out.own 3
             have O6 := Lib.hid ho6
             have O36 := Lib.hid (O4.out.below B6'.out)
             clear ho6 hg6 z5)
          | (refine wpList_load_mid rfl 31 (.tmp 3) rfl w.heap.size 0 rfl (rtL t (.slice (some ⟨g3, 0, none⟩) (an + 1) c3) (.slice (some ⟨g6, 0, none⟩) (an + 1) c6) (.slice ma mn mc)) _ (rangeOf (((R6.out.field 3 (.slice (some ⟨g6, 0, none⟩) (an + 1) c6)))).own) Tryd.underlying31 rfl rtInfo ?_)
          | (refine wpList_store_mid rfl 31 (.tmp 6) (.tmp 46) rfl (w.heap.size + 1) 0 (rtL t (.slice (some ⟨g3, 0, none⟩) (an + 1) c3) (.slice (some ⟨g6, 0, none⟩) (an + 1) c6) (.slice ma mn mc)).toArray rfl rfl (((R6.out.field 3 (.slice (some ⟨g6, 0, none⟩) (an + 1) c6)))).thereR rtInfo (rtL_one _ _ _ _ _ _ _ _ _ _) ?_
             generalize hwz : World.setCells _ _ _ _ = wz
             have RZ := Lib.hid (show RtW w wz _ (rtL t (.slice (some ⟨g3, 0, none⟩) (an + 1) c3) (.slice (some ⟨g6, 0, none⟩) (an + 1) c6) (.slice ma mn mc)) by rw [← hwz]; exact (((R6.out.field 3 (.slice (some ⟨g6, 0, none⟩) (an + 1) c6)))).put (n := 6) rfl _ rfl)
             have KZ := Lib.hid (show Kept (rtK w.heap.size) w6 wz by rw [← hwz]; exact (keptF _ _ _ _).trans (keptP _ _ _))
             clear hwz))
          exact bodyPost_ret (v := .tuple #[.agg (rtL t (.slice (some ⟨g3, 0, none⟩) (an + 1) c3) (.slice (some ⟨g6, 0, none⟩) (an + 1) c6) (.slice ma mn mc)).toArray, .bool true, .int .i64 0]) (results_cellTT rfl _ _ (w.heap.size + 1) _ _ (.bool true) (.int .i64 0) rfl rfl rfl (rangeOf RZ.out.ans) Tryd.underlying31 rfl rtInfo) rfl ⟨_, _, _, by rw [E.out.1, E.out.2.1, E.out.2.2]; rfl, by
            rw [E.out.1]
            have hv := V.out.below RZ.out.low
            refine ⟨AllO.more SS.out.2.1 SS.out.2.2 ((O36.out.mono (Nat.zero_le _)).kept KZ.out (fun a m c hv hs => ?_)) X.out, (O6.out.mono (Nat.zero_le _)).kept KZ.out (fun a m c hv hs => ?_), hv.mks⟩
            · obtain ⟨e, -, -⟩ := Value.slice.inj hv
              obtain rfl := Option.some.inj e
              have h1 := G3.out.1
              have h2 := SZ.out
              rcases hs with hs | hs <;> simp at hs <;> omega
            · obtain ⟨e, -, -⟩ := Value.slice.inj hv
              obtain rfl := Option.some.inj e
              have h1 := G6.out.1
              have h2 := SZ.out
              have h3 := G3.out
              rcases hs with hs | hs <;> simp at hs <;> omega, fun b hb => by
            have h1 := G6.out.1
            have h2 := SZ.out
            have h3 := G3.out
            rcases hb with hb | hb | hb
            · obtain rfl : g3 = b := by simpa [Value.ownBlock] using hb
              exact .inr (by omega)
            · obtain rfl : g6 = b := by simpa [Value.ownBlock] using hb
              exact .inr (by omega)
            · exact .inl (.inr (.inr hb)), RZ.out.low⟩
      · have E := Lib.hid (Tb.app_no (t := t) (last := last) (xs := xs) (e := 0) (by unfold Tb.appB; rw [LN.out.2.1, decide_eq_false h1]; simp) (by unfold Tb.appE; rw [MAY.out, LN.out.2.1, if_neg (by simp), if_pos h1]))
        have i1 : (last == (an : Int)) = false := by simp [h1]
        go_wp2_with (first
          | (refine wpList_load_mid rfl 31 (.tmp 3) rfl w.heap.size 0 rfl (rtL t (.slice aa an ac) (.slice da dn dc) (.slice ma mn mc)) _ (rangeOf (R1.out).own) Tryd.underlying31 rfl rtInfo ?_)
          | (refine wpList_store_mid rfl 31 (.tmp 6) (.tmp 23) rfl (w.heap.size + 1) 0 (rtL t (.slice aa an ac) (.slice da dn dc) (.slice ma mn mc)).toArray rfl rfl (R1.out).thereR rtInfo (rtL_one _ _ _ _ _ _ _ _ _ _) ?_
             generalize hwz : World.setCells _ _ _ _ = wz
             have RZ := Lib.hid (show RtW w wz _ (rtL t (.slice aa an ac) (.slice da dn dc) (.slice ma mn mc)) by rw [← hwz]; exact (R1.out).put (n := 6) rfl _ rfl)
             clear hwz))
        exact bodyPost_ret (v := .tuple #[.agg (rtL t (.slice aa an ac) (.slice da dn dc) (.slice ma mn mc)).toArray, .bool false, .int .i64 0]) (results_cellTT rfl _ _ (w.heap.size + 1) _ _ (.bool false) (.int .i64 0) rfl rfl rfl (rangeOf RZ.out.ans) Tryd.underlying31 rfl rtInfo) rfl ⟨_, _, _, by rw [E.out.1, E.out.2.1, E.out.2.2]; rfl, by rw [E.out.1]; exact V.out.below RZ.out.low, fun b hb => .inl hb, RZ.out.low⟩
end Go.Proofs.YtkbfhpgcjljbbaaDoor
