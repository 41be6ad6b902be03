/- The document's own table (layer 16): Grab, Yield, Advance, Marked, by contract. -/
import Derived.Test.YtkbfhpgcjljbbaaDoorCmRt
namespace Go.Proofs.YtkbfhpgcjljbbaaDoor
set_option linter.unusedVariables false
set_option linter.unusedSimpArgs false
open Go.RowKit

theorem there_new (w : World) (zs : Array Value) (ty : TypeId) : (w.alloc (.cells zs ty)).there w.heap.size 0 zs.size := fun j hj => by
  refine ⟨?_, World.frozen?_alloc_at _ _ _ _ rfl⟩
  rw [World.cell?_alloc_at _ _ _ _ rfl, Nat.zero_add]
  simp [hj]
theorem all_oneCell_toArray {l : List Value} (h : ∀ u ∈ l, u.oneCell' = true) : l.toArray.all (fun x => x.oneCell') = true := by
  rw [Array.all_eq_true]
  intro i hi
  have hi' : i < l.length := by simpa using hi
  have := h l[i] (List.getElem_mem hi')
  simpa using this
def rtL (t : Tb) (va vd vm : Value) : List Value := [.int .i64 t.limit, .int .i64 (t.low : Int), va, vd, vm, .int .i64 t.holder]
def rtZ : List Value := [.int .i64 0, .int .i64 0, .slice none 0 0, .slice none 0 0, .slice none 0 0, .int .i64 0]
theorem rtL_one (t : Tb) (aa : Option Addr) (an ac : Nat) (da : Option Addr) (dn dc : Nat) (ma : Option Addr) (mn mc : Nat) : (rtL t (.slice aa an ac) (.slice da dn dc) (.slice ma mn mc)).toArray.all (fun x => x.oneCell') = true :=
  all_oneCell_toArray (fun u hu => by simp [rtL] at hu; rcases hu with rfl | rfl | rfl | rfl | rfl | rfl <;> rfl)
theorem rtInfo : (Tryd.prog.info? 31).map (·.size) = some 6 := by kernel_rfl
/-- a method of the document's table has its receiver in one block and its answer in the next -/
structure RtW (w W : World) (L : List Value) (R : List Value) : Prop where
  low : Below w.heap.size w W
  size : w.heap.size + 2 ≤ W.heap.size
  own : W.heap[w.heap.size]? = some (.cells L.toArray 31 (0, 0))
  ans : W.heap[w.heap.size + 1]? = some (.cells R.toArray 31 (0, 0))
theorem RtW.both (w : World) (L R : List Value) : RtW w ((w.alloc (.cells L.toArray 31)).alloc (.cells R.toArray 31)) L R := by
  have b1 := alloc_below0 w (.cells L.toArray 31)
  have b2 := alloc_below0 (w.alloc (.cells L.toArray 31)) (.cells R.toArray 31)
  have z1 : (w.alloc (.cells L.toArray 31)).heap.size = w.heap.size + 1 := by simp
  exact ⟨b1.trans (b2.mono b1.size), by simp, blk_step (blk_new w _) b2, by rw [← z1]; exact blk_new _ _⟩
theorem RtW.step {w W W' : World} {L R : List Value} (h : RtW w W L R) (hs : Below W.heap.size W W') : RtW w W' L R :=
  ⟨h.low.trans (hs.mono h.low.size), Nat.le_trans h.size hs.size, blk_step h.own hs, blk_step h.ans hs⟩
theorem RtW.start (w : World) (L : List Value) : RtW w ((w.alloc (.cells L.toArray 31)).alloc (.cells rtZ.toArray 31)) L rtZ := RtW.both w L rtZ
def rtK (b k : Nat) : Prop := k = b ∨ k = b + 1
theorem keptF (W : World) (b i : Nat) (v : Value) : Kept (rtK b) W (W.setCell ⟨b, i, none⟩ v) := ((Kept.refl (fun k => k = b) W).setCell i v).wide (fun _ _ h => .inl h)
theorem keptP (W : World) (b : Nat) (vs : List Value) : Kept (rtK b) W (W.setCells (b + 1) 0 vs) := (Kept.setCells vs 0 W (Kept.refl (fun k => k = b + 1) W)).wide (fun _ _ h => .inr h)
theorem rangeOf {w : World} {b : Nat} {T : TypeId} {l : List Value} (h : w.heap[b]? = some (.cells l.toArray T (0, 0))) : w.rangeAt b 0 l := fun j u hj => by
  rw [Nat.zero_add, blk_cell h]; simpa using hj
/-- the answer is laid -/
theorem RtW.put {w W : World} {L R : List Value} (h : RtW w W L R) {n : Nat} (hn : R.length = n) (vs : List Value) (hv : vs.length = n) : RtW w (W.setCells (w.heap.size + 1) 0 vs) L vs := by
  have e := list_laid vs h.ans (by simp [hn, hv])
  have k := (Kept.setCells (w := W) (b := w.heap.size + 1) vs 0 W (Kept.refl _ _))
  have hlt : w.heap.size < W.heap.size := by have := h.size; omega
  exact ⟨h.low.trans (k.below (fun k hk => by omega) h.low.size), Nat.le_trans h.size k.size, (k.block _ hlt (by omega)).trans h.own, e⟩
theorem RtW.field {w W : World} {L R : List Value} (h : RtW w W L R) (i : Nat) (v : Value) : RtW w (W.setCell ⟨w.heap.size, i, none⟩ v) (L.set i v) R := by
  have hlt : w.heap.size < W.heap.size := by have := h.size; omega
  have e := blk_set h.own i v
  have e2 : L.toArray.setIfInBounds i v = (L.set i v).toArray := by simp
  rw [e2] at e
  refine ⟨below_set h.low (Nat.le_refl _) i v, by simpa using h.size, e, blk_off h.ans (by omega) i v⟩
theorem RtW.thereR {w W : World} {L R : List Value} (h : RtW w W L R) : W.there (w.heap.size + 1) 0 R.length := blk_there h.ans _ (by simp)
theorem RtW.thereL {w W : World} {L R : List Value} (h : RtW w W L R) : W.there w.heap.size 0 L.length := blk_there h.own _ (by simp)
set_option maxRecDepth 100000 in
set_option maxHeartbeats 4000000 in
theorem rf_grab (t : Tb) (va vd vm : Value) (k : Int) (w0 w : World) (h : RtV w0 w t va vd vm) :
    Calls Tryd.prog 29 #[rtV t va vd vm, .int .i64 k] w fun ev w' => ev = .returned (.tuple #[rtV (t.grab k) va vd vm, .bool (t.grabB k), .int .i64 (t.hasE k)]) ∧ Below w.heap.size w w' := by
  obtain ⟨mn, hm⟩ : ∃ m, t.marks.length = m := ⟨_, rfl⟩
  obtain ⟨an, han⟩ : ∃ m, t.all.length = m := ⟨_, rfl⟩
  obtain ⟨dn, hdn⟩ : ∃ m, t.dropped.length = m := ⟨_, rfl⟩
  obtain ⟨ma, mc, rfl, -, mcm⟩ := h.mks.lenN hm
  obtain ⟨aa, ac, rfl, -, acm⟩ := h.all.lenN han
  obtain ⟨da, dc, rfl, -, dcm⟩ := h.drp.lenN hdn
  have V := Lib.hid h
  have LN := Lib.hid (show t.marks.length = mn ∧ t.all.length = an ∧ t.dropped.length = dn from ⟨hm, han, hdn⟩)
  have R0 := Lib.hid (RtW.start w (rtL t (.slice aa an ac) (.slice da dn dc) (.slice ma mn mc)))
  obtain ⟨W, hW⟩ : ∃ W, W = (w.alloc (.cells (rtL t (.slice aa an ac) (.slice da dn dc) (.slice ma mn mc)).toArray 31)).alloc (.cells rtZ.toArray 31) := ⟨_, rfl⟩
  rw [← hW] at R0
  unfold rtL rtZ at hW
  have HW := Lib.hid hW
  have V1 := Lib.hid (V.out.below R0.out.low)
  unfold maxLen at mcm acm dcm
  unfold rtV
  clear h hm han hdn hW
  go_enter Tryd.func29, Tryd.ntmps29
  go_wp2_with (rw [← HW.out]; refine wpList_load_mid rfl 31 (.tmp 2) rfl w.heap.size 0 rfl (rtL t (.slice aa an ac) (.slice da dn dc) (.slice ma mn mc)) _ (rangeOf R0.out.own) Tryd.underlying31 rfl rtInfo ?_)
  refine (rf_is t _ _ _ k w0 _ V1.out).mono ?_
  rintro ev w1 ⟨rfl, hs⟩
  have R1 := Lib.hid (R0.out.step hs)
  have V2 := Lib.hid (V1.out.below hs)
  clear hs
  cases hh : t.has k with
  | false =>
    have E := Lib.hid (show t.grab k = t ∧ t.grabB k = false ∧ t.hasE k = 1 by unfold Tb.grab Tb.grabB Tb.hasE; rw [hh]; exact ⟨rfl, rfl, rfl⟩)
    clear hh
    go_wp2_with (first
      | (refine wpList_load_mid rfl 31 (.tmp 2) rfl w.heap.size 0 rfl (rtL t (.slice aa an ac) (.slice da dn dc) (.slice ma mn mc)) _ (rangeOf (R1.out).own) Tryd.underlying31 rfl rtInfo ?_)
      | (refine wpList_store_mid rfl 31 (.tmp 4) (.tmp 11) rfl (w.heap.size + 1) 0 (rtL t (.slice aa an ac) (.slice da dn dc) (.slice ma mn mc)).toArray rfl rfl (R1.out).thereR rtInfo (rtL_one _ _ _ _ _ _ _ _ _ _) ?_
         generalize hwz : World.setCells _ _ _ _ = wz
         have RZ := Lib.hid (show RtW w wz _ (rtL t (.slice aa an ac) (.slice da dn dc) (.slice ma mn mc)) by rw [← hwz]; exact (R1.out).put (n := 6) rfl _ rfl)
         clear hwz))
    rw [E.out.1, E.out.2.1, E.out.2.2]
    exact bodyPost_ret (v := .tuple #[.agg (rtL t (.slice aa an ac) (.slice da dn dc) (.slice ma mn mc)).toArray, .bool false, .int .i64 1]) (results_cellTT rfl _ _ (w.heap.size + 1) _ _ (.bool false) (.int .i64 1) rfl rfl rfl (rangeOf RZ.out.ans) Tryd.underlying31 rfl rtInfo) rfl ⟨rfl, RZ.out.low⟩
  | true =>
    have HH := Lib.hid hh
    have c5 : w1.cell? ⟨w.heap.size, 5, none⟩ = some (.int .i64 t.holder) := blk_cell R1.out.own 5
    have f5 := blk_free R1.out.own 5
    clear hh
    by_cases hc : 0 ≤ t.holder
    · have E := Lib.hid (show t.grab k = t ∧ t.grabB k = false ∧ t.hasE k = 0 by
        have e : t.grabB k = false := by unfold Tb.grabB; rw [HH.out, decide_eq_false (by omega)]; rfl
        unfold Tb.grab Tb.hasE; rw [e, HH.out]; exact ⟨rfl, rfl, rfl⟩)
      go_wp2_with (first
        | (refine wpList_load_mid rfl 31 (.tmp 2) rfl w.heap.size 0 rfl (rtL t (.slice aa an ac) (.slice da dn dc) (.slice ma mn mc)) _ (rangeOf (R1.out).own) Tryd.underlying31 rfl rtInfo ?_)
        | (refine wpList_store_mid rfl 31 (.tmp 4) (.tmp 15) rfl (w.heap.size + 1) 0 (rtL t (.slice aa an ac) (.slice da dn dc) (.slice ma mn mc)).toArray rfl rfl (R1.out).thereR rtInfo (rtL_one _ _ _ _ _ _ _ _ _ _) ?_
           generalize hwz : World.setCells _ _ _ _ = wz
           have RZ := Lib.hid (show RtW w wz _ (rtL t (.slice aa an ac) (.slice da dn dc) (.slice ma mn mc)) by rw [← hwz]; exact (R1.out).put (n := 6) rfl _ rfl)
           clear hwz))
      rw [E.out.1, E.out.2.1, E.out.2.2]
      exact bodyPost_ret (v := .tuple #[.agg (rtL t (.slice aa an ac) (.slice da dn dc) (.slice ma mn mc)).toArray, .bool false, .int .i64 0]) (results_cellTT rfl _ _ (w.heap.size + 1) _ _ (.bool false) (.int .i64 0) rfl rfl rfl (rangeOf RZ.out.ans) Tryd.underlying31 rfl rtInfo) rfl ⟨rfl, RZ.out.low⟩
    · have E := Lib.hid (show t.grab k = { t with holder := k } ∧ t.grabB k = true ∧ t.hasE k = 0 by
        have e : t.grabB k = true := by unfold Tb.grabB; rw [HH.out, decide_eq_true (by omega)]; rfl
        unfold Tb.grab Tb.hasE; rw [e, HH.out]; exact ⟨rfl, rfl, rfl⟩)
      go_wp2_with (first
        | (refine wpList_load_mid rfl 31 (.tmp 2) rfl w.heap.size 0 rfl (rtL { t with holder := k } (.slice aa an ac) (.slice da dn dc) (.slice ma mn mc)) _ (rangeOf ((R1.out.field 5 (.int .i64 k))).own) Tryd.underlying31 rfl rtInfo ?_)
        | (refine wpList_store_mid rfl 31 (.tmp 4) (.tmp 18) rfl (w.heap.size + 1) 0 (rtL { t with holder := k } (.slice aa an ac) (.slice da dn dc) (.slice ma mn mc)).toArray rfl rfl ((R1.out.field 5 (.int .i64 k))).thereR rtInfo (rtL_one _ _ _ _ _ _ _ _ _ _) ?_
           generalize hwz : World.setCells _ _ _ _ = wz
           have RZ := Lib.hid (show RtW w wz _ (rtL { t with holder := k } (.slice aa an ac) (.slice da dn dc) (.slice ma mn mc)) by rw [← hwz]; exact ((R1.out.field 5 (.int .i64 k))).put (n := 6) rfl _ rfl)
           clear hwz))
      rw [E.out.1, E.out.2.1, E.out.2.2]
      exact bodyPost_ret (v := .tuple #[.agg (rtL { t with holder := k } (.slice aa an ac) (.slice da dn dc) (.slice ma mn mc)).toArray, .bool true, .int .i64 0]) (results_cellTT rfl _ _ (w.heap.size + 1) _ _ (.bool true) (.int .i64 0) rfl rfl rfl (rangeOf RZ.out.ans) Tryd.underlying31 rfl rtInfo) rfl ⟨rfl, RZ.out.low⟩
set_option maxRecDepth 100000 in
set_option maxHeartbeats 4000000 in
theorem rf_yield (t : Tb) (va vd vm : Value) (k : Int) (w0 w : World) (h : RtV w0 w t va vd vm) :
    Calls Tryd.prog 31 #[rtV t va vd vm, .int .i64 k] w fun ev w' => ev = .returned (.tuple #[rtV (t.yield_ k) va vd vm, .bool (t.yieldB k), .int .i64 (t.hasE k)]) ∧ Below w.heap.size w w' := by
  obtain ⟨mn, hm⟩ : ∃ m, t.marks.length = m := ⟨_, rfl⟩
  obtain ⟨an, han⟩ : ∃ m, t.all.length = m := ⟨_, rfl⟩
  obtain ⟨dn, hdn⟩ : ∃ m, t.dropped.length = m := ⟨_, rfl⟩
  obtain ⟨ma, mc, rfl, -, mcm⟩ := h.mks.lenN hm
  obtain ⟨aa, ac, rfl, -, acm⟩ := h.all.lenN han
  obtain ⟨da, dc, rfl, -, dcm⟩ := h.drp.lenN hdn
  have V := Lib.hid h
  have LN := Lib.hid (show t.marks.length = mn ∧ t.all.length = an ∧ t.dropped.length = dn from ⟨hm, han, hdn⟩)
  have R0 := Lib.hid (RtW.start w (rtL t (.slice aa an ac) (.slice da dn dc) (.slice ma mn mc)))
  obtain ⟨W, hW⟩ : ∃ W, W = (w.alloc (.cells (rtL t (.slice aa an ac) (.slice da dn dc) (.slice ma mn mc)).toArray 31)).alloc (.cells rtZ.toArray 31) := ⟨_, rfl⟩
  rw [← hW] at R0
  unfold rtL rtZ at hW
  have HW := Lib.hid hW
  have V1 := Lib.hid (V.out.below R0.out.low)
  unfold maxLen at mcm acm dcm
  unfold rtV
  clear h hm han hdn hW
  go_enter Tryd.func31, Tryd.ntmps31
  go_wp2_with (rw [← HW.out]; refine wpList_load_mid rfl 31 (.tmp 2) rfl w.heap.size 0 rfl (rtL t (.slice aa an ac) (.slice da dn dc) (.slice ma mn mc)) _ (rangeOf R0.out.own) Tryd.underlying31 rfl rtInfo ?_)
  refine (rf_is t _ _ _ k w0 _ V1.out).mono ?_
  rintro ev w1 ⟨rfl, hs⟩
  have R1 := Lib.hid (R0.out.step hs)
  have V2 := Lib.hid (V1.out.below hs)
  clear hs
  cases hh : t.has k with
  | false =>
    have E := Lib.hid (show t.yield_ k = t ∧ t.yieldB k = false ∧ t.hasE k = 1 by unfold Tb.yield_ Tb.yieldB Tb.hasE; rw [hh]; exact ⟨rfl, rfl, rfl⟩)
    clear hh
    go_wp2_with (first
      | (refine wpList_load_mid rfl 31 (.tmp 2) rfl w.heap.size 0 rfl (rtL t (.slice aa an ac) (.slice da dn dc) (.slice ma mn mc)) _ (rangeOf (R1.out).own) Tryd.underlying31 rfl rtInfo ?_)
      | (refine wpList_store_mid rfl 31 (.tmp 4) (.tmp 11) rfl (w.heap.size + 1) 0 (rtL t (.slice aa an ac) (.slice da dn dc) (.slice ma mn mc)).toArray rfl rfl (R1.out).thereR rtInfo (rtL_one _ _ _ _ _ _ _ _ _ _) ?_
         generalize hwz : World.setCells _ _ _ _ = wz
         have RZ := Lib.hid (show RtW w wz _ (rtL t (.slice aa an ac) (.slice da dn dc) (.slice ma mn mc)) by rw [← hwz]; exact (R1.out).put (n := 6) rfl _ rfl)
         clear hwz))
    rw [E.out.1, E.out.2.1, E.out.2.2]
    exact bodyPost_ret (v := .tuple #[.agg (rtL t (.slice aa an ac) (.slice da dn dc) (.slice ma mn mc)).toArray, .bool false, .int .i64 1]) (results_cellTT rfl _ _ (w.heap.size + 1) _ _ (.bool false) (.int .i64 1) rfl rfl rfl (rangeOf RZ.out.ans) Tryd.underlying31 rfl rtInfo) rfl ⟨rfl, RZ.out.low⟩
  | true =>
    have HH := Lib.hid hh
    have c5 : w1.cell? ⟨w.heap.size, 5, none⟩ = some (.int .i64 t.holder) := blk_cell R1.out.own 5
    have f5 := blk_free R1.out.own 5
    clear hh
    by_cases hc : t.holder ≠ k
    · have E := Lib.hid (show t.yield_ k = t ∧ t.yieldB k = false ∧ t.hasE k = 0 by
        have e : t.yieldB k = false := by unfold Tb.yieldB; rw [HH.out, decide_eq_false (by omega)]; rfl
        unfold Tb.yield_ Tb.hasE; rw [e, HH.out]; exact ⟨rfl, rfl, rfl⟩)
      go_wp2_with (first
        | (refine wpList_load_mid rfl 31 (.tmp 2) rfl w.heap.size 0 rfl (rtL t (.slice aa an ac) (.slice da dn dc) (.slice ma mn mc)) _ (rangeOf (R1.out).own) Tryd.underlying31 rfl rtInfo ?_)
        | (refine wpList_store_mid rfl 31 (.tmp 4) (.tmp 16) rfl (w.heap.size + 1) 0 (rtL t (.slice aa an ac) (.slice da dn dc) (.slice ma mn mc)).toArray rfl rfl (R1.out).thereR rtInfo (rtL_one _ _ _ _ _ _ _ _ _ _) ?_
           generalize hwz : World.setCells _ _ _ _ = wz
           have RZ := Lib.hid (show RtW w wz _ (rtL t (.slice aa an ac) (.slice da dn dc) (.slice ma mn mc)) by rw [← hwz]; exact (R1.out).put (n := 6) rfl _ rfl)
           clear hwz))
      rw [E.out.1, E.out.2.1, E.out.2.2]
      exact bodyPost_ret (v := .tuple #[.agg (rtL t (.slice aa an ac) (.slice da dn dc) (.slice ma mn mc)).toArray, .bool false, .int .i64 0]) (results_cellTT rfl _ _ (w.heap.size + 1) _ _ (.bool false) (.int .i64 0) rfl rfl rfl (rangeOf RZ.out.ans) Tryd.underlying31 rfl rtInfo) rfl ⟨rfl, RZ.out.low⟩
    · have E := Lib.hid (show t.yield_ k = { t with holder := (-1) } ∧ t.yieldB k = true ∧ t.hasE k = 0 by
        have e : t.yieldB k = true := by unfold Tb.yieldB; rw [HH.out, decide_eq_true (by omega)]; rfl
        unfold Tb.yield_ Tb.hasE; rw [e, HH.out]; exact ⟨rfl, rfl, rfl⟩)
      go_wp2_with (first
        | (refine wpList_load_mid rfl 31 (.tmp 2) rfl w.heap.size 0 rfl (rtL { t with holder := (-1) } (.slice aa an ac) (.slice da dn dc) (.slice ma mn mc)) _ (rangeOf ((R1.out.field 5 (.int .i64 (-1)))).own) Tryd.underlying31 rfl rtInfo ?_)
        | (refine wpList_store_mid rfl 31 (.tmp 4) (.tmp 18) rfl (w.heap.size + 1) 0 (rtL { t with holder := (-1) } (.slice aa an ac) (.slice da dn dc) (.slice ma mn mc)).toArray rfl rfl ((R1.out.field 5 (.int .i64 (-1)))).thereR rtInfo (rtL_one _ _ _ _ _ _ _ _ _ _) ?_
           generalize hwz : World.setCells _ _ _ _ = wz
           have RZ := Lib.hid (show RtW w wz _ (rtL { t with holder := (-1) } (.slice aa an ac) (.slice da dn dc) (.slice ma mn mc)) by rw [← hwz]; exact ((R1.out.field 5 (.int .i64 (-1)))).put (n := 6) rfl _ rfl)
           clear hwz))
      rw [E.out.1, E.out.2.1, E.out.2.2]
      exact bodyPost_ret (v := .tuple #[.agg (rtL { t with holder := (-1) } (.slice aa an ac) (.slice da dn dc) (.slice ma mn mc)).toArray, .bool true, .int .i64 0]) (results_cellTT rfl _ _ (w.heap.size + 1) _ _ (.bool true) (.int .i64 0) rfl rfl rfl (rangeOf RZ.out.ans) Tryd.underlying31 rfl rtInfo) rfl ⟨rfl, RZ.out.low⟩
set_option maxRecDepth 100000 in
set_option maxHeartbeats 4000000 in
theorem rf_advance (t : Tb) (va vd vm : Value) (b : Int) (w0 w : World) (h : RtV w0 w t va vd vm) (hlow : t.low ≤ 1000) :
    Calls Tryd.prog 33 #[rtV t va vd vm, .int .i64 b] w fun ev w' => ev = .returned (.tuple #[rtV (t.adv b) va vd vm, .bool (t.advB b), .int .i64 t.advE]) ∧ Below w.heap.size w w' := by
  obtain ⟨mn, hm⟩ : ∃ m, t.marks.length = m := ⟨_, rfl⟩
  obtain ⟨an, han⟩ : ∃ m, t.all.length = m := ⟨_, rfl⟩
  obtain ⟨dn, hdn⟩ : ∃ m, t.dropped.length = m := ⟨_, rfl⟩
  obtain ⟨ma, mc, rfl, -, mcm⟩ := h.mks.lenN hm
  obtain ⟨aa, ac, rfl, -, acm⟩ := h.all.lenN han
  obtain ⟨da, dc, rfl, -, dcm⟩ := h.drp.lenN hdn
  have V := Lib.hid h
  have LN := Lib.hid (show t.marks.length = mn ∧ t.all.length = an ∧ t.dropped.length = dn from ⟨hm, han, hdn⟩)
  have R0 := Lib.hid (RtW.start w (rtL t (.slice aa an ac) (.slice da dn dc) (.slice ma mn mc)))
  obtain ⟨W, hW⟩ : ∃ W, W = (w.alloc (.cells (rtL t (.slice aa an ac) (.slice da dn dc) (.slice ma mn mc)).toArray 31)).alloc (.cells rtZ.toArray 31) := ⟨_, rfl⟩
  rw [← hW] at R0
  unfold rtL rtZ at hW
  have HW := Lib.hid hW
  have V1 := Lib.hid (V.out.below R0.out.low)
  unfold maxLen at mcm acm dcm
  unfold rtV
  clear h hm han hdn hW
  by_cases h1 : t.low = an
  · have E := Lib.hid (show t.adv b = t ∧ t.advB b = false ∧ t.advE = 13 by
      have e : t.advB b = false := by unfold Tb.advB; rw [LN.out.2.1, decide_eq_true h1]; rfl
      unfold Tb.adv Tb.advE; rw [e, LN.out.2.1, if_pos h1]; exact ⟨rfl, rfl, rfl⟩)
    have i1 : ((t.low : Int) == (an : Int)) = true := by simp [h1]
    clear h1
    go_enter Tryd.func33, Tryd.ntmps33
    go_wp2
    rw [E.out.1, E.out.2.1, E.out.2.2]
    exact bodyPost_ret (v := .tuple #[.agg (rtL t (.slice aa an ac) (.slice da dn dc) (.slice ma mn mc)).toArray, .bool false, .int .i64 13]) (results_cellTT rfl _ _ (w.heap.size + 1) _ _ (.bool false) (.int .i64 13) rfl rfl rfl (rangeOf (RtW.both w (rtL t (.slice aa an ac) (.slice da dn dc) (.slice ma mn mc)) (rtL t (.slice aa an ac) (.slice da dn dc) (.slice ma mn mc))).ans) Tryd.underlying31 rfl rtInfo) rfl ⟨rfl, (RtW.both w (rtL t (.slice aa an ac) (.slice da dn dc) (.slice ma mn mc)) (rtL t (.slice aa an ac) (.slice da dn dc) (.slice ma mn mc))).low⟩
  · have i1 : ((t.low : Int) == (an : Int)) = false := by simp; omega
    by_cases h2 : b = (t.low : Int)
    · subst h2
      have E := Lib.hid (show t.adv t.low = { t with low := t.low + 1 } ∧ t.advB t.low = true ∧ t.advE = 0 by
        have e : t.advB t.low = true := by unfold Tb.advB; rw [LN.out.2.1, decide_eq_false h1, decide_eq_true rfl]; rfl
        unfold Tb.adv Tb.advE; rw [e, LN.out.2.1, if_neg h1]; exact ⟨rfl, rfl, rfl⟩)
      have i2 : IntKind.i64.wrap ((t.low : Int) + 1) = (t.low : Int) + 1 := Go.IntWalk.i64_in _ (by omega)
      go_enter Tryd.func33, Tryd.ntmps33
      go_wp2
      rw [E.out.1, E.out.2.1, E.out.2.2]
      exact bodyPost_ret (v := .tuple #[.agg (rtL { t with low := t.low + 1 } (.slice aa an ac) (.slice da dn dc) (.slice ma mn mc)).toArray, .bool true, .int .i64 0]) (results_cellTT rfl _ _ (w.heap.size + 1) _ _ (.bool true) (.int .i64 0) rfl rfl rfl (rangeOf (RtW.both w (rtL { t with low := t.low + 1 } (.slice aa an ac) (.slice da dn dc) (.slice ma mn mc)) (rtL { t with low := t.low + 1 } (.slice aa an ac) (.slice da dn dc) (.slice ma mn mc))).ans) Tryd.underlying31 rfl rtInfo) rfl ⟨rfl, (RtW.both w (rtL { t with low := t.low + 1 } (.slice aa an ac) (.slice da dn dc) (.slice ma mn mc)) (rtL { t with low := t.low + 1 } (.slice aa an ac) (.slice da dn dc) (.slice ma mn mc))).low⟩
    · have E := Lib.hid (show t.adv b = t ∧ t.advB b = false ∧ t.advE = 0 by
        have e : t.advB b = false := by unfold Tb.advB; rw [decide_eq_false h2, Bool.and_false]
        unfold Tb.adv Tb.advE; rw [e, LN.out.2.1, if_neg h1]; exact ⟨rfl, rfl, rfl⟩)
      have i2 : ((t.low : Int) == b) = false := by simp; omega
      go_enter Tryd.func33, Tryd.ntmps33
      go_wp2
      rw [E.out.1, E.out.2.1, E.out.2.2]
      exact bodyPost_ret (v := .tuple #[.agg (rtL t (.slice aa an ac) (.slice da dn dc) (.slice ma mn mc)).toArray, .bool false, .int .i64 0]) (results_cellTT rfl _ _ (w.heap.size + 1) _ _ (.bool false) (.int .i64 0) rfl rfl rfl (rangeOf (RtW.both w (rtL t (.slice aa an ac) (.slice da dn dc) (.slice ma mn mc)) (rtL t (.slice aa an ac) (.slice da dn dc) (.slice ma mn mc))).ans) Tryd.underlying31 rfl rtInfo) rfl ⟨rfl, (RtW.both w (rtL t (.slice aa an ac) (.slice da dn dc) (.slice ma mn mc)) (rtL t (.slice aa an ac) (.slice da dn dc) (.slice ma mn mc))).low⟩
end Go.Proofs.YtkbfhpgcjljbbaaDoor
