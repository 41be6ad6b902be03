/- The document's own table (layer 16): Trim, by contract. -/
import Derived.Test.YtkbfhpgcjljbbaaDoorCmRt4
namespace Go.Proofs.YtkbfhpgcjljbbaaDoor
set_option linter.unusedVariables false
set_option linter.unusedSimpArgs false
open Go.RowKit

theorem cut_app (n : Int) (low : Nat) : ∀ (a b : List Bool) (i : Nat), Tb.cut n low i (a ++ b) = Tb.cut n low i a ++ Tb.cut n low (i + a.length) b
  | [], b, i => by simp [Tb.cut]
  | x :: a, b, i => by simp [Tb.cut, cut_app n low a b (i + 1), Nat.add_assoc, Nat.add_comm 1]
theorem cutN_app (n : Int) (low : Nat) : ∀ (a b : List Bool) (i : Nat), Tb.cutN n low i (a ++ b) = Tb.cutN n low i a + Tb.cutN n low (i + a.length) b
  | [], b, i => by simp [Tb.cutN]
  | x :: a, b, i => by
    have h := cutN_app n low a b (i + 1)
    simp only [List.cons_append, Tb.cutN, h, List.length_cons, show i + 1 + a.length = i + (a.length + 1) by omega]
    omega
theorem cutN_le (n : Int) (low : Nat) : ∀ (a : List Bool) (i : Nat), Tb.cutN n low i a ≤ a.length
  | [], i => by simp [Tb.cutN]
  | x :: a, i => by
    have h := cutN_le n low a (i + 1)
    simp only [Tb.cutN, List.length_cons]
    split <;> omega
/-- the list between two rounds of Trim's -/
def cutAt (n : Int) (low : Nat) (d : List Bool) (k : Nat) : List Bool := Tb.cut n low 0 (d.take k) ++ d.drop k
theorem cutAt_zero (n : Int) (low : Nat) (d : List Bool) : cutAt n low d 0 = d := by simp [cutAt, Tb.cut]
theorem cutAt_full (n : Int) (low : Nat) {d : List Bool} {k : Nat} (h : d.length = k) : cutAt n low d k = Tb.cut n low 0 d := by
  unfold cutAt
  rw [List.take_of_length_le (Nat.le_of_eq h), List.drop_of_length_le (Nat.le_of_eq h), List.append_nil]
theorem cutAt_len (n : Int) (low : Nat) (d : List Bool) (k : Nat) : (cutAt n low d k).length = d.length := by
  unfold cutAt
  rw [List.length_append, Tb.cut_len, ← List.length_append, List.take_append_drop]
theorem cutAt_split {n : Int} {low : Nat} {d : List Bool} {k : Nat} {x : Bool} (h : d[k]? = some x) : cutAt n low d k = Tb.cut n low 0 (d.take k) ++ x :: d.drop (k + 1) := by
  obtain ⟨hk, e⟩ := List.getElem?_eq_some_iff.1 h
  unfold cutAt
  rw [List.drop_eq_getElem_cons hk, e]
theorem cutAt_len0 {n : Int} {low : Nat} {d : List Bool} {k : Nat} {x : Bool} (h : d[k]? = some x) : (Tb.cut n low 0 (d.take k)).length = k := by
  obtain ⟨hk, e⟩ := List.getElem?_eq_some_iff.1 h
  rw [Tb.cut_len, List.length_take]; omega
theorem cutAt_at {n : Int} {low : Nat} {d : List Bool} {k : Nat} {x : Bool} (h : d[k]? = some x) : (cutAt n low d k)[k]? = some x := by
  rw [cutAt_split h, List.getElem?_append_right (by rw [cutAt_len0 h]; exact Nat.le_refl _), cutAt_len0 h]; simp
theorem cutAt_next {n : Int} {low : Nat} {d : List Bool} {k : Nat} {x : Bool} (h : d[k]? = some x) : cutAt n low d (k + 1) = (cutAt n low d k).set k (x || (decide ((k : Int) < n) && decide (k < low))) := by
  obtain ⟨hk, e⟩ := List.getElem?_eq_some_iff.1 h
  rw [cutAt_split h, List.set_append_right _ _ (by rw [cutAt_len0 h]; exact Nat.le_refl _), cutAt_len0 h]
  unfold cutAt
  rw [take_at2 h, cut_app, List.length_take, show min k d.length = k by omega]
  simp [Tb.cut]
theorem cutAt_same {n : Int} {low : Nat} {d : List Bool} {k : Nat} {x : Bool} (h : d[k]? = some x) (hx : (x || (decide ((k : Int) < n) && decide (k < low))) = x) : cutAt n low d (k + 1) = cutAt n low d k := by
  rw [cutAt_next h, hx]
  exact List.ext_getElem? (fun i => by
    by_cases hi : k = i
    · subst hi
      have hl := (List.getElem?_eq_some_iff.1 (cutAt_at (n := n) (low := low) h)).1
      rw [List.getElem?_set_self hl, cutAt_at h]
    · rw [List.getElem?_set_ne hi])
theorem cutN_next {n : Int} {low : Nat} {d : List Bool} {k : Nat} {x : Bool} (h : d[k]? = some x) : Tb.cutN n low 0 (d.take (k + 1)) = Tb.cutN n low 0 (d.take k) + (if !x && (decide ((k : Int) < n) && decide (k < low)) then 1 else 0) := by
  obtain ⟨hk, e⟩ := List.getElem?_eq_some_iff.1 h
  rw [take_at2 h, cutN_app, List.length_take, show min k d.length = k by omega]
  simp [Tb.cutN]
set_option maxRecDepth 100000 in
set_option maxHeartbeats 4000000 in
theorem rf_trim (t : Tb) (va vd vm : Value) (n : Int) (w0 w : World) (h : RtV w0 w t va vd vm) (hlen : t.dropped.length ≤ 1000) (hlow : t.low ≤ 1000) (hn : -9223372036854775808 ≤ n ∧ n ≤ 9223372036854775807) :
    Calls Tryd.prog 35 #[rtV t va vd vm, .int .i64 n] w fun ev w' => ∃ va' vd' vm', ev = .returned (.tuple #[rtV (t.trim n) va' vd' vm', .int .i64 (t.trimN n : Int)]) ∧ RtV w0 w' (t.trim n) va' vd' vm' ∧ (∀ b, rtB va' vd' vm' b → rtB va vd vm b ∨ w.heap.size ≤ b) ∧ Below w.heap.size w w' := by
  obtain ⟨mn, hm⟩ : ∃ m, t.marks.length = m := ⟨_, rfl⟩
  obtain ⟨an, han⟩ : ∃ m, t.all.length = m := ⟨_, rfl⟩
  obtain ⟨dn, hdn⟩ : ∃ m, t.dropped.length = m := ⟨_, rfl⟩
  obtain ⟨ma, mc, rfl, -, mcm⟩ := h.mks.lenN hm
  obtain ⟨aa, ac, rfl, -, acm⟩ := h.all.lenN han
  obtain ⟨da, dc, rfl, -, dcm⟩ := h.drp.lenN hdn
  have V := Lib.hid h
  have LN := Lib.hid (show t.marks.length = mn ∧ t.all.length = an ∧ t.dropped.length = dn from ⟨hm, han, hdn⟩)
  have R0 := Lib.hid (RtW.start w (rtL t (.slice aa an ac) (.slice da dn dc) (.slice ma mn mc)))
  obtain ⟨W, hW⟩ : ∃ W, W = (w.alloc (.cells (rtL t (.slice aa an ac) (.slice da dn dc) (.slice ma mn mc)).toArray 31)).alloc (.cells rtZ.toArray 31) := ⟨_, rfl⟩
  rw [← hW] at R0
  unfold rtL rtZ at hW
  have HW := Lib.hid hW
  have V1 := Lib.hid (V.out.below R0.out.low)
  unfold maxLen at mcm acm dcm
  unfold rtV
  have LX := Lib.hid (show dn ≤ 1000 by rw [← hdn]; exact hlen)
  clear h hm han hdn hW hlen
  have be := alloc_below0 W (.cells #[] 4)
  have BE := Lib.hid be
  have SZ := Lib.hid (show w.heap.size + 2 ≤ W.heap.size from R0.out.size)
  have V2 := Lib.hid (V1.out.below be)
  have R2 := Lib.hid (R0.out.step be)
  have OE := Lib.hid (OwnS.lit lBool W.heap.size W W.heap.size rfl [] (Nat.le_refl _) (by simp [maxLen]))
  have ZW := Lib.hid (show w.heap.size + 1 + 1 = W.heap.size by rw [HW.out]; simp)
  go_enter Tryd.func35, Tryd.ntmps35
  go_wp2_with (rw [← HW.out, ZW.out]; refine wpList_appS lBool 28 Tryd.underlying28 lBool_known (by decide) (by decide) rfl (.tmp 9) (.tmp 11) rfl W.heap.size rfl rfl OE.out V2.out.drp.sv (by have h1 := LN.out.2.2; have h2 := LX.out; simp; omega) BE.out.size ?_
               intro v7 w7 ho7 hg7
               rw [List.nil_append] at ho7
               have B7 := Lib.hid (BE.out.trans ((Kept.of_grown hg7).below (fun j hj => (OE.out.bounds j hj.symm).1) BE.out.size))
               obtain ⟨a7, c7, rfl, -, -⟩ := ho7.lenN LN.out.2.2
               have O7 := Lib.hid ho7
               clear ho7 hg7)
  go_loopg [6, 8] dn (fun c s i wr => ∃ k : Nat, k + c = dn ∧ i = .int .i64 k ∧ s = .int .i64 (Tb.cutN n t.low 0 (t.dropped.take k) : Int) ∧ Below W.heap.size W wr ∧ OwnS lBool W.heap.size wr (.slice a7 dn c7) (cutAt n t.low t.dropped k))
  case atStart => exact ⟨0, by omega, rfl, rfl, B7.out, by rw [cutAt_zero]; exact O7.out⟩
  case round =>
    obtain ⟨k, hk, rfl, rfl, hB, hO⟩ := hrel
    have A := Lib.hid (show Below W.heap.size W wr ∧ k + gk = dn from ⟨hB, hk⟩)
    have O5 := Lib.hid hO
    have R5 := Lib.hid (R0.out.step hB)
    have c1 := (show wr.cell? ⟨w.heap.size, 1, none⟩ = some (Value.int .i64 (t.low : Int)) from blk_cell R5.out.own 1)
    clear hB hO
    by_cases hlt : k < dn
    · obtain ⟨x, hx⟩ : ∃ x, t.dropped[k]? = some x := ⟨_, List.getElem?_eq_getElem (by rw [LN.out.2.2]; exact hlt)⟩
      have hO := O5.out
      obtain ⟨g, rfl⟩ := hO.addrN (by omega)
      have x0 := bool_cell hO (cutAt_at hx)
      have xf := hO.free k
      have GB := Lib.hid (show W.heap.size ≤ g from (hO.bounds g rfl).1)
      have T := Lib.hid (cutN_next (n := n) (low := t.low) hx)
      have hle : Tb.cutN n t.low 0 (t.dropped.take k) ≤ 1000 := by have h1 := cutN_le n t.low (t.dropped.take k) 0; rw [List.length_take] at h1; have h2 := LX.out; have h3 := LN.out.2.2; omega
      have j3 : (0 : Int) ≤ (k : Int) := by omega
      have j4 : (k : Int) < (dn : Int) := by omega
      have j5 : dn ≤ 1000 := LX.out
      by_cases q1 : (k : Int) < n
      · by_cases q2 : (k : Int) < (t.low : Int)
        · cases x with
          | true =>
            have S := Lib.hid (cutAt_same (n := n) (low := t.low) hx (Bool.true_or _))
            have T2 := Lib.hid (show Tb.cutN n t.low 0 (t.dropped.take (k + 1)) = Tb.cutN n t.low 0 (t.dropped.take k) by rw [T.out]; rfl)
            clear hx hO
            go_wp2
            go_roundg (dn - (k + 1))
            case measure => have := A.out.2; omega
            case rel => exact ⟨k + 1, by omega, by go_num, by rw [T2.out], A.out.1, by rw [S.out]; exact O5.out⟩
          | false =>
            have hy : (false || (decide ((k : Int) < n) && decide (k < t.low))) = true := by rw [decide_eq_true q1, decide_eq_true (show k < t.low by omega)]; rfl
            have S := Lib.hid (show OwnS lBool W.heap.size (wr.setCell ⟨g, k, none⟩ (.bool true)) (.slice (some ⟨g, 0, none⟩) dn c7) (cutAt n t.low t.dropped (k + 1)) by
              rw [cutAt_next hx, hy]
              have h := hO.set (cutAt_at hx) (y := true) (j := 0) (u := .bool true) (by decide) rfl
              simpa [lBool] using h)
            have T2 := Lib.hid (show Tb.cutN n t.low 0 (t.dropped.take (k + 1)) = Tb.cutN n t.low 0 (t.dropped.take k) + 1 by rw [T.out, decide_eq_true q1, decide_eq_true (show k < t.low by omega)]; rfl)
            have B9 := Lib.hid (below_set A.out.1 GB.out k (.bool true))
            clear hx hO hy
            generalize Tb.cutN n t.low 0 (t.dropped.take k) = s at *
            go_wp2
            go_roundg (dn - (k + 1))
            case measure => have := A.out.2; omega
            case rel => exact ⟨k + 1, by omega, by go_num, by rw [T2.out]; go_num, B9.out, S.out⟩
        · have hd : decide (k < t.low) = false := decide_eq_false (by omega)
          have S := Lib.hid (cutAt_same (n := n) (low := t.low) hx (by rw [hd]; simp))
          have T2 := Lib.hid (show Tb.cutN n t.low 0 (t.dropped.take (k + 1)) = Tb.cutN n t.low 0 (t.dropped.take k) by rw [T.out, hd]; simp)
          clear hx hO hd
          go_wp2
          go_roundg (dn - (k + 1))
          case measure => have := A.out.2; omega
          case rel => exact ⟨k + 1, by omega, by go_num, by rw [T2.out], A.out.1, by rw [S.out]; exact O5.out⟩
      · have hd : decide ((k : Int) < n) = false := decide_eq_false q1
        have S := Lib.hid (cutAt_same (n := n) (low := t.low) hx (by rw [hd]; simp))
        have T2 := Lib.hid (show Tb.cutN n t.low 0 (t.dropped.take (k + 1)) = Tb.cutN n t.low 0 (t.dropped.take k) by rw [T.out, hd]; simp)
        clear hx hO hd
        go_wp2
        go_roundg (dn - (k + 1))
        case measure => have := A.out.2; omega
        case rel => exact ⟨k + 1, by omega, by go_num, by rw [T2.out], A.out.1, by rw [S.out]; exact O5.out⟩
    · obtain rfl : dn = k := by have := A.out.2; omega
      have G := Lib.hid (show Tb.cutN n t.low 0 (t.dropped.take dn) = t.trimN n by rw [List.take_of_length_le (Nat.le_of_eq LN.out.2.2)]; rfl)
      rw [G.out]
      rw [cutAt_full n t.low LN.out.2.2] at O5
      have c3 := (show wr.cell? ⟨w.heap.size, 3, none⟩ = some (Value.slice da dn dc) from blk_cell R5.out.own 3)
      have f3 := blk_free R5.out.own 3
      go_wp2_with (first
        | (refine wpList_load_mid rfl 31 (.tmp 2) rfl w.heap.size 0 rfl (rtL t (.slice aa an ac) (.slice a7 dn c7) (.slice ma mn mc)) _ (rangeOf (((R5.out.field 3 (.slice a7 dn c7)))).own) Tryd.underlying31 rfl rtInfo ?_)
        | (refine wpList_store_mid rfl 31 (.tmp 4) (.tmp 42) rfl (w.heap.size + 1) 0 (rtL t (.slice aa an ac) (.slice a7 dn c7) (.slice ma mn mc)).toArray rfl rfl (((R5.out.field 3 (.slice a7 dn c7)))).thereR rtInfo (rtL_one _ _ _ _ _ _ _ _ _ _) ?_
           generalize hwz : World.setCells _ _ _ _ = wz
           have RZ := Lib.hid (show RtW w wz _ (rtL t (.slice aa an ac) (.slice a7 dn c7) (.slice ma mn mc)) by rw [← hwz]; exact (((R5.out.field 3 (.slice a7 dn c7)))).put (n := 6) rfl _ rfl)
           have KZ := Lib.hid (show Kept (rtK w.heap.size) wr wz by rw [← hwz]; exact (keptF _ _ _ _).trans (keptP _ _ _))
           clear hwz))
      exact bodyPost_ret (v := .tuple #[.agg (rtL t (.slice aa an ac) (.slice a7 dn c7) (.slice ma mn mc)).toArray, .int .i64 (t.trimN n : Int)]) (results_cellT rfl _ _ (w.heap.size + 1) _ _ (.int .i64 (t.trimN n : Int)) rfl rfl (rangeOf RZ.out.ans) Tryd.underlying31 rfl rtInfo) rfl ⟨_, _, _, rfl, by
        have hv := V.out.below RZ.out.low
        refine ⟨hv.all, (O5.out.mono (Nat.zero_le _)).kept KZ.out (fun a m c hv hs => ?_), hv.mks⟩
        have h1 := (O5.out.bounds a.block (by rw [hv]; rfl)).1
        have h2 := SZ.out
        rcases hs with hs | hs <;> omega, fun b hb => by
        rcases hb with hb | hb | hb
        · exact .inl (.inl hb)
        · have h1 := (O5.out.bounds b hb).1
          have h2 := SZ.out
          exact .inr (by omega)
        · exact .inl (.inr (.inr hb)), RZ.out.low⟩
end Go.Proofs.YtkbfhpgcjljbbaaDoor
