/- Package inner's own functions (layer 8), by contracts: halves of what has none. -/
import Derived.Test.YtkkmfacngmginaaInEnd
namespace Go.Proofs.Ytkkmfacngmginaa
open Go.RowKit

theorem World.size_setCells : ∀ (vs : List Value) (w : World) (b o : Nat), (w.setCells b o vs).heap.size = w.heap.size
  | [], _, _, _ => rfl
  | v :: vs, w, b, o => (World.size_setCells vs (w.setCell ⟨b, o, none⟩ v) b (o + 1)).trans (by simp [World.setCell])
theorem results_cellCCT {fn : Func} {p q u : Tmp} {ty t2 : TypeId} (h : fn.results = #[.cell p ty, .cell q t2, .tmp u]) (tmps : Array Value) (w : World) (b b2 : Nat) (cs c2 : List Value) (d d2 : TypeDesc) (ev : Value) (hp : tmps.getD p undef = .pointer (some ⟨b, 0, none⟩)) (hq : tmps.getD q undef = .pointer (some ⟨b2, 0, none⟩)) (hev : tmps.getD u undef = ev) (hc : w.rangeAt b 0 cs) (hc2 : w.rangeAt b2 0 c2)
    (hu : Try.prog.underlying ty = some d) (hd : d.isRow = true) (hi : (Try.prog.info? ty).map (·.size) = some cs.length) (hu2 : Try.prog.underlying t2 = some d2) (hd2 : d2.isRow = true) (hi2 : (Try.prog.info? t2).map (·.size) = some c2.length) : (results fn tmps).run Try.prog w = .ok (.tuple #[.agg cs.toArray, .agg c2.toArray, ev]) w := by
  have hl := run_loadVar_mid w b 0 ty cs d hc hu hd hi
  have hl2 := run_loadVar_mid w b2 0 t2 c2 d2 hc2 hu2 hd2 hi2
  have hp' : tmps[p]?.getD undef = .pointer (some ⟨b, 0, none⟩) := by simpa using hp
  have hq' : tmps[q]?.getD undef = .pointer (some ⟨b2, 0, none⟩) := by simpa using hq
  have hev' : tmps[u]?.getD undef = ev := by simpa using hev
  simp only [results, h]
  simp [hp', hq', hev', asAddr, hl, hl2]
set_option maxRecDepth 100000 in
set_option maxHeartbeats 4000000 in
theorem halves_no (v : IvD) (en : Value) (p : Int) (w : World) (hv : SV lEnt w en v.ents) (hw : whyI v ≠ 0) (hl : v.ents.length ≤ 2000) :
    Calls Try.prog 48 #[ivVal v en, .int .i64 p] w fun ev w' => ev = .returned (.tuple #[ivVal IvD.zero nilV, ivVal IvD.zero nilV, .iface 73 (.int .i64 (whyI v))]) ∧ Below w.heap.size w w' := by
  obtain ⟨a, c, rfl, hlc, hcm⟩ := hv.lenform
  obtain ⟨n, hn⟩ : ∃ n, v.ents.length = n := ⟨_, rfl⟩
  have LN := Lib.hid hn
  rw [hn] at hv hlc hl ⊢
  obtain ⟨W0, hW0⟩ : ∃ W, W = ((w.alloc (ivObj v (.slice a n c))).alloc ivZero).alloc ivZero := ⟨_, rfl⟩
  have zq : ((w.alloc (ivObj v (.slice a n c))).alloc ivZero).heap.size = w.heap.size + 2 := by simp
  have bq := alloc_below0 ((w.alloc (ivObj v (.slice a n c))).alloc ivZero) ivZero
  have ba := alloc2_below w (ivObj v (.slice a n c)) ivZero
  have B0 := Lib.hid (show Below w.heap.size w W0 by rw [hW0]; exact ba.trans (bq.mono ba.size))
  have K0 := Lib.hid (show HB w.heap.size (ivObj v (.slice a n c)) W0 by rw [hW0]; exact (HB.fst _ _ _).below bq)
  have P0 := Lib.hid (show HB (w.heap.size + 1) ivZero W0 by rw [hW0]; exact (HB.snd _ _ _).below bq)
  have R0 := Lib.hid (show HB (w.heap.size + 1 + 1) ivZero W0 by rw [hW0, show w.heap.size + 1 + 1 = w.heap.size + 2 from rfl, ← zq]; exact HB.new _ _)
  have Z := Lib.hid (show W0.heap.size = w.heap.size + 3 by rw [hW0]; simp)
  have v_4 := K0.out.vb.c4
  have v_5 := K0.out.vb.c5
  unfold ivObj ivZero at hW0
  clear zq bq ba hv hn v_4 v_5
  unfold ivVal
  by_cases hh : v.held = true
  · have WH := Lib.hid (show whyI v = 13 from by unfold whyI; rw [if_pos hh])
    rw [hh] at hW0 ⊢
    clear hh
    go_enter Try.func48, Try.ntmps48
    have P9 := Lib.hid (show HB (w.heap.size + 1) (ivObj IvD.zero nilV) (W0.setCells (w.heap.size + 1) 0 (ivCells IvD.zero nilV).toArray.toList) from P0.out.sets (ivCells IvD.zero nilV) rfl)
    have R9 := Lib.hid (show HB (w.heap.size + 1 + 1) ivZero (W0.setCells (w.heap.size + 1) 0 (ivCells IvD.zero nilV).toArray.toList) from R0.out.off (b2 := w.heap.size + 1) (by omega) (ivCells IvD.zero nilV) 0)
    have B9 := Lib.hid (show Below w.heap.size w (W0.setCells (w.heap.size + 1) 0 (ivCells IvD.zero nilV).toArray.toList) from below_setCells (b := w.heap.size + 1) (Nat.le_succ w.heap.size) (ivCells IvD.zero nilV) 0 _ B0.out)
    go_wp2_with (first | (rw [← hW0]; refine wpList_store_mid rfl 29 (.tmp 4) (.tmp 13) rfl (w.heap.size + 1) 0 (ivCells IvD.zero nilV).toArray rfl rfl ?_ ivInfoS (iv_one _ _ _ _) ?_; exact P0.out.there 9 (Nat.le_refl _); generalize hW1 : World.setCells W0 _ _ _ = W1 at P9 R9 B9 ⊢; clear hW1) | (refine wpList_store_mid rfl 29 (.tmp 5) (.tmp 14) rfl (w.heap.size + 1 + 1) 0 (ivCells IvD.zero nilV).toArray rfl rfl ?_ ivInfoS (iv_one _ _ _ _) ?_; exact R9.out.there 9 (Nat.le_refl _)))
    have P8 := P9.out.off (b2 := w.heap.size + 1 + 1) (by omega) (ivCells IvD.zero nilV) 0
    have R8 := R9.out.sets (ivCells IvD.zero nilV) rfl
    have B8 := below_setCells (b := w.heap.size + 1 + 1) (show w.heap.size ≤ w.heap.size + 1 + 1 by omega) (ivCells IvD.zero nilV) 0 _ B9.out
    refine bodyPost_ret (v := .tuple #[.agg (ivCells IvD.zero nilV).toArray, .agg (ivCells IvD.zero nilV).toArray, .iface 73 (.int .i64 13)]) (results_cellCCT rfl _ _ (w.heap.size + 1) (w.heap.size + 1 + 1) _ _ _ _ _ rfl rfl rfl (iv_range P8) (iv_range R8) Try.underlying29 rfl ivInfoS Try.underlying29 rfl ivInfoS) rfl ?_
    exact ⟨by rw [WH.out]; rfl, B8⟩
  · have hh2 : v.held = false := by simpa using hh
    have h2 : n < 2 := by
      unfold whyI at hw
      rw [if_neg hh, LN.out] at hw
      by_cases h : n < 2
      · exact h
      · rw [if_neg h] at hw; exact absurd rfl hw
    have WH := Lib.hid (show whyI v = 2 from by unfold whyI; rw [if_neg hh, LN.out, if_pos h2])
    have h3 : (n : Int) < 2 := by omega
    rw [hh2] at hW0 ⊢
    clear hh hh2
    go_enter Try.func48, Try.ntmps48
    have P9 := Lib.hid (show HB (w.heap.size + 1) (ivObj IvD.zero nilV) (W0.setCells (w.heap.size + 1) 0 (ivCells IvD.zero nilV).toArray.toList) from P0.out.sets (ivCells IvD.zero nilV) rfl)
    have R9 := Lib.hid (show HB (w.heap.size + 1 + 1) ivZero (W0.setCells (w.heap.size + 1) 0 (ivCells IvD.zero nilV).toArray.toList) from R0.out.off (b2 := w.heap.size + 1) (by omega) (ivCells IvD.zero nilV) 0)
    have B9 := Lib.hid (show Below w.heap.size w (W0.setCells (w.heap.size + 1) 0 (ivCells IvD.zero nilV).toArray.toList) from below_setCells (b := w.heap.size + 1) (Nat.le_succ w.heap.size) (ivCells IvD.zero nilV) 0 _ B0.out)
    go_wp2_with (first | (rw [← hW0]; refine wpList_store_mid rfl 29 (.tmp 4) (.tmp 20) rfl (w.heap.size + 1) 0 (ivCells IvD.zero nilV).toArray rfl rfl ?_ ivInfoS (iv_one _ _ _ _) ?_; exact P0.out.there 9 (Nat.le_refl _); generalize hW1 : World.setCells W0 _ _ _ = W1 at P9 R9 B9 ⊢; clear hW1) | (refine wpList_store_mid rfl 29 (.tmp 5) (.tmp 21) rfl (w.heap.size + 1 + 1) 0 (ivCells IvD.zero nilV).toArray rfl rfl ?_ ivInfoS (iv_one _ _ _ _) ?_; exact R9.out.there 9 (Nat.le_refl _)))
    have P8 := P9.out.off (b2 := w.heap.size + 1 + 1) (by omega) (ivCells IvD.zero nilV) 0
    have R8 := R9.out.sets (ivCells IvD.zero nilV) rfl
    have B8 := below_setCells (b := w.heap.size + 1 + 1) (show w.heap.size ≤ w.heap.size + 1 + 1 by omega) (ivCells IvD.zero nilV) 0 _ B9.out
    refine bodyPost_ret (v := .tuple #[.agg (ivCells IvD.zero nilV).toArray, .agg (ivCells IvD.zero nilV).toArray, .iface 73 (.int .i64 2)]) (results_cellCCT rfl _ _ (w.heap.size + 1) (w.heap.size + 1 + 1) _ _ _ _ _ rfl rfl rfl (iv_range P8) (iv_range R8) Try.underlying29 rfl ivInfoS Try.underlying29 rfl ivInfoS) rfl ?_
    exact ⟨by rw [WH.out]; rfl, B8⟩
end Go.Proofs.Ytkkmfacngmginaa
