/- Package inner's own functions (layer 8), by contracts: Grow of what has none. -/
import Derived.Test.YtkkmfacngmginaaInSplitN
namespace Go.Proofs.Ytkkmfacngmginaa
open Go.RowKit

theorem results_cellC3T {fn : Func} {p q s u : Tmp} {ty : TypeId} (h : fn.results = #[.cell p ty, .cell q ty, .cell s ty, .tmp u]) (tmps : Array Value) (w : World) (b b2 b3 : Nat) (cs c2 c3 : List Value) (d : TypeDesc) (ev : Value) (hp : tmps.getD p undef = .pointer (some ⟨b, 0, none⟩)) (hq : tmps.getD q undef = .pointer (some ⟨b2, 0, none⟩)) (hs : tmps.getD s undef = .pointer (some ⟨b3, 0, none⟩)) (hev : tmps.getD u undef = ev) (hc : w.rangeAt b 0 cs) (hc2 : w.rangeAt b2 0 c2) (hc3 : w.rangeAt b3 0 c3)
    (hu : Try.prog.underlying ty = some d) (hd : d.isRow = true) (hi : (Try.prog.info? ty).map (·.size) = some cs.length) (hi2 : (Try.prog.info? ty).map (·.size) = some c2.length) (hi3 : (Try.prog.info? ty).map (·.size) = some c3.length) : (results fn tmps).run Try.prog w = .ok (.tuple #[.agg cs.toArray, .agg c2.toArray, .agg c3.toArray, ev]) w := by
  have hl := run_loadVar_mid w b 0 ty cs d hc hu hd hi
  have hl2 := run_loadVar_mid w b2 0 ty c2 d hc2 hu hd hi2
  have hl3 := run_loadVar_mid w b3 0 ty c3 d hc3 hu hd hi3
  have hp' : tmps[p]?.getD undef = .pointer (some ⟨b, 0, none⟩) := by simpa using hp
  have hq' : tmps[q]?.getD undef = .pointer (some ⟨b2, 0, none⟩) := by simpa using hq
  have hs' : tmps[s]?.getD undef = .pointer (some ⟨b3, 0, none⟩) := by simpa using hs
  have hev' : tmps[u]?.getD undef = ev := by simpa using hev
  simp only [results, h]
  simp [hp', hq', hs', hev', asAddr, hl, hl2, hl3]
set_option maxRecDepth 100000 in
set_option maxHeartbeats 4000000 in
theorem grow_no (v : IvD) (en : Value) (l r : Int) (w : World) (hv : SV lEnt w en v.ents) (hw : whyI v ≠ 0) (hl : v.ents.length ≤ 2000) :
    Calls Try.prog 14 #[ivVal v en, .int .i64 l, .int .i64 r] w fun ev w' => ∃ a b t, ev = .returned (.tuple #[a, b, t, .iface 73 (.int .i64 (whyI v))]) ∧ RecO w.heap.size w' a RecD.zero ∧ RecO w.heap.size w' b RecD.zero ∧ RecO w.heap.size w' t RecD.zero ∧ Below w.heap.size w w' := by
  obtain ⟨a, c, rfl, hlc, hcm⟩ := hv.lenform
  obtain ⟨n, hn⟩ : ∃ n, v.ents.length = n := ⟨_, rfl⟩
  have HL := Lib.hid hl
  rw [hn] at hv hlc ⊢
  obtain ⟨W0, hW0⟩ : ∃ W, W = (((w.alloc (ivObj v (.slice a n c))).alloc recZ).alloc recZ).alloc recZ := ⟨_, rfl⟩
  have zq : ((w.alloc (ivObj v (.slice a n c))).alloc recZ).heap.size = w.heap.size + 1 + 1 := by simp
  have zr : (((w.alloc (ivObj v (.slice a n c))).alloc recZ).alloc recZ).heap.size = w.heap.size + 1 + 1 + 1 := by simp
  have bq := alloc2_below ((w.alloc (ivObj v (.slice a n c))).alloc recZ) recZ recZ
  have ba := alloc2_below w (ivObj v (.slice a n c)) recZ
  have B0 := Lib.hid (show Below w.heap.size w W0 by rw [hW0]; exact ba.trans (bq.mono ba.size))
  have K0 := Lib.hid (show HB w.heap.size (ivObj v (.slice a n c)) W0 by rw [hW0]; exact (HB.fst _ _ _).below bq)
  have P0 := Lib.hid (show HB (w.heap.size + 1) recZ W0 by rw [hW0]; exact (HB.snd _ _ _).below bq)
  have R0 := Lib.hid (show HB (w.heap.size + 1 + 1) recZ W0 by rw [hW0, ← zq]; exact HB.fst _ _ _)
  have T0 := Lib.hid (show HB (w.heap.size + 1 + 1 + 1) recZ W0 by rw [hW0, ← zr]; exact HB.new _ _)
  have Z := Lib.hid (show W0.heap.size = w.heap.size + 4 by rw [hW0]; simp)
  have E0 := Lib.hid (hv.below B0.out)
  unfold ivObj recZ at hW0
  clear zq zr bq ba hv hn K0
  have hcl := halves_no v (.slice a n c) r W0 E0.out hw HL.out
  simp only [ivVal, nilV, IvD.zero] at hcl
  obtain ⟨y, hy⟩ : ∃ y, whyI v = y := ⟨_, rfl⟩
  rw [hy] at hcl
  rw [hy]
  clear hy hw
  unfold ivVal
  go_enter Try.func14, Try.ntmps14
  go_wp2_with fail
  rw [← hW0]
  clear hW0
  refine hcl.mono ?_
  rintro ev w1 ⟨rfl, hs⟩
  have B1 := Lib.hid (B0.out.trans (hs.mono B0.out.size))
  have P1 := Lib.hid (P0.out.below hs)
  have R1 := Lib.hid (R0.out.below hs)
  have T1 := Lib.hid (T0.out.below hs)
  clear hs hcl
  obtain ⟨W1, hW1⟩ : ∃ W, W = (w1.alloc (.cells #[.string ⟨#[]⟩, .string ⟨#[]⟩, .bool false, .int .i64 0, .slice none 0 0, .bool false, .int .i64 0, .int .i64 0, .string ⟨#[]⟩] 29)).alloc (.cells #[.string ⟨#[]⟩, .string ⟨#[]⟩, .bool false, .int .i64 0, .slice none 0 0, .bool false, .int .i64 0, .int .i64 0, .string ⟨#[]⟩] 29) := ⟨_, rfl⟩
  have b2 := alloc2_below w1 (.cells #[.string ⟨#[]⟩, .string ⟨#[]⟩, .bool false, .int .i64 0, .slice none 0 0, .bool false, .int .i64 0, .int .i64 0, .string ⟨#[]⟩] 29) (.cells #[.string ⟨#[]⟩, .string ⟨#[]⟩, .bool false, .int .i64 0, .slice none 0 0, .bool false, .int .i64 0, .int .i64 0, .string ⟨#[]⟩] 29)
  rw [← hW1] at b2
  have B2 := Lib.hid (B1.out.trans (b2.mono B1.out.size))
  have P2 := Lib.hid (P1.out.below b2)
  have R2 := Lib.hid (R1.out.below b2)
  have T2 := Lib.hid (T1.out.below b2)
  clear b2
  have P9 := Lib.hid (show HB (w.heap.size + 1) recZ (W1.setCells (w.heap.size + 1) 0 (recCells Sc.zero (.slice none 0 0) (.slice none 0 0)).toArray.toList) from P2.out.sets (recCells Sc.zero (.slice none 0 0) (.slice none 0 0)) rfl)
  have R9 := Lib.hid (show HB (w.heap.size + 1 + 1) recZ (W1.setCells (w.heap.size + 1) 0 (recCells Sc.zero (.slice none 0 0) (.slice none 0 0)).toArray.toList) from R2.out.off (b2 := w.heap.size + 1) (by omega) (recCells Sc.zero (.slice none 0 0) (.slice none 0 0)) 0)
  have T9 := Lib.hid (show HB (w.heap.size + 1 + 1 + 1) recZ (W1.setCells (w.heap.size + 1) 0 (recCells Sc.zero (.slice none 0 0) (.slice none 0 0)).toArray.toList) from T2.out.off (b2 := w.heap.size + 1) (by omega) (recCells Sc.zero (.slice none 0 0) (.slice none 0 0)) 0)
  have B9 := Lib.hid (show Below w.heap.size w (W1.setCells (w.heap.size + 1) 0 (recCells Sc.zero (.slice none 0 0) (.slice none 0 0)).toArray.toList) from below_setCells (b := w.heap.size + 1) (by omega) (recCells Sc.zero (.slice none 0 0) (.slice none 0 0)) 0 _ B2.out)
  have F8 := Lib.hid (show ∀ W2 : World, HB (w.heap.size + 1) recZ W2 → HB (w.heap.size + 1 + 1) recZ W2 → HB (w.heap.size + 1 + 1 + 1) recZ W2 → Below w.heap.size w W2 → HB (w.heap.size + 1) recZ (W2.setCells (w.heap.size + 1 + 1) 0 (recCells Sc.zero (.slice none 0 0) (.slice none 0 0)).toArray.toList) ∧ HB (w.heap.size + 1 + 1) recZ (W2.setCells (w.heap.size + 1 + 1) 0 (recCells Sc.zero (.slice none 0 0) (.slice none 0 0)).toArray.toList) ∧ HB (w.heap.size + 1 + 1 + 1) recZ (W2.setCells (w.heap.size + 1 + 1) 0 (recCells Sc.zero (.slice none 0 0) (.slice none 0 0)).toArray.toList) ∧ Below w.heap.size w (W2.setCells (w.heap.size + 1 + 1) 0 (recCells Sc.zero (.slice none 0 0) (.slice none 0 0)).toArray.toList) from fun W2 p r t b => ⟨p.off (b2 := w.heap.size + 1 + 1) (by omega) (recCells Sc.zero (.slice none 0 0) (.slice none 0 0)) 0, r.sets (recCells Sc.zero (.slice none 0 0) (.slice none 0 0)) rfl, t.off (b2 := w.heap.size + 1 + 1) (by omega) (recCells Sc.zero (.slice none 0 0) (.slice none 0 0)) 0, below_setCells (b := w.heap.size + 1 + 1) (by omega) (recCells Sc.zero (.slice none 0 0) (.slice none 0 0)) 0 _ b⟩)
  go_wp2_with (first | (rw [← hW1]; refine wpList_store_mid rfl 39 (.tmp 6) (.tmp 22) rfl (w.heap.size + 1) 0 (recCells Sc.zero (.slice none 0 0) (.slice none 0 0)).toArray rfl rfl ?_ recInfoS (rec_one ..) ?_; exact P2.out.there 15 (Nat.le_refl _); generalize hW2 : World.setCells W1 _ _ _ = W2 at P9 R9 T9 B9 ⊢; clear hW2) | (refine wpList_store_mid rfl 39 (.tmp 7) (.tmp 23) rfl (w.heap.size + 1 + 1) 0 (recCells Sc.zero (.slice none 0 0) (.slice none 0 0)).toArray rfl rfl ?_ recInfoS (rec_one ..) ?_; exact R9.out.there 15 (Nat.le_refl _); have F9 := Lib.hid (F8.out W2 P9.out R9.out T9.out B9.out); generalize hW3 : World.setCells W2 _ _ _ = W3 at F9 ⊢; clear hW3) | (refine wpList_store_mid rfl 39 (.tmp 8) (.tmp 24) rfl (w.heap.size + 1 + 1 + 1) 0 (recCells Sc.zero (.slice none 0 0) (.slice none 0 0)).toArray rfl rfl ?_ recInfoS (rec_one ..) ?_; exact F9.out.2.2.1.there 15 (Nat.le_refl _)))
  have P8 := F9.out.1.off (b2 := w.heap.size + 1 + 1 + 1) (by omega) (recCells Sc.zero (.slice none 0 0) (.slice none 0 0)) 0
  have R8 := F9.out.2.1.off (b2 := w.heap.size + 1 + 1 + 1) (by omega) (recCells Sc.zero (.slice none 0 0) (.slice none 0 0)) 0
  have T8 := F9.out.2.2.1.sets (recCells Sc.zero (.slice none 0 0) (.slice none 0 0)) rfl
  have B8 := below_setCells (b := w.heap.size + 1 + 1 + 1) (show w.heap.size ≤ w.heap.size + 1 + 1 + 1 by omega) (recCells Sc.zero (.slice none 0 0) (.slice none 0 0)) 0 _ F9.out.2.2.2
  refine bodyPost_ret (v := .tuple #[.agg (recCells Sc.zero (.slice none 0 0) (.slice none 0 0)).toArray, .agg (recCells Sc.zero (.slice none 0 0) (.slice none 0 0)).toArray, .agg (recCells Sc.zero (.slice none 0 0) (.slice none 0 0)).toArray, .iface 73 (.int .i64 y)]) (results_cellC3T rfl _ _ (w.heap.size + 1) (w.heap.size + 1 + 1) (w.heap.size + 1 + 1 + 1) _ _ _ _ _ rfl rfl rfl rfl (rec_range (s := Sc.zero) P8.b) (rec_range (s := Sc.zero) R8.b) (rec_range (s := Sc.zero) T8.b) Try.underlying39 rfl recInfoS recInfoS recInfoS) rfl ?_
  exact ⟨_, _, _, rfl, RecO.zero _ _, RecO.zero _ _, RecO.zero _ _, B8⟩
end Go.Proofs.Ytkkmfacngmginaa
