/- Package inner's own functions (layer 8), by contracts: Split of what has none. -/
import Derived.Test.YtkkmfacngmginaaInHalves
import Derived.Test.YtkkmfacngmginaaInBase
namespace Go.Proofs.Ytkkmfacngmginaa
open Go.RowKit

theorem RcO.sets {base : Nat} {w : World} {d : RcD} (h : RcO base w d) {b : Nat} (hb : b < base) (k : Nat) (vs : List Value) : RcO base (w.setCells b k vs) d := ⟨h.rows.sets hb k vs, h.ents.sets hb k vs, h.sz, h.smallR, h.smallE, h.fitR, h.fitE⟩
theorem RecO.zero (base : Nat) (w : World) : RecO base w (recVal Sc.zero (.slice none 0 0) (.slice none 0 0)) RecD.zero :=
  ⟨⟨Sc.zero, none, 0, none, 0, [], []⟩, rfl, RcO.bare base w Sc.zero ⟨show 0 ≤ maxLen by decide, show 0 ≤ maxLen by decide, show 0 ≤ maxLen by decide, show 0 ≤ maxLen by decide, show 0 ≤ maxLen by decide⟩, rfl⟩
set_option maxRecDepth 100000 in
set_option maxHeartbeats 4000000 in
theorem split_no (v : IvD) (en : Value) (p : Int) (w : World) (hv : SV lEnt w en v.ents) (hw : whyI v ≠ 0) (hl : v.ents.length ≤ 2000) :
    Calls Try.prog 11 #[ivVal v en, .int .i64 p] w fun ev w' => ∃ a b, ev = .returned (.tuple #[a, b, .iface 73 (.int .i64 (whyI v))]) ∧ RecO w.heap.size w' a RecD.zero ∧ RecO w.heap.size w' b RecD.zero ∧ Below w.heap.size w w' := by
  obtain ⟨a, c, rfl, hlc, hcm⟩ := hv.lenform
  obtain ⟨n, hn⟩ : ∃ n, v.ents.length = n := ⟨_, rfl⟩
  have LN := Lib.hid hn
  have HL := Lib.hid hl
  rw [hn] at hv hlc ⊢
  obtain ⟨W0, hW0⟩ : ∃ W, W = ((w.alloc (ivObj v (.slice a n c))).alloc recZ).alloc recZ := ⟨_, rfl⟩
  have zq : ((w.alloc (ivObj v (.slice a n c))).alloc recZ).heap.size = w.heap.size + 2 := by simp
  have bq := alloc_below0 ((w.alloc (ivObj v (.slice a n c))).alloc recZ) recZ
  have ba := alloc2_below w (ivObj v (.slice a n c)) recZ
  have B0 := Lib.hid (show Below w.heap.size w W0 by rw [hW0]; exact ba.trans (bq.mono ba.size))
  have K0 := Lib.hid (show HB w.heap.size (ivObj v (.slice a n c)) W0 by rw [hW0]; exact (HB.fst _ _ _).below bq)
  have P0 := Lib.hid (show HB (w.heap.size + 1) recZ W0 by rw [hW0]; exact (HB.snd _ _ _).below bq)
  have R0 := Lib.hid (show HB (w.heap.size + 1 + 1) recZ W0 by rw [hW0, show w.heap.size + 1 + 1 = w.heap.size + 2 from rfl, ← zq]; exact HB.new _ _)
  have Z := Lib.hid (show W0.heap.size = w.heap.size + 3 by rw [hW0]; simp)
  have E0 := Lib.hid (hv.below B0.out)
  unfold ivObj recZ at hW0
  clear zq bq ba hv hn
  have hcl := halves_no v (.slice a n c) p W0 E0.out hw HL.out
  simp only [ivVal, nilV, IvD.zero] at hcl
  obtain ⟨y, hy⟩ : ∃ y, whyI v = y := ⟨_, rfl⟩
  rw [hy] at hcl
  rw [hy]
  clear hy hw
  unfold ivVal
  go_enter Try.func11, Try.ntmps11
  go_wp2_with fail
  rw [← hW0]
  clear hW0
  refine hcl.mono ?_
  rintro ev w1 ⟨rfl, hs⟩
  have B1 := Lib.hid (B0.out.trans (hs.mono B0.out.size))
  have P1 := Lib.hid (P0.out.below hs)
  have R1 := Lib.hid (R0.out.below hs)
  have Z1 := Lib.hid hs.size
  clear hs hcl
  obtain ⟨W1, hW1⟩ : ∃ W, W = (w1.alloc (.cells #[.string ⟨#[]⟩, .string ⟨#[]⟩, .bool false, .int .i64 0, .slice none 0 0, .bool false, .int .i64 0, .int .i64 0, .string ⟨#[]⟩] 29)).alloc (.cells #[.string ⟨#[]⟩, .string ⟨#[]⟩, .bool false, .int .i64 0, .slice none 0 0, .bool false, .int .i64 0, .int .i64 0, .string ⟨#[]⟩] 29) := ⟨_, rfl⟩
  have b2 := alloc2_below w1 (.cells #[.string ⟨#[]⟩, .string ⟨#[]⟩, .bool false, .int .i64 0, .slice none 0 0, .bool false, .int .i64 0, .int .i64 0, .string ⟨#[]⟩] 29) (.cells #[.string ⟨#[]⟩, .string ⟨#[]⟩, .bool false, .int .i64 0, .slice none 0 0, .bool false, .int .i64 0, .int .i64 0, .string ⟨#[]⟩] 29)
  rw [← hW1] at b2
  have B2 := Lib.hid (B1.out.trans (b2.mono B1.out.size))
  have P2 := Lib.hid (P1.out.below b2)
  have R2 := Lib.hid (R1.out.below b2)
  clear b2
  have P9 := Lib.hid (show HB (w.heap.size + 1) recZ (W1.setCells (w.heap.size + 1) 0 (recCells Sc.zero (.slice none 0 0) (.slice none 0 0)).toArray.toList) from P2.out.sets (recCells Sc.zero (.slice none 0 0) (.slice none 0 0)) rfl)
  have R9 := Lib.hid (show HB (w.heap.size + 1 + 1) recZ (W1.setCells (w.heap.size + 1) 0 (recCells Sc.zero (.slice none 0 0) (.slice none 0 0)).toArray.toList) from R2.out.off (b2 := w.heap.size + 1) (by omega) (recCells Sc.zero (.slice none 0 0) (.slice none 0 0)) 0)
  have B9 := Lib.hid (show Below w.heap.size w (W1.setCells (w.heap.size + 1) 0 (recCells Sc.zero (.slice none 0 0) (.slice none 0 0)).toArray.toList) from below_setCells (b := w.heap.size + 1) (Nat.le_succ w.heap.size) (recCells Sc.zero (.slice none 0 0) (.slice none 0 0)) 0 _ B2.out)
  go_wp2_with (first | (rw [← hW1]; refine wpList_store_mid rfl 39 (.tmp 4) (.tmp 19) rfl (w.heap.size + 1) 0 (recCells Sc.zero (.slice none 0 0) (.slice none 0 0)).toArray rfl rfl ?_ recInfoS (rec_one ..) ?_; exact P2.out.there 15 (Nat.le_refl _); generalize hW2 : World.setCells W1 _ _ _ = W2 at P9 R9 B9 ⊢; clear hW2) | (refine wpList_store_mid rfl 39 (.tmp 5) (.tmp 20) rfl (w.heap.size + 1 + 1) 0 (recCells Sc.zero (.slice none 0 0) (.slice none 0 0)).toArray rfl rfl ?_ recInfoS (rec_one ..) ?_; exact R9.out.there 15 (Nat.le_refl _)))
  have P8 := P9.out.off (b2 := w.heap.size + 1 + 1) (by omega) (recCells Sc.zero (.slice none 0 0) (.slice none 0 0)) 0
  have R8 := R9.out.sets (recCells Sc.zero (.slice none 0 0) (.slice none 0 0)) rfl
  have B8 := below_setCells (b := w.heap.size + 1 + 1) (show w.heap.size ≤ w.heap.size + 1 + 1 by omega) (recCells Sc.zero (.slice none 0 0) (.slice none 0 0)) 0 _ B9.out
  refine bodyPost_ret (v := .tuple #[.agg (recCells Sc.zero (.slice none 0 0) (.slice none 0 0)).toArray, .agg (recCells Sc.zero (.slice none 0 0) (.slice none 0 0)).toArray, .iface 73 (.int .i64 y)]) (results_cellCCT rfl _ _ (w.heap.size + 1) (w.heap.size + 1 + 1) _ _ _ _ _ rfl rfl rfl (rec_range (s := Sc.zero) P8.b) (rec_range (s := Sc.zero) R8.b) Try.underlying39 rfl recInfoS Try.underlying39 rfl recInfoS) rfl ?_
  exact ⟨_, _, rfl, RecO.zero _ _, RecO.zero _ _, B8⟩
end Go.Proofs.Ytkkmfacngmginaa
