/- Package inner's own functions (layer 8), by contracts: Base. -/
import Derived.Test.YtkkmfacngmginaaInEnd
namespace Go.Proofs.Ytkkmfacngmginaa
open Go.RowKit

set_option maxRecDepth 100000 in
set_option maxHeartbeats 4000000 in
theorem baseI_any (v : IvD) (en : Value) (w : World) (hv : SV lEnt w en v.ents) (hl : v.ents.length ≤ 1000) (hz : SzI v) :
    Calls Try.prog 49 #[ivVal v en] w fun ev w' => ∃ r, ev = .returned r ∧ RecO w.heap.size w' r (baseR v) ∧ Below w.heap.size w w' := by
  obtain ⟨a, c, rfl, hlc, hcm⟩ := hv.lenform
  obtain ⟨n, hn⟩ : ∃ n, v.ents.length = n := ⟨_, rfl⟩
  have LN := Lib.hid hn
  have LL := Lib.hid (show v.ents.length ≤ 10000 by omega)
  rw [hn] at hv hlc hl ⊢
  have SZ := Lib.hid hz
  have HL := Lib.hid hl
  obtain ⟨W0, hW0⟩ : ∃ W, W = (w.alloc (ivObj v (.slice a n c))).alloc recZ := ⟨_, rfl⟩
  have B0 := Lib.hid (show Below w.heap.size w W0 by rw [hW0]; exact alloc2_below _ _ _)
  have K0 := Lib.hid (show HB w.heap.size (ivObj v (.slice a n c)) W0 by rw [hW0]; exact HB.fst _ _ _)
  have K1 := Lib.hid (show HB (w.heap.size + 1) recZ W0 by rw [hW0]; exact HB.snd _ _ _)
  have Z := Lib.hid (show W0.heap.size = w.heap.size + 2 by rw [hW0]; simp)
  have E0 := Lib.hid (hv.below B0.out)
  have HS := Lib.hid (show ∀ w1, Below W0.heap.size W0 w1 → (fun w' => w'.cell? ⟨w.heap.size, 0, none⟩ = some (.string v.low) ∧ w'.cell? ⟨w.heap.size, 1, none⟩ = some (.string v.high) ∧ w'.cell? ⟨w.heap.size, 2, none⟩ = some (.bool v.unb) ∧ w'.cell? ⟨w.heap.size, 3, none⟩ = some (.int .i64 v.right) ∧ w'.cell? ⟨w.heap.size, 4, none⟩ = some (.slice a n c)) w1 from fun w1 hs => by have V := (K0.out.below hs).vb; exact ⟨V.c0, V.c1, V.c2, V.c3, V.c4⟩)
  have SD := Lib.hid (HS.out W0.drew (Below.refl _ _).drew)
  unfold ivObj recZ at hW0
  clear hv hz hn
  unfold ivVal
  go_enter Try.func49, Try.ntmps49
  go_wp2_with fail
  rw [← hW0]
  clear hW0
  refine AnyBut.region (fun w' => w'.cell? ⟨w.heap.size, 0, none⟩ = some (.string v.low) ∧ w'.cell? ⟨w.heap.size, 1, none⟩ = some (.string v.high) ∧ w'.cell? ⟨w.heap.size, 2, none⟩ = some (.bool v.unb) ∧ w'.cell? ⟨w.heap.size, 3, none⟩ = some (.int .i64 v.right) ∧ w'.cell? ⟨w.heap.size, 4, none⟩ = some (.slice a n c)) 13 (by kernel_rfl) ?_
  refine AnyBut.take (i := 0) (oi := ⟨some 3, _, _, _, _, none⟩) (v := ?va0) rfl (by kernel_rfl) (by kernel_rfl) (by kernel_rfl) (by kernel_rfl) (fun _ _ _ h => h) (Or.inl ⟨by rfl, ?hya0⟩) SD.out ?resta0
  case hya0 => (intro w hSw; go_simp; try (with_reducible rfl))
  simp only [Act.put, List.setIfInBounds_toArray, List.set_cons_zero, List.set_cons_succ]
  refine AnyBut.take (i := 1) (oi := ⟨some 4, _, _, _, _, none⟩) (v := ?va1) rfl (by kernel_rfl) (by kernel_rfl) (by kernel_rfl) (by kernel_rfl) (fun _ _ _ h => h) (Or.inl ⟨by rfl, ?hya1⟩) SD.out ?resta1
  case hya1 => (intro w hSw; go_simp; try (with_reducible rfl))
  simp only [Act.put, List.setIfInBounds_toArray, List.set_cons_zero, List.set_cons_succ]
  refine AnyBut.take (i := 2) (oi := ⟨some 5, _, _, _, _, none⟩) (v := ?va2) rfl (by kernel_rfl) (by kernel_rfl) (by kernel_rfl) (by kernel_rfl) (fun _ _ _ h => h) (Or.inl ⟨by rfl, ?hya2⟩) SD.out ?resta2
  case hya2 => (intro w hSw; go_simp; try (with_reducible rfl))
  simp only [Act.put, List.setIfInBounds_toArray, List.set_cons_zero, List.set_cons_succ]
  refine AnyBut.take (i := 3) (oi := ⟨some 6, _, _, _, _, none⟩) (v := ?va3) rfl (by kernel_rfl) (by kernel_rfl) (by kernel_rfl) (by kernel_rfl) (fun _ _ _ h => h) (Or.inl ⟨by rfl, ?hya3⟩) SD.out ?resta3
  case hya3 => (intro w hSw; go_simp; try (with_reducible rfl))
  simp only [Act.put, List.setIfInBounds_toArray, List.set_cons_zero, List.set_cons_succ]
  refine AnyBut.take (i := 4) (oi := ⟨some 7, _, _, _, _, none⟩) (v := ?va4) rfl (by kernel_rfl) (by kernel_rfl) (by kernel_rfl) (by kernel_rfl) (fun _ _ _ h => h) (Or.inl ⟨by rfl, ?hya4⟩) SD.out ?resta4
  case hya4 => (intro w hSw; go_simp; try (with_reducible rfl))
  simp only [Act.put, List.setIfInBounds_toArray, List.set_cons_zero, List.set_cons_succ]
  refine AnyBut.take (i := 5) (oi := ⟨some 8, _, _, _, _, none⟩) (v := ?va5) rfl (by kernel_rfl) (by kernel_rfl) (by kernel_rfl) (by kernel_rfl) (fun _ _ _ h => h) (Or.inl ⟨by rfl, ?hya5⟩) SD.out ?resta5
  case hya5 => (intro w hSw; go_simp; try (with_reducible rfl))
  simp only [Act.put, List.setIfInBounds_toArray, List.set_cons_zero, List.set_cons_succ]
  refine AnyBut.take (i := 6) (oi := ⟨some 9, _, _, _, _, none⟩) (v := ?va6) rfl (by kernel_rfl) (by kernel_rfl) (by kernel_rfl) (by kernel_rfl) (fun _ _ _ h => h) (Or.inl ⟨by rfl, ?hya6⟩) SD.out ?resta6
  case hya6 => (intro w hSw; go_simp; try (with_reducible rfl))
  simp only [Act.put, List.setIfInBounds_toArray, List.set_cons_zero, List.set_cons_succ]
  refine AnyBut.take (i := 7) (oi := ⟨some 10, _, _, _, _, none⟩) (v := ?va7) rfl (by kernel_rfl) (by kernel_rfl) (by kernel_rfl) (by kernel_rfl) (fun _ _ _ h => h) (Or.inl ⟨by rfl, ?hya7⟩) SD.out ?resta7
  case hya7 => (intro w hSw; go_simp; try (with_reducible rfl))
  simp only [Act.put, List.setIfInBounds_toArray, List.set_cons_zero, List.set_cons_succ]
  refine AnyBut.take (i := 8) (oi := ⟨some 11, _, _, _, _, none⟩) (v := ?va8) rfl (by kernel_rfl) (by kernel_rfl) (by kernel_rfl) (by kernel_rfl) (fun _ _ _ h => h) (Or.inl ⟨by rfl, ?hya8⟩) SD.out ?resta8
  case hya8 => (intro w hSw; go_simp; try (with_reducible rfl))
  simp only [Act.put, List.setIfInBounds_toArray, List.set_cons_zero, List.set_cons_succ]
  refine AnyBut.take (i := 9) (oi := ⟨some 12, _, _, _, _, none⟩) (v := ?va9) rfl (by kernel_rfl) (by kernel_rfl) (by kernel_rfl) (by kernel_rfl) (fun _ _ _ h => h) (Or.inl ⟨by rfl, ?hya9⟩) SD.out ?resta9
  case hya9 => (intro w hSw; go_simp; try (with_reducible rfl))
  simp only [Act.put, List.setIfInBounds_toArray, List.set_cons_zero, List.set_cons_succ]
  have b1 := ((Below.refl W0.heap.size W0).alloc (Nat.le_refl _) (.cells #[.slice a n c] 25)).drew
  have k1 := Lib.hid (HB.new (.cells #[.slice a n c] 25) W0).drew
  have S1 := Lib.hid (HS.out _ b1)
  refine AnyBut.one (i := 10) (o := ⟨some 13, _, _, _, _, none⟩) (by kernel_rfl) rfl (fun K hK => ?_)
  go_simp
  refine hK.out _ _ (fun _ => S1.out) ?_
  clear hK K
  obtain ⟨W1, hW1⟩ : ∃ W, W = (W0.alloc (.cells #[.slice a n c] 25)).drew := ⟨_, rfl⟩
  rw [← hW1] at b1 k1 S1 ⊢
  clear hW1
  have B1 := Lib.hid b1
  have E1 := Lib.hid (E0.out.below b1)
  clear b1
  try simp only [Act.put, List.setIfInBounds_toArray, List.set_cons_zero, List.set_cons_succ]
  refine AnyBut.one (i := 11) (o := ⟨some 14, _, _, _, _, none⟩) (by kernel_rfl) rfl (fun K hK => ?_)
  go_simp
  refine (catE1 W1 W0.heap.size (.slice a n c) v.ents k1.out E1.out LL.out).mono ?_
  rintro ev w2 ⟨v2, rfl, ho, hs⟩
  obtain ⟨a2, c2, rfl, -, -⟩ := ho.lenN LN.out
  have B2 := Lib.hid (B1.out.trans (hs.mono B1.out.size))
  have O2 := Lib.hid ho
  clear ho hs
  refine hK.out _ _ (fun _ => HS.out _ B2.out) ?_
  clear hK K
  try simp only [Act.put, List.setIfInBounds_toArray, List.set_cons_zero, List.set_cons_succ]
  refine AnyBut.one (i := 12) (o := ⟨some 15, _, _, _, _, none⟩) (by kernel_rfl) rfl (fun K hK => ?_)
  go_simp
  refine hK.out _ _ (fun _ => HS.out _ B2.out) ?_
  clear hK K
  try simp only [Act.put, List.setIfInBounds_toArray, List.set_cons_zero, List.set_cons_succ]
  have R2 := Lib.hid (K1.out.below B2.out)
  refine AnyBut.one (i := 13) (o := ⟨none, _, _, _, _, none⟩) (by kernel_rfl) rfl (fun K hK => ?_)
  rw [if_pos (by rfl)]
  refine wp_store_mid 39 (.tmp 2) (.tmp 15) rfl (w.heap.size + 1) 0 (recCells { Sc.zero with kind := 7, low := v.low, high := v.high, unb := v.unb, right := v.right } (.slice none 0 0) (.slice a2 n c2)).toArray rfl rfl (R2.out.there 15 (Nat.le_refl _)) (by kernel_rfl) (rec_one ..) ?_
  refine hK.out _ _ (fun h => absurd rfl h) ?_
  clear hK K
  try simp only [Act.put]
  refine AnyBut.done (by kernel_rfl) ?_ _
  go_wp2
  have R3 := (R2.out.sets (recCells { Sc.zero with kind := 7, low := v.low, high := v.high, unb := v.unb, right := v.right } (.slice none 0 0) (.slice a2 n c2)) rfl)
  have O3 := O2.out.sets (b := w.heap.size + 1) (by have := B1.out.size; have := Z.out; omega) 0 (recCells { Sc.zero with kind := 7, low := v.low, high := v.high, unb := v.unb, right := v.right } (.slice none 0 0) (.slice a2 n c2))
  have B3 := below_setCells (b := w.heap.size + 1) (Nat.le_succ w.heap.size) (recCells { Sc.zero with kind := 7, low := v.low, high := v.high, unb := v.unb, right := v.right } (.slice none 0 0) (.slice a2 n c2)) 0 _ (B0.out.trans (B2.out.mono B0.out.size))
  refine bodyPost_ret (v := .agg (recCells { Sc.zero with kind := 7, low := v.low, high := v.high, unb := v.unb, right := v.right } (.slice none 0 0) (.slice a2 n c2)).toArray) (results_cell1 rfl _ _ (w.heap.size + 1) _ _ rfl (rec_range R3.b) Try.underlying39 rfl (by kernel_rfl)) rfl ⟨_, rfl, ?_, B3⟩
  have O4 := O3.mono (show w.heap.size ≤ W1.heap.size by have := B1.out.size; have := Z.out; omega)
  rw [← LN.out] at O4 ⊢
  exact RecO.ents O4 ⟨SZ.out.low, SZ.out.high, show 0 ≤ maxLen by decide, show 0 ≤ maxLen by decide, show 0 ≤ maxLen by decide⟩ SZ.out.ents (by rw [LN.out]; exact HL.out)
end Go.Proofs.Ytkkmfacngmginaa
