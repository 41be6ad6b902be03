/- Package inner's own functions (layer 8), by contracts: Split. -/
import Derived.Test.YtkkmfacngmginaaInSplitN
namespace Go.Proofs.Ytkkmfacngmginaa
open Go.RowKit

set_option maxRecDepth 100000 in
set_option maxHeartbeats 4000000 in
theorem split_yes (v : IvD) (en : Value) (p : Int) (w : World) (hv : SV lEnt w en v.ents) (hw : whyI v = 0) (hl : v.ents.length ≤ 1000) (hz : SzI v) :
    Calls Try.prog 11 #[ivVal v en, .int .i64 p] w fun ev w' => ∃ a b, ev = .returned (.tuple #[a, b, .nilIface]) ∧ RecO w.heap.size w' a (splitI9 (halfK v) p) ∧ RecO w.heap.size w' b (rightR v) ∧ Below w.heap.size w w' := by
  obtain ⟨a, c0, rfl, hlc, hcm⟩ := hv.lenform
  obtain ⟨n, hn⟩ : ∃ n, v.ents.length = n := ⟨_, rfl⟩
  have SK := Lib.hid (show (halfK v).size ≤ maxLen from by
    unfold halfK
    rw [List.getD]
    cases hi : v.ents[v.ents.length / 2]? with
    | none => show 0 ≤ maxLen; decide
    | some r => exact hz.ents r (List.mem_of_getElem? hi))
  have SR := Lib.hid (show SzI (⟨halfK v, v.high, v.unb, v.right, v.ents.drop (v.ents.length / 2), false, 0, 0, ⟨#[]⟩⟩ : IvD) from ⟨SK.out, hz.high, by show 0 ≤ maxLen; decide, fun e he => hz.ents e (List.mem_of_mem_drop he)⟩)
  have SL := Lib.hid (show SzI (⟨v.low, halfK v, false, p, v.ents.take (v.ents.length / 2), false, 0, 0, ⟨#[]⟩⟩ : IvD) from ⟨hz.low, SK.out, by show 0 ≤ maxLen; decide, fun e he => hz.ents e (List.mem_of_mem_take he)⟩)
  have LR := Lib.hid (show (v.ents.drop (v.ents.length / 2)).length ≤ 1000 ∧ (v.ents.take (v.ents.length / 2)).length ≤ 1000 from by rw [List.length_drop, List.length_take]; omega)
  have HSZ := Lib.hid hz
  have HL := Lib.hid (show v.ents.length ≤ 2000 by omega)
  rw [hn] at hv hlc ⊢
  obtain ⟨W0, hW0⟩ : ∃ W, W = ((w.alloc (ivObj v (.slice a n c0))).alloc recZ).alloc recZ := ⟨_, rfl⟩
  have zq : ((w.alloc (ivObj v (.slice a n c0))).alloc recZ).heap.size = w.heap.size + 2 := by simp
  have bq := alloc_below0 ((w.alloc (ivObj v (.slice a n c0))).alloc recZ) recZ
  have ba := alloc2_below w (ivObj v (.slice a n c0)) recZ
  have B0 := Lib.hid (show Below w.heap.size w W0 by rw [hW0]; exact ba.trans (bq.mono ba.size))
  have P0 := Lib.hid (show HB (w.heap.size + 1) recZ W0 by rw [hW0]; exact (HB.snd _ _ _).below bq)
  have R0 := Lib.hid (show HB (w.heap.size + 1 + 1) recZ W0 by rw [hW0, show w.heap.size + 1 + 1 = w.heap.size + 2 from rfl, ← zq]; exact HB.new _ _)
  have Z := Lib.hid (show W0.heap.size = w.heap.size + 3 by rw [hW0]; simp)
  have E0 := Lib.hid (hv.below B0.out)
  unfold ivObj recZ at hW0
  have hcl := halves_yes v (.slice a n c0) p W0 E0.out hw HL.out
  simp only [ivVal] at hcl
  have RB := Lib.hid (show rightR v = baseR (⟨halfK v, v.high, v.unb, v.right, v.ents.drop (v.ents.length / 2), false, 0, 0, ⟨#[]⟩⟩ : IvD) from rfl)
  clear zq bq ba hv hn hw hz
  obtain ⟨h, hh⟩ : ∃ h, v.ents.length / 2 = h := ⟨_, rfl⟩
  obtain ⟨kx, hk⟩ : ∃ k, halfK v = k := ⟨_, rfl⟩
  rw [hh, hk] at hcl SR SL RB
  rw [hk] at SK
  rw [hh] at LR
  have LRR := Lib.hid LR.out.1
  rw [hk]
  obtain ⟨lt, hlt⟩ : ∃ l, v.ents.take h = l := ⟨_, rfl⟩
  obtain ⟨rt, hrt⟩ : ∃ l, v.ents.drop h = l := ⟨_, rfl⟩
  rw [hlt, hrt] at hcl
  rw [hrt] at RB SR LRR
  rw [hlt] at SL
  rw [RB.out]
  clear hh hk hlt hrt LR
  unfold ivVal
  go_enter Try.func11, Try.ntmps11
  go_wp2_with fail
  rw [← hW0]
  clear hW0
  refine hcl.mono ?_
  rintro ev w1 ⟨b, off, c, -, rfl, hTK, hDK, hs⟩
  have B1 := Lib.hid (B0.out.trans (hs.mono B0.out.size))
  have P1 := Lib.hid (P0.out.below hs)
  have R1 := Lib.hid (R0.out.below hs)
  have Z1 := Lib.hid hs.size
  clear hcl
  obtain ⟨W1, hW1⟩ : ∃ W, W = (w1.alloc (ivObj (⟨v.low, kx, false, p, lt, false, 0, 0, ⟨#[]⟩⟩ : IvD) (.slice (some ⟨b, off, none⟩) h c))).alloc (ivObj (⟨kx, v.high, v.unb, v.right, rt, false, 0, 0, ⟨#[]⟩⟩ : IvD) (.slice (some ⟨b, off + h * 2, none⟩) (v.ents.length - h) (c - h))) := ⟨_, rfl⟩
  have b2 := alloc2_below w1 (ivObj (⟨v.low, kx, false, p, lt, false, 0, 0, ⟨#[]⟩⟩ : IvD) (.slice (some ⟨b, off, none⟩) h c)) (ivObj (⟨kx, v.high, v.unb, v.right, rt, false, 0, 0, ⟨#[]⟩⟩ : IvD) (.slice (some ⟨b, off + h * 2, none⟩) (v.ents.length - h) (c - h)))
  have GL := Lib.hid (show HB w1.heap.size (ivObj (⟨v.low, kx, false, p, lt, false, 0, 0, ⟨#[]⟩⟩ : IvD) (.slice (some ⟨b, off, none⟩) h c)) W1 by rw [hW1]; exact HB.fst _ _ _)
  have GR := Lib.hid (show HB (w1.heap.size + 1) (ivObj (⟨kx, v.high, v.unb, v.right, rt, false, 0, 0, ⟨#[]⟩⟩ : IvD) (.slice (some ⟨b, off + h * 2, none⟩) (v.ents.length - h) (c - h))) W1 by rw [hW1]; exact HB.snd _ _ _)
  have ZW := Lib.hid (show W1.heap.size = w1.heap.size + 2 by rw [hW1]; simp)
  rw [← hW1] at b2
  have BW := Lib.hid b2
  have DK := Lib.hid (hDK.below b2)
  have P1 := Lib.hid (P1.out.below b2)
  have R1 := Lib.hid (R1.out.below b2)
  unfold ivObj at hW1
  clear hs hTK hDK b2
  obtain ⟨off2, ho2⟩ : ∃ x, off + h * 2 = x := ⟨_, rfl⟩
  obtain ⟨n2, hn2⟩ : ∃ x, v.ents.length - h = x := ⟨_, rfl⟩
  obtain ⟨c2, hc2⟩ : ∃ x, c - h = x := ⟨_, rfl⟩
  rw [ho2, hn2, hc2] at hW1 GR DK ⊢
  clear ho2 hn2 hc2
  have GLd := Lib.hid GL.out.drew
  have GRd := Lib.hid GR.out.drew
  go_wp2_with fail
  rw [← hW1]
  clear hW1
  have SD := Lib.hid (show (fun w' => w'.cell? ⟨w1.heap.size, 1, none⟩ = some (.string kx) ∧ w'.cell? ⟨w1.heap.size, 3, none⟩ = some (.int .i64 p) ∧ w'.rangeAt (w1.heap.size + 1) 0 (ivCells (⟨kx, v.high, v.unb, v.right, rt, false, 0, 0, ⟨#[]⟩⟩ : IvD) (.slice (some ⟨b, off2, none⟩) n2 c2))) W1.drew from ⟨GLd.out.cell 1, GLd.out.cell 3, iv_range GRd.out⟩)
  refine AnyBut.region (fun w' => w'.cell? ⟨w1.heap.size, 1, none⟩ = some (.string kx) ∧ w'.cell? ⟨w1.heap.size, 3, none⟩ = some (.int .i64 p) ∧ w'.rangeAt (w1.heap.size + 1) 0 (ivCells (⟨kx, v.high, v.unb, v.right, rt, false, 0, 0, ⟨#[]⟩⟩ : IvD) (.slice (some ⟨b, off2, none⟩) n2 c2))) 9 (by kernel_rfl) ?_
  refine AnyBut.take (i := 0) (oi := ⟨some 22, _, _, _, _, none⟩) (v := ?va0) rfl (by kernel_rfl) (by kernel_rfl) (by kernel_rfl) (by kernel_rfl) (fun _ _ _ h => h) (Or.inl ⟨by rfl, ?hya0⟩) SD.out ?resta0
  case hya0 => (intro w hSw; go_simp; try (with_reducible rfl))
  simp only [Act.put, List.setIfInBounds_toArray, List.set_cons_zero, List.set_cons_succ]
  refine AnyBut.take (i := 1) (oi := ⟨some 23, _, _, _, _, none⟩) (v := ?va1) rfl (by kernel_rfl) (by kernel_rfl) (by kernel_rfl) (by kernel_rfl) (fun _ _ _ h => h) (Or.inl ⟨by rfl, ?hya1⟩) SD.out ?resta1
  case hya1 => (intro w hSw; go_simp; try (with_reducible rfl))
  simp only [Act.put, List.setIfInBounds_toArray, List.set_cons_zero, List.set_cons_succ]
  refine AnyBut.take (i := 2) (oi := ⟨some 24, _, _, _, _, none⟩) (v := ?va2) rfl (by kernel_rfl) (by kernel_rfl) (by kernel_rfl) (by kernel_rfl) (fun _ _ _ h => h) (Or.inl ⟨by rfl, ?hya2⟩) SD.out ?resta2
  case hya2 => (intro w hSw; go_simp; try (with_reducible rfl))
  simp only [Act.put, List.setIfInBounds_toArray, List.set_cons_zero, List.set_cons_succ]
  refine AnyBut.take (i := 3) (oi := ⟨some 25, _, _, _, _, none⟩) (v := ?va3) rfl (by kernel_rfl) (by kernel_rfl) (by kernel_rfl) (by kernel_rfl) (fun _ _ _ h => h) (Or.inl ⟨by rfl, ?hya3⟩) SD.out ?resta3
  case hya3 => (intro w hSw; go_simp; try (with_reducible rfl))
  simp only [Act.put, List.setIfInBounds_toArray, List.set_cons_zero, List.set_cons_succ]
  refine AnyBut.take (i := 4) (oi := ⟨some 26, _, _, _, _, none⟩) (v := ?va4) rfl (by kernel_rfl) (by kernel_rfl) (by kernel_rfl) (by kernel_rfl) (fun _ _ _ h => h) (Or.inl ⟨by rfl, ?hya4⟩) SD.out ?resta4
  case hya4 => (intro w hSw; go_simp; try (with_reducible rfl))
  simp only [Act.put, List.setIfInBounds_toArray, List.set_cons_zero, List.set_cons_succ]
  refine AnyBut.take (i := 5) (oi := ⟨some 27, _, _, _, _, none⟩) (v := .agg (ivCells (⟨kx, v.high, v.unb, v.right, rt, false, 0, 0, ⟨#[]⟩⟩ : IvD) (.slice (some ⟨b, off2, none⟩) n2 c2)).toArray) rfl (by kernel_rfl) (by kernel_rfl) (by kernel_rfl) (by kernel_rfl) (fun _ _ _ h => h) (yieldsIf_load_mid (by rfl) 29 (.tmp 8) rfl (w1.heap.size + 1) 0 rfl (ivCells (⟨kx, v.high, v.unb, v.right, rt, false, 0, 0, ⟨#[]⟩⟩ : IvD) (.slice (some ⟨b, off2, none⟩) n2 c2)) _ (fun w h => h.2.2) Try.underlying29 rfl ivInfoS) SD.out ?resta5
  simp only [Act.put, List.setIfInBounds_toArray, List.set_cons_zero, List.set_cons_succ]
  refine AnyBut.one (i := 6) (o := ⟨some 28, _, _, _, _, none⟩) (by kernel_rfl) rfl (fun K hK => ?_)
  go_simp
  refine (baseI_any (⟨kx, v.high, v.unb, v.right, rt, false, 0, 0, ⟨#[]⟩⟩ : IvD) (.slice (some ⟨b, off2, none⟩) n2 c2) W1.drew (DK.out.below (Below.refl _ _).drew) LRR.out SR.out).mono ?_
  rintro ev w3 ⟨r, rfl, hr, hs⟩
  obtain ⟨ra, rc, ea, ec, rfl, hro⟩ := hr.open
  obtain ⟨rr, hrr⟩ : ∃ R, R = baseR (⟨kx, v.high, v.unb, v.right, rt, false, 0, 0, ⟨#[]⟩⟩ : IvD) := ⟨_, rfl⟩
  rw [← hrr] at hro ⊢
  have RR := Lib.hid hrr
  have RO := Lib.hid (hro.mono (show W1.heap.size ≤ W1.drew.heap.size from Nat.le_refl _))
  obtain ⟨rn, hrn⟩ : ∃ n, rr.rows.length = n := ⟨_, rfl⟩
  obtain ⟨en, hen⟩ : ∃ n, rr.ents.length = n := ⟨_, rfl⟩
  rw [hrn, hen]
  have NN := Lib.hid (And.intro hrn hen)
  have B3 := Lib.hid ((Below.refl W1.heap.size W1).drew.trans hs)
  have GL3 := Lib.hid (GL.out.below B3.out)
  have GR3 := Lib.hid (GR.out.below B3.out)
  have P3 := Lib.hid (P1.out.below B3.out)
  have R3 := Lib.hid (R1.out.below B3.out)
  clear hr hro hs hrr hrn hen
  unfold recVal
  refine hK.out _ _ (fun _ => (show (fun w' => w'.cell? ⟨w1.heap.size, 1, none⟩ = some (.string kx) ∧ w'.cell? ⟨w1.heap.size, 3, none⟩ = some (.int .i64 p) ∧ w'.rangeAt (w1.heap.size + 1) 0 (ivCells (⟨kx, v.high, v.unb, v.right, rt, false, 0, 0, ⟨#[]⟩⟩ : IvD) (.slice (some ⟨b, off2, none⟩) n2 c2))) w3 from ⟨GL3.out.cell 1, GL3.out.cell 3, iv_range GR3.out⟩)) ?_
  clear hK K
  try simp only [Act.put, List.setIfInBounds_toArray, List.set_cons_zero, List.set_cons_succ]
  have zz1 := ZW.out
  have zz0 := Z.out
  have zz2 := Z1.out
  have zz3 := B3.out.size
  have P4 := Lib.hid (P3.out.sets (recCells { Sc.zero with kind := 9, key := kx, page := p } (.slice none 0 0) (.slice none 0 0)) rfl)
  have R4 := Lib.hid (R3.out.off (b2 := w.heap.size + 1) (by omega) (recCells { Sc.zero with kind := 9, key := kx, page := p } (.slice none 0 0) (.slice none 0 0)) 0)
  have GL4 := Lib.hid (GL3.out.off (b2 := w.heap.size + 1) (by omega) (recCells { Sc.zero with kind := 9, key := kx, page := p } (.slice none 0 0) (.slice none 0 0)) 0)
  have GR4 := Lib.hid (GR3.out.off (b2 := w.heap.size + 1) (by omega) (recCells { Sc.zero with kind := 9, key := kx, page := p } (.slice none 0 0) (.slice none 0 0)) 0)
  have RO4 := Lib.hid (RO.out.sets (b := w.heap.size + 1) (by omega) 0 (recCells { Sc.zero with kind := 9, key := kx, page := p } (.slice none 0 0) (.slice none 0 0)))
  refine AnyBut.one (i := 7) (o := ⟨none, _, _, _, _, none⟩) (by kernel_rfl) rfl (fun K hK => ?_)
  rw [if_pos (by rfl)]
  refine wp_store_mid 39 (.tmp 4) (.tmp 26) rfl (w.heap.size + 1) 0 (recCells { Sc.zero with kind := 9, key := kx, page := p } (.slice none 0 0) (.slice none 0 0)).toArray rfl rfl (P3.out.there 15 (Nat.le_refl _)) recInfoS (rec_one ..) ?_
  refine hK.out _ _ (fun _ => ⟨GL4.out.cell 1, GL4.out.cell 3, iv_range GR4.out⟩) ?_
  clear hK K
  try simp only [Act.put]
  have BY := Lib.hid (below_setCells (b := w.heap.size + 1) (Nat.le_succ w.heap.size) (recCells { Sc.zero with kind := 9, key := kx, page := p } (.slice none 0 0) (.slice none 0 0)) 0 _ (B1.out.trans ((BW.out.trans (B3.out.mono BW.out.size)).mono B1.out.size)))
  generalize hW3 : World.setCells w3 _ _ _ = W3 at *
  clear hW3
  have P5 := Lib.hid (P4.out.off (b2 := w.heap.size + 1 + 1) (by omega) (recCells rr.sc (.slice ra rn rc) (.slice ea en ec)) 0)
  have R5 := Lib.hid (R4.out.sets (recCells rr.sc (.slice ra rn rc) (.slice ea en ec)) rfl)
  have GL5 := Lib.hid (GL4.out.off (b2 := w.heap.size + 1 + 1) (by omega) (recCells rr.sc (.slice ra rn rc) (.slice ea en ec)) 0)
  have GR5 := Lib.hid (GR4.out.off (b2 := w.heap.size + 1 + 1) (by omega) (recCells rr.sc (.slice ra rn rc) (.slice ea en ec)) 0)
  have RO5 := Lib.hid (RO4.out.sets (b := w.heap.size + 1 + 1) (by omega) 0 (recCells rr.sc (.slice ra rn rc) (.slice ea en ec)))
  refine AnyBut.one (i := 8) (o := ⟨none, _, _, _, _, none⟩) (by kernel_rfl) rfl (fun K hK => ?_)
  rw [if_pos (by rfl)]
  refine wp_store_mid 39 (.tmp 5) (.tmp 28) rfl (w.heap.size + 1 + 1) 0 (recCells rr.sc (.slice ra rn rc) (.slice ea en ec)).toArray rfl rfl (R4.out.there 15 (Nat.le_refl _)) recInfoS (rec_one ..) ?_
  refine hK.out _ _ (fun _ => ⟨GL5.out.cell 1, GL5.out.cell 3, iv_range GR5.out⟩) ?_
  clear hK K
  try simp only [Act.put]
  have BZ := Lib.hid (below_setCells (b := w.heap.size + 1 + 1) (show w.heap.size ≤ w.heap.size + 1 + 1 by omega) (recCells rr.sc (.slice ra rn rc) (.slice ea en ec)) 0 _ BY.out)
  generalize hW4 : World.setCells W3 _ _ _ = W4 at *
  clear hW4
  refine AnyBut.one (i := 9) (o := ⟨some 6, _, _, _, _, none⟩) (by kernel_rfl) rfl (fun K hK => ?_)
  go_simp
  refine hK.out _ _ (fun h => absurd rfl h) ?_
  clear hK K
  try simp only [Act.put, List.setIfInBounds_toArray, List.set_cons_zero, List.set_cons_succ]
  refine AnyBut.done (by kernel_rfl) ?_ _
  go_wp2
  refine bodyPost_ret (v := .tuple #[.agg (recCells { Sc.zero with kind := 9, key := kx, page := p } (.slice none 0 0) (.slice none 0 0)).toArray, .agg (recCells rr.sc (.slice ra rn rc) (.slice ea en ec)).toArray, .nilIface]) (results_cellCCT rfl _ _ (w.heap.size + 1) (w.heap.size + 1 + 1) _ _ _ _ _ rfl rfl rfl (rec_range P5.out.b) (rec_range R5.out.b) Try.underlying39 rfl recInfoS Try.underlying39 rfl recInfoS) rfl ?_
  refine ⟨_, _, rfl, ⟨⟨{ Sc.zero with kind := 9, key := kx, page := p }, none, 0, none, 0, [], []⟩, rfl, RcO.bare _ _ _ ⟨show 0 ≤ maxLen by decide, show 0 ≤ maxLen by decide, SK.out, show 0 ≤ maxLen by decide, show 0 ≤ maxLen by decide⟩, rfl⟩, ⟨⟨rr.sc, ra, rc, ea, ec, rr.rows, rr.ents⟩, ?_, RO5.out.mono (by omega), RR.out⟩, BZ.out⟩
  rw [← NN.out.1, ← NN.out.2]; rfl
end Go.Proofs.Ytkkmfacngmginaa
