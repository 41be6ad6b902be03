/- Package inner's own functions (layer 8), by contracts: Grow. -/
import Derived.Test.YtkkmfacngmginaaInGrowN
namespace Go.Proofs.Ytkkmfacngmginaa
open Go.RowKit

set_option maxRecDepth 100000 in
set_option maxHeartbeats 4000000 in
theorem grow_yes (v : IvD) (en : Value) (l r : Int) (w : World) (hv : SV lEnt w en v.ents) (hw : whyI v = 0) (hl : v.ents.length ≤ 1000) (hz : SzI v) :
    Calls Try.prog 14 #[ivVal v en, .int .i64 l, .int .i64 r] w fun ev w' => ∃ a b t, ev = .returned (.tuple #[a, b, t, .nilIface]) ∧ RecO w.heap.size w' a (leftR v r) ∧ RecO w.heap.size w' b (rightR v) ∧ RecO w.heap.size w' t (topR v l r) ∧ Below w.heap.size w w' := by
  obtain ⟨a, c0, rfl, hlc, hcm⟩ := hv.lenform
  obtain ⟨n, hn⟩ : ∃ n, v.ents.length = n := ⟨_, rfl⟩
  have SK := Lib.hid (show (halfK v).size ≤ maxLen from by
    unfold halfK
    rw [List.getD]
    cases hi : v.ents[v.ents.length / 2]? with
    | none => show 0 ≤ maxLen; decide
    | some r => exact hz.ents r (List.mem_of_getElem? hi))
  have SR := Lib.hid (show SzI (⟨halfK v, v.high, v.unb, v.right, v.ents.drop (v.ents.length / 2), false, 0, 0, ⟨#[]⟩⟩ : IvD) from ⟨SK.out, hz.high, by show 0 ≤ maxLen; decide, fun e he => hz.ents e (List.mem_of_mem_drop he)⟩)
  have SL := Lib.hid (show SzI (⟨v.low, halfK v, false, r, v.ents.take (v.ents.length / 2), false, 0, 0, ⟨#[]⟩⟩ : IvD) from ⟨hz.low, SK.out, by show 0 ≤ maxLen; decide, fun e he => hz.ents e (List.mem_of_mem_take he)⟩)
  have ST := Lib.hid (show SzI (⟨v.low, v.high, v.unb, v.right, [(v.low, l), (halfK v, r)], v.held, v.hp, v.hl, v.hk⟩ : IvD) from ⟨hz.low, hz.high, hz.hk, fun e he => by
    simp only [List.mem_cons, List.not_mem_nil, or_false] at he
    rcases he with rfl | rfl
    · exact hz.low
    · exact SK.out⟩)
  have LR := Lib.hid (show (v.ents.drop (v.ents.length / 2)).length ≤ 1000 ∧ (v.ents.take (v.ents.length / 2)).length ≤ 1000 from by rw [List.length_drop, List.length_take]; omega)
  have HL := Lib.hid (show v.ents.length ≤ 2000 by omega)
  rw [hn] at hv hlc ⊢
  obtain ⟨W0, hW0⟩ : ∃ W, W = (((w.alloc (ivObj v (.slice a n c0))).alloc recZ).alloc recZ).alloc recZ := ⟨_, rfl⟩
  have zq : ((w.alloc (ivObj v (.slice a n c0))).alloc recZ).heap.size = w.heap.size + 1 + 1 := by simp
  have zr : (((w.alloc (ivObj v (.slice a n c0))).alloc recZ).alloc recZ).heap.size = w.heap.size + 1 + 1 + 1 := by simp
  have bq := alloc2_below ((w.alloc (ivObj v (.slice a n c0))).alloc recZ) recZ recZ
  have ba := alloc2_below w (ivObj v (.slice a n c0)) recZ
  have B0 := Lib.hid (show Below w.heap.size w W0 by rw [hW0]; exact ba.trans (bq.mono ba.size))
  have K0 := Lib.hid (show HB w.heap.size (ivObj v (.slice a n c0)) W0 by rw [hW0]; exact (HB.fst _ _ _).below bq)
  have P0 := Lib.hid (show HB (w.heap.size + 1) recZ W0 by rw [hW0]; exact (HB.snd _ _ _).below bq)
  have R0 := Lib.hid (show HB (w.heap.size + 1 + 1) recZ W0 by rw [hW0, ← zq]; exact HB.fst _ _ _)
  have T0 := Lib.hid (show HB (w.heap.size + 1 + 1 + 1) recZ W0 by rw [hW0, ← zr]; exact HB.new _ _)
  have Z := Lib.hid (show W0.heap.size = w.heap.size + 4 by rw [hW0]; simp)
  have E0 := Lib.hid (hv.below B0.out)
  unfold ivObj recZ at hW0
  have hcl := halves_yes v (.slice a n c0) r W0 E0.out hw HL.out
  simp only [ivVal] at hcl
  have RB := Lib.hid (show rightR v = baseR (⟨halfK v, v.high, v.unb, v.right, v.ents.drop (v.ents.length / 2), false, 0, 0, ⟨#[]⟩⟩ : IvD) ∧ leftR v r = baseR (⟨v.low, halfK v, false, r, v.ents.take (v.ents.length / 2), false, 0, 0, ⟨#[]⟩⟩ : IvD) ∧ topR v l r = baseR (⟨v.low, v.high, v.unb, v.right, [(v.low, l), (halfK v, r)], v.held, v.hp, v.hl, v.hk⟩ : IvD) from ⟨rfl, rfl, rfl⟩)
  have BV := Lib.hid (show ∀ (b off c : Nat), (Value.slice a n c0) = .slice (some ⟨b, off, none⟩) v.ents.length c → b < w.heap.size from fun b off c he => by
    rw [he] at hv
    have h0 : 0 < v.ents.length := by
      unfold whyI at hw
      split at hw
      · cases hw
      · split at hw
        · cases hw
        · omega
    exact lt_of_cell (hv.cellAt (j := 0) (mem_at h0) rfl))
  clear zq zr bq ba hv hn hw hz
  obtain ⟨h, hh⟩ : ∃ h, v.ents.length / 2 = h := ⟨_, rfl⟩
  obtain ⟨kx, hk⟩ : ∃ k, halfK v = k := ⟨_, rfl⟩
  rw [hh, hk] at hcl SR SL RB
  rw [hk] at SK ST
  rw [hh] at LR
  have LRR := Lib.hid LR.out.1
  have LLL := Lib.hid LR.out.2
  obtain ⟨lt, hlt⟩ : ∃ l, v.ents.take h = l := ⟨_, rfl⟩
  obtain ⟨rt, hrt⟩ : ∃ l, v.ents.drop h = l := ⟨_, rfl⟩
  rw [hlt, hrt] at hcl RB
  rw [hrt] at SR LRR
  rw [hlt] at SL LLL
  rw [RB.out.1, RB.out.2.1, RB.out.2.2]
  clear hh hk hlt hrt LR
  unfold ivVal
  go_enter Try.func14, Try.ntmps14
  go_wp2_with fail
  rw [← hW0]
  clear hW0
  refine hcl.mono ?_
  rintro ev w1 ⟨b, off, c, he, rfl, hTK, hDK, hs⟩
  have BLT := Lib.hid (BV.out b off c he)
  clear he
  have B1 := Lib.hid (B0.out.trans (hs.mono B0.out.size))
  have K1 := Lib.hid (K0.out.below hs)
  have P1 := Lib.hid (P0.out.below hs)
  have R1 := Lib.hid (R0.out.below hs)
  have T1 := Lib.hid (T0.out.below hs)
  have Z1 := Lib.hid hs.size
  clear hcl
  obtain ⟨W1, hW1⟩ : ∃ W, W = (w1.alloc (ivObj (⟨v.low, kx, false, r, lt, false, 0, 0, ⟨#[]⟩⟩ : IvD) (.slice (some ⟨b, off, none⟩) h c))).alloc (ivObj (⟨kx, v.high, v.unb, v.right, rt, false, 0, 0, ⟨#[]⟩⟩ : IvD) (.slice (some ⟨b, off + h * 2, none⟩) (v.ents.length - h) (c - h))) := ⟨_, rfl⟩
  have b2 := alloc2_below w1 (ivObj (⟨v.low, kx, false, r, lt, false, 0, 0, ⟨#[]⟩⟩ : IvD) (.slice (some ⟨b, off, none⟩) h c)) (ivObj (⟨kx, v.high, v.unb, v.right, rt, false, 0, 0, ⟨#[]⟩⟩ : IvD) (.slice (some ⟨b, off + h * 2, none⟩) (v.ents.length - h) (c - h)))
  have GL := Lib.hid (show HB w1.heap.size (ivObj (⟨v.low, kx, false, r, lt, false, 0, 0, ⟨#[]⟩⟩ : IvD) (.slice (some ⟨b, off, none⟩) h c)) W1 by rw [hW1]; exact HB.fst _ _ _)
  have GR := Lib.hid (show HB (w1.heap.size + 1) (ivObj (⟨kx, v.high, v.unb, v.right, rt, false, 0, 0, ⟨#[]⟩⟩ : IvD) (.slice (some ⟨b, off + h * 2, none⟩) (v.ents.length - h) (c - h))) W1 by rw [hW1]; exact HB.snd _ _ _)
  have ZW := Lib.hid (show W1.heap.size = w1.heap.size + 2 by rw [hW1]; simp)
  rw [← hW1] at b2
  have BW := Lib.hid (B1.out.trans (b2.mono B1.out.size))
  have TK := Lib.hid (hTK.below b2)
  have DK := Lib.hid (hDK.below b2)
  have K1 := Lib.hid (K1.out.below b2)
  have P1 := Lib.hid (P1.out.below b2)
  have R1 := Lib.hid (R1.out.below b2)
  have T1 := Lib.hid (T1.out.below b2)
  unfold ivObj at hW1
  clear hs hTK hDK b2
  obtain ⟨off2, ho2⟩ : ∃ x, off + h * 2 = x := ⟨_, rfl⟩
  obtain ⟨n2, hn2⟩ : ∃ x, v.ents.length - h = x := ⟨_, rfl⟩
  obtain ⟨c2, hc2⟩ : ∃ x, c - h = x := ⟨_, rfl⟩
  rw [ho2, hn2, hc2] at hW1 GR DK ⊢
  clear ho2 hn2 hc2
  have hz1 : W1.heap.size = w1.heap.size + 1 + 1 := ZW.out
  have b3 := alloc_below0 W1 (.cells #[.string v.low, .int .i64 l, .string kx, .int .i64 r] 44)
  have KX := K1.out.below b3
  have c4 := KX.vb.c4
  have f4 := KX.free 4
  have u_0 := K1.out.vb.c0
  have r_0 := GR.out.vb.c0
  simp only at r_0
  have hn4 : ∀ x : Nat, x ≠ w.heap.size → x ≠ w.heap.size := fun _ h => h
  have zz0 := Z.out
  have zz1 := Z1.out
  obtain ⟨W2, hW2⟩ : ∃ W, W = (W1.alloc (.cells #[.string v.low, .int .i64 l, .string kx, .int .i64 r] 44)).setCell ⟨w.heap.size, 4, none⟩ (.slice (some ⟨w1.heap.size + 1 + 1, 0, none⟩) 2 2) := ⟨_, rfl⟩
  have KV := Lib.hid (show HB w.heap.size (ivObj (⟨v.low, v.high, v.unb, v.right, [(v.low, l), (kx, r)], v.held, v.hp, v.hl, v.hk⟩ : IvD) (.slice (some ⟨w1.heap.size + 1 + 1, 0, none⟩) 2 2)) W2 by rw [hW2]; exact KX.set1 4 _)
  have P2 := Lib.hid (show HB (w.heap.size + 1) recZ W2 by rw [hW2]; exact (P1.out.below b3).off1 (b2 := w.heap.size) (by omega) 4 _)
  have R2 := Lib.hid (show HB (w.heap.size + 1 + 1) recZ W2 by rw [hW2]; exact (R1.out.below b3).off1 (b2 := w.heap.size) (by omega) 4 _)
  have T2 := Lib.hid (show HB (w.heap.size + 1 + 1 + 1) recZ W2 by rw [hW2]; exact (T1.out.below b3).off1 (b2 := w.heap.size) (by omega) 4 _)
  have GL2 := Lib.hid (show HB w1.heap.size (ivObj (⟨v.low, kx, false, r, lt, false, 0, 0, ⟨#[]⟩⟩ : IvD) (.slice (some ⟨b, off, none⟩) h c)) W2 by rw [hW2]; exact (GL.out.below b3).off1 (b2 := w.heap.size) (by omega) 4 _)
  have GR2 := Lib.hid (show HB (w1.heap.size + 1) (ivObj (⟨kx, v.high, v.unb, v.right, rt, false, 0, 0, ⟨#[]⟩⟩ : IvD) (.slice (some ⟨b, off2, none⟩) n2 c2)) W2 by rw [hW2]; exact (GR.out.below b3).off1 (b2 := w.heap.size) (by omega) 4 _)
  have OT := Lib.hid (show OwnS lEnt W1.heap.size W2 (.slice (some ⟨w1.heap.size + 1 + 1, 0, none⟩) 2 2) [(v.low, l), (kx, r)] by rw [hW2]; exact (OwnS.lit lEnt W1.heap.size W1 (w1.heap.size + 1 + 1) hz1 [(v.low, l), (kx, r)] (by omega) (show 2 ≤ maxLen by decide)).set1 (b := w.heap.size) (by omega) 4 _)
  have TK := Lib.hid (show SV lEnt W2 (.slice (some ⟨b, off, none⟩) h c) lt by rw [hW2]; exact (TK.out.below b3).kept ((Kept.refl (fun x => x = w.heap.size) _).setCell 4 _) (fun x m d hv hs => by obtain ⟨e, -, -⟩ := Value.slice.inj hv; obtain rfl := Option.some.inj e; have := BLT.out; simp only at hs; omega))
  have DK := Lib.hid (show SV lEnt W2 (.slice (some ⟨b, off2, none⟩) n2 c2) rt by rw [hW2]; exact (DK.out.below b3).kept ((Kept.refl (fun x => x = w.heap.size) _).setCell 4 _) (fun x m d hv hs => by obtain ⟨e, -, -⟩ := Value.slice.inj hv; obtain rfl := Option.some.inj e; have := BLT.out; simp only at hs; omega))
  have B22 := Lib.hid (show Below w.heap.size w W2 by rw [hW2]; exact (BW.out.trans (b3.mono BW.out.size)).trans (((Kept.refl (fun x => x = w.heap.size) (W1.alloc (.cells #[.string v.low, .int .i64 l, .string kx, .int .i64 r] 44))).setCell 4 (.slice (some ⟨w1.heap.size + 1 + 1, 0, none⟩) 2 2)).below (n := w.heap.size) (fun k h => by omega) (by have := b3.size; omega)))
  have Z2 := Lib.hid (show W2.heap.size = w1.heap.size + 3 by rw [hW2]; simp only [World.setCell, Array.size_modify, World.alloc, Array.size_push]; omega)
  have GLd := Lib.hid GL2.out.drew
  have GRd := Lib.hid GR2.out.drew
  have KVd := Lib.hid KV.out.drew
  have B5d := Lib.hid ((Below.refl W2.heap.size W2).drew)
  have HS := Lib.hid (show ∀ w', Below W2.heap.size W2 w' → (fun w' => w'.rangeAt w1.heap.size 0 (ivCells (⟨v.low, kx, false, r, lt, false, 0, 0, ⟨#[]⟩⟩ : IvD) (.slice (some ⟨b, off, none⟩) h c)) ∧ w'.rangeAt (w1.heap.size + 1) 0 (ivCells (⟨kx, v.high, v.unb, v.right, rt, false, 0, 0, ⟨#[]⟩⟩ : IvD) (.slice (some ⟨b, off2, none⟩) n2 c2)) ∧ w'.rangeAt w.heap.size 0 (ivCells (⟨v.low, v.high, v.unb, v.right, [(v.low, l), (kx, r)], v.held, v.hp, v.hl, v.hk⟩ : IvD) (.slice (some ⟨w1.heap.size + 1 + 1, 0, none⟩) 2 2))) w' from fun w' hs => ⟨iv_range (GL2.out.below hs), iv_range (GR2.out.below hs), iv_range (KV.out.below hs)⟩)
  rw [hW1] at c4 f4 u_0 r_0
  clear KX b3 hn4 zz0 zz1 hz1
  go_wp2_with fail
  rw [← hW1, ← hW2]
  clear hW1 hW2 c4 f4 u_0 r_0
  have SD := Lib.hid (show (fun w' => w'.rangeAt w1.heap.size 0 (ivCells (⟨v.low, kx, false, r, lt, false, 0, 0, ⟨#[]⟩⟩ : IvD) (.slice (some ⟨b, off, none⟩) h c)) ∧ w'.rangeAt (w1.heap.size + 1) 0 (ivCells (⟨kx, v.high, v.unb, v.right, rt, false, 0, 0, ⟨#[]⟩⟩ : IvD) (.slice (some ⟨b, off2, none⟩) n2 c2)) ∧ w'.rangeAt w.heap.size 0 (ivCells (⟨v.low, v.high, v.unb, v.right, [(v.low, l), (kx, r)], v.held, v.hp, v.hl, v.hk⟩ : IvD) (.slice (some ⟨w1.heap.size + 1 + 1, 0, none⟩) 2 2))) W2.drew from ⟨iv_range GLd.out, iv_range GRd.out, iv_range KVd.out⟩)
  refine AnyBut.region (fun w' => w'.rangeAt w1.heap.size 0 (ivCells (⟨v.low, kx, false, r, lt, false, 0, 0, ⟨#[]⟩⟩ : IvD) (.slice (some ⟨b, off, none⟩) h c)) ∧ w'.rangeAt (w1.heap.size + 1) 0 (ivCells (⟨kx, v.high, v.unb, v.right, rt, false, 0, 0, ⟨#[]⟩⟩ : IvD) (.slice (some ⟨b, off2, none⟩) n2 c2)) ∧ w'.rangeAt w.heap.size 0 (ivCells (⟨v.low, v.high, v.unb, v.right, [(v.low, l), (kx, r)], v.held, v.hp, v.hl, v.hk⟩ : IvD) (.slice (some ⟨w1.heap.size + 1 + 1, 0, none⟩) 2 2))) 9 (by kernel_rfl) ?_
  refine AnyBut.take (i := 0) (oi := ⟨some 36, _, _, _, _, none⟩) (v := .agg (ivCells (⟨v.low, kx, false, r, lt, false, 0, 0, ⟨#[]⟩⟩ : IvD) (.slice (some ⟨b, off, none⟩) h c)).toArray) rfl (by kernel_rfl) (by kernel_rfl) (by kernel_rfl) (by kernel_rfl) (fun _ _ _ h => h) (yieldsIf_load_mid (by rfl) 29 (.tmp 10) rfl (w1.heap.size) 0 rfl (ivCells (⟨v.low, kx, false, r, lt, false, 0, 0, ⟨#[]⟩⟩ : IvD) (.slice (some ⟨b, off, none⟩) h c)) _ (fun w h => h.1) Try.underlying29 rfl ivInfoS) SD.out ?resta0
  simp only [Act.put, List.setIfInBounds_toArray, List.set_cons_zero, List.set_cons_succ]
  refine AnyBut.take (i := 2) (oi := ⟨some 38, _, _, _, _, none⟩) (v := .agg (ivCells (⟨kx, v.high, v.unb, v.right, rt, false, 0, 0, ⟨#[]⟩⟩ : IvD) (.slice (some ⟨b, off2, none⟩) n2 c2)).toArray) rfl (by kernel_rfl) (by kernel_rfl) (by kernel_rfl) (by kernel_rfl) (fun _ _ _ h => h) (yieldsIf_load_mid (by rfl) 29 (.tmp 11) rfl (w1.heap.size + 1) 0 rfl (ivCells (⟨kx, v.high, v.unb, v.right, rt, false, 0, 0, ⟨#[]⟩⟩ : IvD) (.slice (some ⟨b, off2, none⟩) n2 c2)) _ (fun w h => h.2.1) Try.underlying29 rfl ivInfoS) SD.out ?resta2
  simp only [Act.put, List.setIfInBounds_toArray, List.set_cons_zero, List.set_cons_succ]
  refine AnyBut.take (i := 4) (oi := ⟨some 40, _, _, _, _, none⟩) (v := .agg (ivCells (⟨v.low, v.high, v.unb, v.right, [(v.low, l), (kx, r)], v.held, v.hp, v.hl, v.hk⟩ : IvD) (.slice (some ⟨w1.heap.size + 1 + 1, 0, none⟩) 2 2)).toArray) rfl (by kernel_rfl) (by kernel_rfl) (by kernel_rfl) (by kernel_rfl) (fun _ _ _ h => h) (yieldsIf_load_mid (by rfl) 29 (.tmp 3) rfl (w.heap.size) 0 rfl (ivCells (⟨v.low, v.high, v.unb, v.right, [(v.low, l), (kx, r)], v.held, v.hp, v.hl, v.hk⟩ : IvD) (.slice (some ⟨w1.heap.size + 1 + 1, 0, none⟩) 2 2)) _ (fun w h => h.2.2) Try.underlying29 rfl ivInfoS) SD.out ?resta4
  simp only [Act.put, List.setIfInBounds_toArray, List.set_cons_zero, List.set_cons_succ]
  refine AnyBut.one (i := 1) (o := ⟨some 37, _, _, _, _, none⟩) (by kernel_rfl) rfl (fun K hK => ?_)
  go_simp
  refine (baseI_any (⟨v.low, kx, false, r, lt, false, 0, 0, ⟨#[]⟩⟩ : IvD) (.slice (some ⟨b, off, none⟩) h c) W2.drew (TK.out.below B5d.out) LLL.out SL.out).mono ?_
  rintro ev x6 ⟨r6, rfl, hr, hs⟩
  obtain ⟨ra6, rc6, ea6, ec6, rfl, hro⟩ := hr.open
  obtain ⟨rr6, hrr⟩ : ∃ R, R = baseR (⟨v.low, kx, false, r, lt, false, 0, 0, ⟨#[]⟩⟩ : IvD) := ⟨_, rfl⟩
  rw [← hrr] at hro ⊢
  have RR6 := Lib.hid hrr
  have B6 := Lib.hid (B5d.out.trans (hs.mono B5d.out.size))
  have RO6 := Lib.hid (hro.mono (show W2.heap.size ≤ (W2.drew).heap.size from B5d.out.size))
  obtain ⟨rn6, hrn⟩ : ∃ n, rr6.rows.length = n := ⟨_, rfl⟩
  obtain ⟨en6, hen⟩ : ∃ n, rr6.ents.length = n := ⟨_, rfl⟩
  rw [hrn, hen]
  have NN6 := Lib.hid (And.intro hrn hen)
  clear hr hro hs hrr hrn hen
  unfold recVal
  refine hK.out _ _ (fun _ => HS.out _ B6.out) ?_
  clear hK K
  try simp only [Act.put, List.setIfInBounds_toArray, List.set_cons_zero, List.set_cons_succ]
  refine AnyBut.one (i := 3) (o := ⟨some 39, _, _, _, _, none⟩) (by kernel_rfl) rfl (fun K hK => ?_)
  go_simp
  refine (baseI_any (⟨kx, v.high, v.unb, v.right, rt, false, 0, 0, ⟨#[]⟩⟩ : IvD) (.slice (some ⟨b, off2, none⟩) n2 c2) x6 (DK.out.below B6.out) LRR.out SR.out).mono ?_
  rintro ev x7 ⟨r7, rfl, hr, hs⟩
  obtain ⟨ra7, rc7, ea7, ec7, rfl, hro⟩ := hr.open
  obtain ⟨rr7, hrr⟩ : ∃ R, R = baseR (⟨kx, v.high, v.unb, v.right, rt, false, 0, 0, ⟨#[]⟩⟩ : IvD) := ⟨_, rfl⟩
  rw [← hrr] at hro ⊢
  have RR7 := Lib.hid hrr
  have B7 := Lib.hid (B6.out.trans (hs.mono B6.out.size))
  have RO7 := Lib.hid (hro.mono (show W2.heap.size ≤ (x6).heap.size from B6.out.size))
  have RO6 := Lib.hid (RO6.out.below hs)
  obtain ⟨rn7, hrn⟩ : ∃ n, rr7.rows.length = n := ⟨_, rfl⟩
  obtain ⟨en7, hen⟩ : ∃ n, rr7.ents.length = n := ⟨_, rfl⟩
  rw [hrn, hen]
  have NN7 := Lib.hid (And.intro hrn hen)
  clear hr hro hs hrr hrn hen
  unfold recVal
  refine hK.out _ _ (fun _ => HS.out _ B7.out) ?_
  clear hK K
  try simp only [Act.put, List.setIfInBounds_toArray, List.set_cons_zero, List.set_cons_succ]
  refine AnyBut.one (i := 5) (o := ⟨some 41, _, _, _, _, none⟩) (by kernel_rfl) rfl (fun K hK => ?_)
  go_simp
  refine (baseI_any (⟨v.low, v.high, v.unb, v.right, [(v.low, l), (kx, r)], v.held, v.hp, v.hl, v.hk⟩ : IvD) (.slice (some ⟨w1.heap.size + 1 + 1, 0, none⟩) 2 2) x7 ((OT.out.below B7.out).sv) (show 2 ≤ 1000 by decide) ST.out).mono ?_
  rintro ev x8 ⟨r8, rfl, hr, hs⟩
  obtain ⟨ra8, rc8, ea8, ec8, rfl, hro⟩ := hr.open
  obtain ⟨rr8, hrr⟩ : ∃ R, R = baseR (⟨v.low, v.high, v.unb, v.right, [(v.low, l), (kx, r)], v.held, v.hp, v.hl, v.hk⟩ : IvD) := ⟨_, rfl⟩
  rw [← hrr] at hro ⊢
  have RR8 := Lib.hid hrr
  have B8 := Lib.hid (B7.out.trans (hs.mono B7.out.size))
  have RO8 := Lib.hid (hro.mono (show W2.heap.size ≤ (x7).heap.size from B7.out.size))
  have RO6 := Lib.hid (RO6.out.below hs)
  have RO7 := Lib.hid (RO7.out.below hs)
  obtain ⟨rn8, hrn⟩ : ∃ n, rr8.rows.length = n := ⟨_, rfl⟩
  obtain ⟨en8, hen⟩ : ∃ n, rr8.ents.length = n := ⟨_, rfl⟩
  rw [hrn, hen]
  have NN8 := Lib.hid (And.intro hrn hen)
  clear hr hro hs hrr hrn hen
  unfold recVal
  refine hK.out _ _ (fun _ => HS.out _ B8.out) ?_
  clear hK K
  try simp only [Act.put, List.setIfInBounds_toArray, List.set_cons_zero, List.set_cons_succ]
  have zz1 := ZW.out
  have zz0 := Z.out
  have zz2 := Z1.out
  have zz3 := B8.out.size
  have zz4 := Z2.out
  have P8 := Lib.hid (P2.out.below B8.out)
  have R8 := Lib.hid (R2.out.below B8.out)
  have T8 := Lib.hid (T2.out.below B8.out)
  have GL8 := Lib.hid (GL2.out.below B8.out)
  have GR8 := Lib.hid (GR2.out.below B8.out)
  have KV8 := Lib.hid (KV.out.below B8.out)
  have B0 := Lib.hid (B22.out.trans (B8.out.mono B22.out.size))
  have me := P8.out
  have P8 := Lib.hid (P8.out.sets (recCells rr6.sc (.slice ra6 rn6 rc6) (.slice ea6 en6 ec6)) rfl)
  have R8 := Lib.hid (R8.out.off (b2 := w.heap.size + 1) (by omega) (recCells rr6.sc (.slice ra6 rn6 rc6) (.slice ea6 en6 ec6)) 0)
  have T8 := Lib.hid (T8.out.off (b2 := w.heap.size + 1) (by omega) (recCells rr6.sc (.slice ra6 rn6 rc6) (.slice ea6 en6 ec6)) 0)
  have GL8 := Lib.hid (GL8.out.off (b2 := w.heap.size + 1) (by omega) (recCells rr6.sc (.slice ra6 rn6 rc6) (.slice ea6 en6 ec6)) 0)
  have GR8 := Lib.hid (GR8.out.off (b2 := w.heap.size + 1) (by omega) (recCells rr6.sc (.slice ra6 rn6 rc6) (.slice ea6 en6 ec6)) 0)
  have KV8 := Lib.hid (KV8.out.off (b2 := w.heap.size + 1) (by omega) (recCells rr6.sc (.slice ra6 rn6 rc6) (.slice ea6 en6 ec6)) 0)
  have RO6 := Lib.hid (RO6.out.sets (b := w.heap.size + 1) (by omega) 0 (recCells rr6.sc (.slice ra6 rn6 rc6) (.slice ea6 en6 ec6)))
  have RO7 := Lib.hid (RO7.out.sets (b := w.heap.size + 1) (by omega) 0 (recCells rr6.sc (.slice ra6 rn6 rc6) (.slice ea6 en6 ec6)))
  have RO8 := Lib.hid (RO8.out.sets (b := w.heap.size + 1) (by omega) 0 (recCells rr6.sc (.slice ra6 rn6 rc6) (.slice ea6 en6 ec6)))
  have B0 := Lib.hid (below_setCells (b := w.heap.size + 1) (show w.heap.size ≤ w.heap.size + 1 by omega) (recCells rr6.sc (.slice ra6 rn6 rc6) (.slice ea6 en6 ec6)) 0 _ B0.out)
  refine AnyBut.one (i := 6) (o := ⟨none, _, _, _, _, none⟩) (by kernel_rfl) rfl (fun K hK => ?_)
  rw [if_pos (by rfl)]
  refine wp_store_mid 39 (.tmp 6) (.tmp 37) rfl (w.heap.size + 1) 0 (recCells rr6.sc (.slice ra6 rn6 rc6) (.slice ea6 en6 ec6)).toArray rfl rfl (me.there 15 (Nat.le_refl _)) recInfoS (rec_one ..) ?_
  refine hK.out _ _ (fun _ => ⟨iv_range GL8.out, iv_range GR8.out, iv_range KV8.out⟩) ?_
  clear hK K
  try simp only [Act.put]
  clear me
  generalize hY0 : World.setCells x8 _ _ _ = y0 at *
  clear hY0
  have me := R8.out
  have R8 := Lib.hid (R8.out.sets (recCells rr7.sc (.slice ra7 rn7 rc7) (.slice ea7 en7 ec7)) rfl)
  have P8 := Lib.hid (P8.out.off (b2 := w.heap.size + 1 + 1) (by omega) (recCells rr7.sc (.slice ra7 rn7 rc7) (.slice ea7 en7 ec7)) 0)
  have T8 := Lib.hid (T8.out.off (b2 := w.heap.size + 1 + 1) (by omega) (recCells rr7.sc (.slice ra7 rn7 rc7) (.slice ea7 en7 ec7)) 0)
  have GL8 := Lib.hid (GL8.out.off (b2 := w.heap.size + 1 + 1) (by omega) (recCells rr7.sc (.slice ra7 rn7 rc7) (.slice ea7 en7 ec7)) 0)
  have GR8 := Lib.hid (GR8.out.off (b2 := w.heap.size + 1 + 1) (by omega) (recCells rr7.sc (.slice ra7 rn7 rc7) (.slice ea7 en7 ec7)) 0)
  have KV8 := Lib.hid (KV8.out.off (b2 := w.heap.size + 1 + 1) (by omega) (recCells rr7.sc (.slice ra7 rn7 rc7) (.slice ea7 en7 ec7)) 0)
  have RO6 := Lib.hid (RO6.out.sets (b := w.heap.size + 1 + 1) (by omega) 0 (recCells rr7.sc (.slice ra7 rn7 rc7) (.slice ea7 en7 ec7)))
  have RO7 := Lib.hid (RO7.out.sets (b := w.heap.size + 1 + 1) (by omega) 0 (recCells rr7.sc (.slice ra7 rn7 rc7) (.slice ea7 en7 ec7)))
  have RO8 := Lib.hid (RO8.out.sets (b := w.heap.size + 1 + 1) (by omega) 0 (recCells rr7.sc (.slice ra7 rn7 rc7) (.slice ea7 en7 ec7)))
  have B0 := Lib.hid (below_setCells (b := w.heap.size + 1 + 1) (show w.heap.size ≤ w.heap.size + 1 + 1 by omega) (recCells rr7.sc (.slice ra7 rn7 rc7) (.slice ea7 en7 ec7)) 0 _ B0.out)
  refine AnyBut.one (i := 7) (o := ⟨none, _, _, _, _, none⟩) (by kernel_rfl) rfl (fun K hK => ?_)
  rw [if_pos (by rfl)]
  refine wp_store_mid 39 (.tmp 7) (.tmp 39) rfl (w.heap.size + 1 + 1) 0 (recCells rr7.sc (.slice ra7 rn7 rc7) (.slice ea7 en7 ec7)).toArray rfl rfl (me.there 15 (Nat.le_refl _)) recInfoS (rec_one ..) ?_
  refine hK.out _ _ (fun _ => ⟨iv_range GL8.out, iv_range GR8.out, iv_range KV8.out⟩) ?_
  clear hK K
  try simp only [Act.put]
  clear me
  generalize hY1 : World.setCells y0 _ _ _ = y1 at *
  clear hY1
  have me := T8.out
  have T8 := Lib.hid (T8.out.sets (recCells rr8.sc (.slice ra8 rn8 rc8) (.slice ea8 en8 ec8)) rfl)
  have P8 := Lib.hid (P8.out.off (b2 := w.heap.size + 1 + 1 + 1) (by omega) (recCells rr8.sc (.slice ra8 rn8 rc8) (.slice ea8 en8 ec8)) 0)
  have R8 := Lib.hid (R8.out.off (b2 := w.heap.size + 1 + 1 + 1) (by omega) (recCells rr8.sc (.slice ra8 rn8 rc8) (.slice ea8 en8 ec8)) 0)
  have GL8 := Lib.hid (GL8.out.off (b2 := w.heap.size + 1 + 1 + 1) (by omega) (recCells rr8.sc (.slice ra8 rn8 rc8) (.slice ea8 en8 ec8)) 0)
  have GR8 := Lib.hid (GR8.out.off (b2 := w.heap.size + 1 + 1 + 1) (by omega) (recCells rr8.sc (.slice ra8 rn8 rc8) (.slice ea8 en8 ec8)) 0)
  have KV8 := Lib.hid (KV8.out.off (b2 := w.heap.size + 1 + 1 + 1) (by omega) (recCells rr8.sc (.slice ra8 rn8 rc8) (.slice ea8 en8 ec8)) 0)
  have RO6 := Lib.hid (RO6.out.sets (b := w.heap.size + 1 + 1 + 1) (by omega) 0 (recCells rr8.sc (.slice ra8 rn8 rc8) (.slice ea8 en8 ec8)))
  have RO7 := Lib.hid (RO7.out.sets (b := w.heap.size + 1 + 1 + 1) (by omega) 0 (recCells rr8.sc (.slice ra8 rn8 rc8) (.slice ea8 en8 ec8)))
  have RO8 := Lib.hid (RO8.out.sets (b := w.heap.size + 1 + 1 + 1) (by omega) 0 (recCells rr8.sc (.slice ra8 rn8 rc8) (.slice ea8 en8 ec8)))
  have B0 := Lib.hid (below_setCells (b := w.heap.size + 1 + 1 + 1) (show w.heap.size ≤ w.heap.size + 1 + 1 + 1 by omega) (recCells rr8.sc (.slice ra8 rn8 rc8) (.slice ea8 en8 ec8)) 0 _ B0.out)
  refine AnyBut.one (i := 8) (o := ⟨none, _, _, _, _, none⟩) (by kernel_rfl) rfl (fun K hK => ?_)
  rw [if_pos (by rfl)]
  refine wp_store_mid 39 (.tmp 8) (.tmp 41) rfl (w.heap.size + 1 + 1 + 1) 0 (recCells rr8.sc (.slice ra8 rn8 rc8) (.slice ea8 en8 ec8)).toArray rfl rfl (me.there 15 (Nat.le_refl _)) recInfoS (rec_one ..) ?_
  refine hK.out _ _ (fun _ => ⟨iv_range GL8.out, iv_range GR8.out, iv_range KV8.out⟩) ?_
  clear hK K
  try simp only [Act.put]
  clear me
  generalize hY2 : World.setCells y1 _ _ _ = y2 at *
  clear hY2
  refine AnyBut.one (i := 9) (o := ⟨some 9, _, _, _, _, none⟩) (by kernel_rfl) rfl (fun K hK => ?_)
  go_simp
  refine hK.out _ _ (fun h => absurd rfl h) ?_
  clear hK K
  try simp only [Act.put, List.setIfInBounds_toArray, List.set_cons_zero, List.set_cons_succ]
  refine AnyBut.done (by kernel_rfl) ?_ _
  go_wp2
  refine bodyPost_ret (v := .tuple #[.agg (recCells rr6.sc (.slice ra6 rn6 rc6) (.slice ea6 en6 ec6)).toArray, .agg (recCells rr7.sc (.slice ra7 rn7 rc7) (.slice ea7 en7 ec7)).toArray, .agg (recCells rr8.sc (.slice ra8 rn8 rc8) (.slice ea8 en8 ec8)).toArray, .nilIface]) (results_cellC3T rfl _ _ (w.heap.size + 1) (w.heap.size + 1 + 1) (w.heap.size + 1 + 1 + 1) _ _ _ _ _ rfl rfl rfl rfl (rec_range P8.out.b) (rec_range R8.out.b) (rec_range T8.out.b) Try.underlying39 rfl recInfoS recInfoS recInfoS) rfl ?_
  refine ⟨_, _, _, rfl, ⟨⟨rr6.sc, ra6, rc6, ea6, ec6, rr6.rows, rr6.ents⟩, ?_, RO6.out.mono (by omega), RR6.out⟩, ⟨⟨rr7.sc, ra7, rc7, ea7, ec7, rr7.rows, rr7.ents⟩, ?_, RO7.out.mono (by omega), RR7.out⟩, ⟨⟨rr8.sc, ra8, rc8, ea8, ec8, rr8.rows, rr8.ents⟩, ?_, RO8.out.mono (by omega), RR8.out⟩, B0.out⟩
  · rw [← NN6.out.1, ← NN6.out.2]; rfl
  · rw [← NN7.out.1, ← NN7.out.2]; rfl
  · rw [← NN8.out.1, ← NN8.out.2]; rfl
end Go.Proofs.Ytkkmfacngmginaa
