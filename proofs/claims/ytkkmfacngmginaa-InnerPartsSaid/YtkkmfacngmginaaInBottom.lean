/- Package inner's own functions (layer 8), by contracts: bottom. -/
import Derived.Test.YtkkmfacngmginaaInEnd
namespace Go.Proofs.Ytkkmfacngmginaa
open Go.RowKit

theorem soundI_right (v : IvD) : soundI v = (!(v.unb && !eqB v.high ⟨#[]⟩) && rightI v) := by
  unfold soundI rightI fromE
  cases firstB v.ents v.low <;> cases (!(v.unb && !eqB v.high ⟨#[]⟩)) <;> cases risE none v.ents <;> simp
set_option maxRecDepth 100000 in
set_option maxHeartbeats 4000000 in
theorem bottom_any (sc : Sc) (rows : List Rw) (ra : Option Addr) (rn rc : Nat) (en : Value) (es : List En) (w : World) (hv : SV lEnt w en es) (hl' : es.length ≤ 2000) :
    Calls Try.prog 45 #[recVal sc (.slice ra rn rc) en] w fun ev w' => ∃ en', ev = .returned (.tuple #[ivVal ((baseI ⟨sc, rows, es⟩).getD IvD.zero) en', .bool (baseI ⟨sc, rows, es⟩).isSome]) ∧ OwnS lEnt w.heap.size w' en' ((baseI ⟨sc, rows, es⟩).getD IvD.zero).ents ∧ Below w.heap.size w w' := by
  have hnot : ∀ (x : Bool) (w : World), (Op.unary .not (.bool x)).run Try.prog w = .ok (.bool (!x)) w := fun _ _ => rfl
  obtain ⟨kind, low, high, unb, right, key, value, page, hp, hl, hk, ns, ng⟩ := sc
  obtain ⟨a, c, rfl, hlc, hcm⟩ := hv.lenform
  obtain ⟨n, hn⟩ : ∃ n, es.length = n := ⟨_, rfl⟩
  have LN := Lib.hid hn
  rw [hn] at hv hlc hl'
  have LL := Lib.hid (show es.length ≤ 10000 by omega)
  have HL := Lib.hid hl'
  have HB7 := Lib.hid (show baseI ⟨⟨kind, low, high, unb, right, key, value, page, hp, hl, hk, ns, ng⟩, rows, es⟩ = if kind = 7 ∧ soundI (⟨low, high, unb, right, es, false, 0, 0, ⟨#[]⟩⟩ : IvD) = true then some (⟨low, high, unb, right, es, false, 0, 0, ⟨#[]⟩⟩ : IvD) else none from rfl)
  have SR := Lib.hid (soundI_right (⟨low, high, unb, right, es, false, 0, 0, ⟨#[]⟩⟩ : IvD))
  rw [hn]
  unfold maxLen at hcm
  clear hn
  obtain ⟨W0, hW0⟩ : ∃ W, W = (w.alloc (recObj ⟨kind, low, high, unb, right, key, value, page, hp, hl, hk, ns, ng⟩ (.slice ra rn rc) (.slice a n c))).alloc ivZero := ⟨_, rfl⟩
  have B0 := Lib.hid (show Below w.heap.size w W0 by rw [hW0]; exact alloc2_below _ _ _)
  have K0 := Lib.hid (show HB w.heap.size (recObj ⟨kind, low, high, unb, right, key, value, page, hp, hl, hk, ns, ng⟩ (.slice ra rn rc) (.slice a n c)) W0 by rw [hW0]; exact HB.fst _ _ _)
  have R0 := Lib.hid (show HB (w.heap.size + 1) ivZero W0 by rw [hW0]; exact HB.snd _ _ _)
  have Z := Lib.hid (show W0.heap.size = w.heap.size + 2 by rw [hW0]; simp)
  have EE := Lib.hid (hv.below B0.out)
  have HS := Lib.hid (show ∀ w1, Below W0.heap.size W0 w1 → (fun w' => w'.cell? ⟨w.heap.size, 1, none⟩ = some (.string low) ∧ w'.cell? ⟨w.heap.size, 2, none⟩ = some (.string high) ∧ w'.cell? ⟨w.heap.size, 3, none⟩ = some (.bool unb) ∧ w'.cell? ⟨w.heap.size, 4, none⟩ = some (.int .i64 right) ∧ w'.cell? ⟨w.heap.size, 6, none⟩ = some (.slice a n c)) w1 from fun w1 hs => by have V := K0.out.below hs; exact ⟨V.cell 1, V.cell 2, V.cell 3, V.cell 4, V.cell 6⟩)
  have SD := Lib.hid (HS.out W0.drew (Below.refl _ _).drew)
  simp only [recObj, ivZero] at hW0
  clear hv
  unfold recVal
  simp only
  go_enter Try.func45, Try.ntmps45
  go_wp2_with fail
  rw [← hW0]
  clear hW0
  go_cut [4] from 5 (fun sp wc => ∃ (nb : Nat) (a3 : Option Addr) (c3 : Nat), sp = .pointer (some ⟨nb, 0, none⟩) ∧ HB nb (ivObj (⟨low, high, unb, right, es, false, 0, 0, ⟨#[]⟩⟩ : IvD) (.slice a3 n c3)) wc ∧ OwnS lEnt W0.heap.size wc (.slice a3 n c3) es ∧ W0.heap.size ≤ nb ∧ Below W0.heap.size W0 wc)
  case first =>
    refine AnyBut.region (fun w' => w'.cell? ⟨w.heap.size, 1, none⟩ = some (.string low) ∧ w'.cell? ⟨w.heap.size, 2, none⟩ = some (.string high) ∧ w'.cell? ⟨w.heap.size, 3, none⟩ = some (.bool unb) ∧ w'.cell? ⟨w.heap.size, 4, none⟩ = some (.int .i64 right) ∧ w'.cell? ⟨w.heap.size, 6, none⟩ = some (.slice a n c)) 14 (by kernel_rfl) ?_
    refine AnyBut.take (i := 0) (oi := ⟨some 5, _, _, _, _, none⟩) (v := ?va0) rfl (by kernel_rfl) (by kernel_rfl) (by kernel_rfl) (by kernel_rfl) (fun _ _ _ h => h) (Or.inl ⟨by rfl, ?hya0⟩) SD.out ?resta0
    case hya0 => (intro w hSw; go_simp; try (with_reducible rfl))
    simp only [Act.put, List.setIfInBounds_toArray, List.set_cons_zero, List.set_cons_succ]
    refine AnyBut.take (i := 1) (oi := ⟨some 6, _, _, _, _, none⟩) (v := ?va1) rfl (by kernel_rfl) (by kernel_rfl) (by kernel_rfl) (by kernel_rfl) (fun _ _ _ h => h) (Or.inl ⟨by rfl, ?hya1⟩) SD.out ?resta1
    case hya1 => (intro w hSw; go_simp; try (with_reducible rfl))
    simp only [Act.put, List.setIfInBounds_toArray, List.set_cons_zero, List.set_cons_succ]
    refine AnyBut.take (i := 2) (oi := ⟨some 7, _, _, _, _, none⟩) (v := ?va2) rfl (by kernel_rfl) (by kernel_rfl) (by kernel_rfl) (by kernel_rfl) (fun _ _ _ h => h) (Or.inl ⟨by rfl, ?hya2⟩) SD.out ?resta2
    case hya2 => (intro w hSw; go_simp; try (with_reducible rfl))
    simp only [Act.put, List.setIfInBounds_toArray, List.set_cons_zero, List.set_cons_succ]
    refine AnyBut.take (i := 3) (oi := ⟨some 8, _, _, _, _, none⟩) (v := ?va3) rfl (by kernel_rfl) (by kernel_rfl) (by kernel_rfl) (by kernel_rfl) (fun _ _ _ h => h) (Or.inl ⟨by rfl, ?hya3⟩) SD.out ?resta3
    case hya3 => (intro w hSw; go_simp; try (with_reducible rfl))
    simp only [Act.put, List.setIfInBounds_toArray, List.set_cons_zero, List.set_cons_succ]
    refine AnyBut.take (i := 4) (oi := ⟨some 9, _, _, _, _, none⟩) (v := ?va4) rfl (by kernel_rfl) (by kernel_rfl) (by kernel_rfl) (by kernel_rfl) (fun _ _ _ h => h) (Or.inl ⟨by rfl, ?hya4⟩) SD.out ?resta4
    case hya4 => (intro w hSw; go_simp; try (with_reducible rfl))
    simp only [Act.put, List.setIfInBounds_toArray, List.set_cons_zero, List.set_cons_succ]
    refine AnyBut.take (i := 5) (oi := ⟨some 10, _, _, _, _, none⟩) (v := ?va5) rfl (by kernel_rfl) (by kernel_rfl) (by kernel_rfl) (by kernel_rfl) (fun _ _ _ h => h) (Or.inl ⟨by rfl, ?hya5⟩) SD.out ?resta5
    case hya5 => (intro w hSw; go_simp; try (with_reducible rfl))
    simp only [Act.put, List.setIfInBounds_toArray, List.set_cons_zero, List.set_cons_succ]
    refine AnyBut.take (i := 6) (oi := ⟨some 11, _, _, _, _, none⟩) (v := ?va6) rfl (by kernel_rfl) (by kernel_rfl) (by kernel_rfl) (by kernel_rfl) (fun _ _ _ h => h) (Or.inl ⟨by rfl, ?hya6⟩) SD.out ?resta6
    case hya6 => (intro w hSw; go_simp; try (with_reducible rfl))
    simp only [Act.put, List.setIfInBounds_toArray, List.set_cons_zero, List.set_cons_succ]
    refine AnyBut.take (i := 7) (oi := ⟨some 12, _, _, _, _, none⟩) (v := ?va7) rfl (by kernel_rfl) (by kernel_rfl) (by kernel_rfl) (by kernel_rfl) (fun _ _ _ h => h) (Or.inl ⟨by rfl, ?hya7⟩) SD.out ?resta7
    case hya7 => (intro w hSw; go_simp; try (with_reducible rfl))
    simp only [Act.put, List.setIfInBounds_toArray, List.set_cons_zero, List.set_cons_succ]
    refine AnyBut.take (i := 8) (oi := ⟨some 13, _, _, _, _, none⟩) (v := ?va8) rfl (by kernel_rfl) (by kernel_rfl) (by kernel_rfl) (by kernel_rfl) (fun _ _ _ h => h) (Or.inl ⟨by rfl, ?hya8⟩) SD.out ?resta8
    case hya8 => (intro w hSw; go_simp; try (with_reducible rfl))
    simp only [Act.put, List.setIfInBounds_toArray, List.set_cons_zero, List.set_cons_succ]
    refine AnyBut.take (i := 9) (oi := ⟨some 14, _, _, _, _, none⟩) (v := ?va9) rfl (by kernel_rfl) (by kernel_rfl) (by kernel_rfl) (by kernel_rfl) (fun _ _ _ h => h) (Or.inl ⟨by rfl, ?hya9⟩) SD.out ?resta9
    case hya9 => (intro w hSw; go_simp; try (with_reducible rfl))
    simp only [Act.put, List.setIfInBounds_toArray, List.set_cons_zero, List.set_cons_succ]
    have b1 := ((Below.refl W0.heap.size W0).alloc (Nat.le_refl _) (.cells #[.slice a n c] 25)).drew
    have k1 := Lib.hid (HB.new (.cells #[.slice a n c] 25) W0).drew
    have b2 := ((Below.refl W0.heap.size W0).alloc (Nat.le_refl _) ivZero).drew
    have k2 := Lib.hid (HB.new ivZero W0).drew
    unfold ivZero at b2
    refine AnyBut.two (i := 10) (j := 13) (o := ⟨some 15, _, _, _, _, none⟩) (u := ⟨some 4, _, _, _, _, none⟩) (by kernel_rfl) rfl rfl (fun K hK => ?_) (fun K hK => ?_)
    · go_simp
      refine hK.out _ _ (fun _ => HS.out _ b1) ?_
      clear hK K
      obtain ⟨W1, hW1⟩ : ∃ W, W = (W0.alloc (.cells #[.slice a n c] 25)).drew := ⟨_, rfl⟩
      rw [← hW1] at b1 k1 ⊢
      clear hW1 b2 k2
      have B1 := Lib.hid b1
      clear b1
      try simp only [Act.put, List.setIfInBounds_toArray, List.set_cons_zero, List.set_cons_succ]
      refine AnyBut.two (i := 11) (j := 13) (o := ⟨some 16, _, _, _, _, none⟩) (u := ⟨some 4, _, _, _, _, none⟩) (by kernel_rfl) rfl rfl (fun K hK => ?_) (fun K hK => ?_)
      · go_simp
        refine (catE1 W1 W0.heap.size (.slice a n c) es k1.out (EE.out.below B1.out) LL.out).mono ?_
        rintro ev w3 ⟨v3, rfl, ho, hs⟩
        obtain ⟨a3, c3, rfl, -, -⟩ := ho.lenN LN.out
        have B3 := Lib.hid (B1.out.trans (hs.mono B1.out.size))
        have O3 := Lib.hid ho
        clear ho hs
        refine hK.out _ _ (fun _ => HS.out _ B3.out) ?_
        clear hK K
        try simp only [Act.put, List.setIfInBounds_toArray, List.set_cons_zero, List.set_cons_succ]
        refine AnyBut.take (i := 12) (oi := ⟨some 17, _, _, _, _, none⟩) (v := ?vb12) rfl (by kernel_rfl) (by kernel_rfl) (by kernel_rfl) (by kernel_rfl) (fun _ _ _ h => h) (Or.inl ⟨by rfl, ?hyb12⟩) (HS.out _ B3.out) ?restb12
        case hyb12 => (intro w hSw; go_simp; try (with_reducible rfl))
        simp only [Act.put, List.setIfInBounds_toArray, List.set_cons_zero, List.set_cons_succ]
        have b4 := alloc_below0 w3 ivZero
        have k4 := Lib.hid (HB.new ivZero w3)
        have B4 := Lib.hid (B3.out.trans (b4.mono B3.out.size))
        have O4 := Lib.hid (O3.out.below b4)
        have NBL := Lib.hid B3.out.size
        have OB := Lib.hid O3.out.bounds
        unfold ivZero at B4 O4
        refine AnyBut.one (i := 13) (o := ⟨some 4, _, _, _, _, none⟩) (by kernel_rfl) rfl (fun K hK => ?_)
        go_simp
        refine hK.out _ _ (fun _ => HS.out _ B4.out) ?_
        clear hK K
        try simp only [Act.put, List.setIfInBounds_toArray, List.set_cons_zero, List.set_cons_succ]
        refine AnyBut.one (i := 14) (o := ⟨none, _, _, _, _, none⟩) (by kernel_rfl) rfl (fun K hK => ?_)
        rw [if_pos (by rfl)]
        refine wp_store_mid 29 (.tmp 4) (.tmp 17) rfl w3.heap.size 0 (ivCells (⟨low, high, unb, right, es, false, 0, 0, ⟨#[]⟩⟩ : IvD) (.slice a3 n c3)).toArray rfl rfl (k4.out.there 9 (Nat.le_refl _)) ivInfoS (iv_one _ _ _ _) ?_
        refine hK.out _ _ (fun h => absurd rfl h) ?_
        clear hK K
        try simp only [Act.put]
        refine AnyBut.done (by kernel_rfl) ?_ _
        go_wp2
        go_meet
        case rel => exact ⟨w3.heap.size, a3, c3, rfl, k4.out.sets (ivCells (⟨low, high, unb, right, es, false, 0, 0, ⟨#[]⟩⟩ : IvD) (.slice a3 n c3)) rfl, (O4.out.kept (Kept.setCells (ivCells (⟨low, high, unb, right, es, false, 0, 0, ⟨#[]⟩⟩ : IvD) (.slice a3 n c3)) 0 _ (Kept.refl (fun x => x = w3.heap.size) _)) (fun x m d hv hs => by have := (OB.out x.block (by rw [hv]; rfl)).2; omega)).mono B1.out.size, NBL.out, below_setCells (b := w3.heap.size) NBL.out (ivCells (⟨low, high, unb, right, es, false, 0, 0, ⟨#[]⟩⟩ : IvD) (.slice a3 n c3)) 0 _ B4.out⟩
      · have b4 := alloc_below0 W1 ivZero
        have k4 := Lib.hid (HB.new ivZero W1)
        have k5 := Lib.hid (k1.out.below b4)
        have B4 := Lib.hid (B1.out.trans (b4.mono B1.out.size))
        have BS := Lib.hid (show (W1.alloc ivZero).heap.size = W1.heap.size + 1 by simp)
        unfold ivZero at B4 k4 k5 BS
        go_simp
        refine hK.out _ _ (fun _ => HS.out _ B4.out) ?_
        clear hK K b4
        generalize hW4 : World.alloc W1 _ = W4 at *
        clear hW4
        try simp only [Act.put, List.setIfInBounds_toArray, List.set_cons_zero, List.set_cons_succ]
        refine AnyBut.one (i := 11) (o := ⟨some 16, _, _, _, _, none⟩) (by kernel_rfl) rfl (fun K hK => ?_)
        go_simp
        refine (catE1 W4 W0.heap.size (.slice a n c) es k5.out (EE.out.below B4.out) LL.out).mono ?_
        rintro ev w5 ⟨v3, rfl, ho, hs⟩
        obtain ⟨a3, c3, rfl, -, -⟩ := ho.lenN LN.out
        have B5 := Lib.hid (B4.out.trans (hs.mono B4.out.size))
        have HSS := Lib.hid hs
        have O5 := Lib.hid ho
        clear ho hs
        refine hK.out _ _ (fun _ => HS.out _ B5.out) ?_
        clear hK K
        try simp only [Act.put, List.setIfInBounds_toArray, List.set_cons_zero, List.set_cons_succ]
        refine AnyBut.one (i := 12) (o := ⟨some 17, _, _, _, _, none⟩) (by kernel_rfl) rfl (fun K hK => ?_)
        go_simp
        refine hK.out _ _ (fun _ => HS.out _ B5.out) ?_
        clear hK K
        try simp only [Act.put, List.setIfInBounds_toArray, List.set_cons_zero, List.set_cons_succ]
        have k6 := Lib.hid (k4.out.below HSS.out)
        have NBL := Lib.hid B1.out.size
        refine AnyBut.one (i := 14) (o := ⟨none, _, _, _, _, none⟩) (by kernel_rfl) rfl (fun K hK => ?_)
        rw [if_pos (by rfl)]
        refine wp_store_mid 29 (.tmp 4) (.tmp 17) rfl W1.heap.size 0 (ivCells (⟨low, high, unb, right, es, false, 0, 0, ⟨#[]⟩⟩ : IvD) (.slice a3 n c3)).toArray rfl rfl (k6.out.there 9 (Nat.le_refl _)) ivInfoS (iv_one _ _ _ _) ?_
        refine hK.out _ _ (fun h => absurd rfl h) ?_
        clear hK K
        try simp only [Act.put]
        refine AnyBut.done (by kernel_rfl) ?_ _
        go_wp2
        go_meet
        case rel => exact ⟨W1.heap.size, a3, c3, rfl, k6.out.sets (ivCells (⟨low, high, unb, right, es, false, 0, 0, ⟨#[]⟩⟩ : IvD) (.slice a3 n c3)) rfl, (O5.out.sets (b := W1.heap.size) (by have := BS.out; omega) 0 (ivCells (⟨low, high, unb, right, es, false, 0, 0, ⟨#[]⟩⟩ : IvD) (.slice a3 n c3))).mono B4.out.size, NBL.out, below_setCells (b := W1.heap.size) NBL.out (ivCells (⟨low, high, unb, right, es, false, 0, 0, ⟨#[]⟩⟩ : IvD) (.slice a3 n c3)) 0 _ B5.out⟩
    · go_simp
      refine hK.out _ _ (fun _ => HS.out _ b2) ?_
      clear hK K
      obtain ⟨W1, hW1⟩ : ∃ W, W = (W0.alloc (.cells #[.string ⟨#[]⟩, .string ⟨#[]⟩, .bool false, .int .i64 0, .slice none 0 0, .bool false, .int .i64 0, .int .i64 0, .string ⟨#[]⟩] 29)).drew := ⟨_, rfl⟩
      have BS := Lib.hid (show W1.heap.size = W0.heap.size + 1 by rw [hW1]; simp [World.drew])
      have k3 := Lib.hid (show HB W0.heap.size ivZero W1 by rw [hW1]; exact k2.out)
      rw [← hW1] at b2 ⊢
      clear hW1 b1 k1 k2
      have B1 := Lib.hid b2
      clear b2
      try simp only [Act.put, List.setIfInBounds_toArray, List.set_cons_zero, List.set_cons_succ]
      have b4 := alloc_below0 W1 (.cells #[.slice a n c] 25)
      have k4 := Lib.hid (HB.new (.cells #[.slice a n c] 25) W1)
      have k5 := Lib.hid (k3.out.below b4)
      have B4 := Lib.hid (B1.out.trans (b4.mono B1.out.size))
      refine AnyBut.one (i := 10) (o := ⟨some 15, _, _, _, _, none⟩) (by kernel_rfl) rfl (fun K hK => ?_)
      go_simp
      refine hK.out _ _ (fun _ => HS.out _ B4.out) ?_
      clear hK K
      have BT := Lib.hid b4.size
      clear b4
      generalize hW4 : World.alloc W1 _ = W4 at *
      clear hW4
      try simp only [Act.put, List.setIfInBounds_toArray, List.set_cons_zero, List.set_cons_succ]
      refine AnyBut.one (i := 11) (o := ⟨some 16, _, _, _, _, none⟩) (by kernel_rfl) rfl (fun K hK => ?_)
      go_simp
      refine (catE1 W4 W1.heap.size (.slice a n c) es k4.out (EE.out.below B4.out) LL.out).mono ?_
      rintro ev w5 ⟨v3, rfl, ho, hs⟩
      obtain ⟨a3, c3, rfl, -, -⟩ := ho.lenN LN.out
      have B5 := Lib.hid (B4.out.trans (hs.mono B4.out.size))
      have HSS := Lib.hid hs
      have O5 := Lib.hid ho
      clear ho hs
      refine hK.out _ _ (fun _ => HS.out _ B5.out) ?_
      clear hK K
      try simp only [Act.put, List.setIfInBounds_toArray, List.set_cons_zero, List.set_cons_succ]
      refine AnyBut.one (i := 12) (o := ⟨some 17, _, _, _, _, none⟩) (by kernel_rfl) rfl (fun K hK => ?_)
      go_simp
      refine hK.out _ _ (fun _ => HS.out _ B5.out) ?_
      clear hK K
      try simp only [Act.put, List.setIfInBounds_toArray, List.set_cons_zero, List.set_cons_succ]
      have k6 := Lib.hid (k5.out.below HSS.out)
      have NBL := Lib.hid (Nat.le_refl W0.heap.size)
      refine AnyBut.one (i := 14) (o := ⟨none, _, _, _, _, none⟩) (by kernel_rfl) rfl (fun K hK => ?_)
      rw [if_pos (by rfl)]
      refine wp_store_mid 29 (.tmp 4) (.tmp 17) rfl W0.heap.size 0 (ivCells (⟨low, high, unb, right, es, false, 0, 0, ⟨#[]⟩⟩ : IvD) (.slice a3 n c3)).toArray rfl rfl (k6.out.there 9 (Nat.le_refl _)) ivInfoS (iv_one _ _ _ _) ?_
      refine hK.out _ _ (fun h => absurd rfl h) ?_
      clear hK K
      try simp only [Act.put]
      refine AnyBut.done (by kernel_rfl) ?_ _
      go_wp2
      go_meet
      case rel => exact ⟨W0.heap.size, a3, c3, rfl, k6.out.sets (ivCells (⟨low, high, unb, right, es, false, 0, 0, ⟨#[]⟩⟩ : IvD) (.slice a3 n c3)) rfl, (O5.out.sets (b := W0.heap.size) (by have := BS.out; have := BT.out; omega) 0 (ivCells (⟨low, high, unb, right, es, false, 0, 0, ⟨#[]⟩⟩ : IvD) (.slice a3 n c3))).mono B4.out.size, NBL.out, below_setCells (b := W0.heap.size) NBL.out (ivCells (⟨low, high, unb, right, es, false, 0, 0, ⟨#[]⟩⟩ : IvD) (.slice a3 n c3)) 0 _ B5.out⟩
  case rest =>
    obtain ⟨nb, a3, c3, rfl, hb, ho, hnb, hs⟩ := hcut
    have B2 := Lib.hid (B0.out.trans (hs.mono B0.out.size))
    have K2 := Lib.hid (K0.out.below hs)
    have R2 := Lib.hid (R0.out.below hs)
    have V2 := Lib.hid hb
    have O2 := Lib.hid ho
    have NB := Lib.hid hnb
    obtain ⟨w2, hw2⟩ : ∃ x, x = wc := ⟨_, rfl⟩
    subst hw2
    have k_0 := K2.out.cell 0
    have k_2 := K2.out.cell 2
    have k_3 := K2.out.cell 3
    simp at k_0 k_2 k_3
    clear hs hb ho hnb
    by_cases hk7 : kind = 7
    · subst hk7
      have VB2 := Lib.hid V2.out.vb
      have v_0 := VB2.out.c0
      have v_1 := VB2.out.c1
      have v_2 := VB2.out.c2
      have v_3 := VB2.out.c3
      have v_4 := VB2.out.c4
      have v_5 := VB2.out.c5
      have v_6 := VB2.out.c6
      have v_7 := VB2.out.c7
      have v_8 := VB2.out.c8
      simp only at v_0 v_1 v_2 v_3 v_4 v_5 v_6 v_7 v_8
      have hri := fun w h => rightI_any (⟨low, high, unb, right, es, false, 0, 0, ⟨#[]⟩⟩ : IvD) (.slice a3 n c3) w h (by rw [LN.out]; exact HL.out)
      simp only [ivVal] at hri
      cases hx : (unb && !eqB high ⟨#[]⟩) with
      | true =>
        rw [Bool.and_eq_true, Bool.not_eq_true'] at hx
        obtain ⟨hu, he⟩ := hx
        subst hu
        have P := Lib.hid (show baseI ⟨⟨7, low, high, true, right, key, value, page, hp, hl, hk, ns, ng⟩, rows, es⟩ = none by rw [HB7.out, if_neg]; rintro ⟨-, h⟩; rw [SR.out] at h; simp [he] at h)
        have e0 : high.toList.isEmpty = false := by
          have h0 : (high.toList == (⟨#[]⟩ : ByteArray).toList) = false := by rw [toList_eqB]; exact he
          rw [show (⟨#[]⟩ : ByteArray).toList = [] from by rw [ByteArray.toList_eq]] at h0
          cases hq : high.toList with
          | nil => rw [hq] at h0; cases h0
          | cons x l => rfl
        have e1 : ¬ high.toList = [] := fun h => by rw [h] at e0; cases e0
        clear he v_0 v_1 v_2 v_3 v_4 v_5 v_6 v_7 v_8
        go_wp2_with (refine wpList_store_mid rfl 29 (.tmp 2) (.tmp 35) rfl (w.heap.size + 1) 0 (ivCells IvD.zero nilV).toArray rfl rfl (R2.out.there 9 (Nat.le_refl _)) ivInfoS (iv_one _ _ _ _) ?_)
        have B6 := below_setCells (b := w.heap.size + 1) (show w.heap.size ≤ w.heap.size + 1 by omega) (ivCells IvD.zero nilV) 0 _ B2.out
        refine bodyPost_ret (v := .tuple #[.agg (ivCells IvD.zero nilV).toArray, .bool false]) (results_cellT rfl _ _ (w.heap.size + 1) _ _ _ rfl rfl (World.rangeAt_setCells_same _ _ 0 _ (R2.out.there 9 (Nat.le_refl _))) Try.underlying29 rfl ivInfoS) rfl ?_
        exact ⟨nilV, by rw [P.out]; rfl, by rw [P.out]; exact OwnS.nil _ _ _, B6⟩
      | false =>
        have SR2 := Lib.hid (show soundI (⟨low, high, unb, right, es, false, 0, 0, ⟨#[]⟩⟩ : IvD) = rightI (⟨low, high, unb, right, es, false, 0, 0, ⟨#[]⟩⟩ : IvD) by rw [SR.out]; simp only [hx]; rfl)
        have eg : unb = true → high.toList.isEmpty = true := fun hu => by
          rw [hu, Bool.true_and, Bool.not_eq_false'] at hx
          rw [(eqB_iff _ _).1 hx, ByteArray.toList_eq]; rfl
        clear hx
        obtain ⟨t, ht⟩ : ∃ t, rightI (⟨low, high, unb, right, es, false, 0, 0, ⟨#[]⟩⟩ : IvD) = t := ⟨_, rfl⟩
        have HT := Lib.hid ht
        cases unb with
        | true =>
          have e0 := eg rfl
          have e1 : high.toList = [] := by simpa using e0
          clear eg
          go_wp2_with fail
          refine (hri _ O2.out.sv).mono ?_
          rintro ev w3 ⟨rfl, hs⟩
          rw [ht]
          have B3 := Lib.hid (B2.out.trans (hs.mono B2.out.size))
          have R3 := Lib.hid (R2.out.below hs)
          have V3 := Lib.hid (V2.out.below hs)
          have O3 := Lib.hid (O2.out.below hs)
          clear hs v_0 v_1 v_2 v_3 v_4 v_5 v_6 v_7 v_8 ht k_0 k_2 k_3
          cases t with
          | false =>
            have P := Lib.hid (show baseI _ = none from HB7.out.trans (if_neg (by rintro ⟨-, h⟩; rw [SR2.out, HT.out] at h; cases h)))
            go_wp2_with (refine wpList_store_mid rfl 29 (.tmp 2) (.tmp 35) rfl (w.heap.size + 1) 0 (ivCells IvD.zero nilV).toArray rfl rfl (R3.out.there 9 (Nat.le_refl _)) ivInfoS (iv_one _ _ _ _) ?_)
            have B6 := below_setCells (b := w.heap.size + 1) (show w.heap.size ≤ w.heap.size + 1 by omega) (ivCells IvD.zero nilV) 0 _ B3.out
            refine bodyPost_ret (v := .tuple #[.agg (ivCells IvD.zero nilV).toArray, .bool false]) (results_cellT rfl _ _ (w.heap.size + 1) _ _ _ rfl rfl (World.rangeAt_setCells_same _ _ 0 _ (R3.out.there 9 (Nat.le_refl _))) Try.underlying29 rfl ivInfoS) rfl ?_
            exact ⟨nilV, by rw [P.out]; rfl, by rw [P.out]; exact OwnS.nil _ _ _, B6⟩
          | true =>
            have P := Lib.hid (show baseI _ = some (⟨low, high, true, right, es, false, 0, 0, ⟨#[]⟩⟩ : IvD) from HB7.out.trans (if_pos ⟨by trivial, by rw [SR2.out, HT.out]⟩))
            have rg := iv_range V3.out
            go_wp2_with (first | (refine wpList_load_mid rfl 29 (.tmp 4) rfl nb 0 rfl (ivCells (⟨low, high, true, right, es, false, 0, 0, ⟨#[]⟩⟩ : IvD) (.slice a3 n c3)) _ ?_ Try.underlying29 rfl ivInfoS ?_; exact rg) | (refine wpList_store_mid rfl 29 (.tmp 2) (.tmp 36) rfl (w.heap.size + 1) 0 (ivCells (⟨low, high, true, right, es, false, 0, 0, ⟨#[]⟩⟩ : IvD) (.slice a3 n c3)).toArray rfl rfl ?_ ivInfoS (iv_one _ _ _ _) ?_; exact R3.out.there 9 (Nat.le_refl _)))
            have O7 := O3.out.sets (b := w.heap.size + 1) (by have := Z.out; omega) 0 (ivCells (⟨low, high, true, right, es, false, 0, 0, ⟨#[]⟩⟩ : IvD) (.slice a3 n c3))
            have B8 := below_setCells (b := w.heap.size + 1) (show w.heap.size ≤ w.heap.size + 1 by omega) (ivCells (⟨low, high, true, right, es, false, 0, 0, ⟨#[]⟩⟩ : IvD) (.slice a3 n c3)) 0 _ B3.out
            refine bodyPost_ret (v := .tuple #[.agg (ivCells (⟨low, high, true, right, es, false, 0, 0, ⟨#[]⟩⟩ : IvD) (.slice a3 n c3)).toArray, .bool true]) (results_cellT rfl _ _ (w.heap.size + 1) _ _ _ rfl rfl (World.rangeAt_setCells_same _ _ 0 _ (R3.out.there 9 (Nat.le_refl _))) Try.underlying29 rfl ivInfoS) rfl ?_
            exact ⟨_, by rw [P.out]; rfl, by rw [P.out]; exact O7.mono (by have := Z.out; omega), B8⟩
        | false =>
          clear eg
          go_wp2_with fail
          refine (hri _ O2.out.sv).mono ?_
          rintro ev w3 ⟨rfl, hs⟩
          rw [ht]
          have B3 := Lib.hid (B2.out.trans (hs.mono B2.out.size))
          have R3 := Lib.hid (R2.out.below hs)
          have V3 := Lib.hid (V2.out.below hs)
          have O3 := Lib.hid (O2.out.below hs)
          clear hs v_0 v_1 v_2 v_3 v_4 v_5 v_6 v_7 v_8 ht k_0 k_2 k_3
          cases t with
          | false =>
            have P := Lib.hid (show baseI _ = none from HB7.out.trans (if_neg (by rintro ⟨-, h⟩; rw [SR2.out, HT.out] at h; cases h)))
            go_wp2_with (refine wpList_store_mid rfl 29 (.tmp 2) (.tmp 35) rfl (w.heap.size + 1) 0 (ivCells IvD.zero nilV).toArray rfl rfl (R3.out.there 9 (Nat.le_refl _)) ivInfoS (iv_one _ _ _ _) ?_)
            have B6 := below_setCells (b := w.heap.size + 1) (show w.heap.size ≤ w.heap.size + 1 by omega) (ivCells IvD.zero nilV) 0 _ B3.out
            refine bodyPost_ret (v := .tuple #[.agg (ivCells IvD.zero nilV).toArray, .bool false]) (results_cellT rfl _ _ (w.heap.size + 1) _ _ _ rfl rfl (World.rangeAt_setCells_same _ _ 0 _ (R3.out.there 9 (Nat.le_refl _))) Try.underlying29 rfl ivInfoS) rfl ?_
            exact ⟨nilV, by rw [P.out]; rfl, by rw [P.out]; exact OwnS.nil _ _ _, B6⟩
          | true =>
            have P := Lib.hid (show baseI _ = some (⟨low, high, false, right, es, false, 0, 0, ⟨#[]⟩⟩ : IvD) from HB7.out.trans (if_pos ⟨by trivial, by rw [SR2.out, HT.out]⟩))
            have rg := iv_range V3.out
            go_wp2_with (first | (refine wpList_load_mid rfl 29 (.tmp 4) rfl nb 0 rfl (ivCells (⟨low, high, false, right, es, false, 0, 0, ⟨#[]⟩⟩ : IvD) (.slice a3 n c3)) _ ?_ Try.underlying29 rfl ivInfoS ?_; exact rg) | (refine wpList_store_mid rfl 29 (.tmp 2) (.tmp 36) rfl (w.heap.size + 1) 0 (ivCells (⟨low, high, false, right, es, false, 0, 0, ⟨#[]⟩⟩ : IvD) (.slice a3 n c3)).toArray rfl rfl ?_ ivInfoS (iv_one _ _ _ _) ?_; exact R3.out.there 9 (Nat.le_refl _)))
            have O7 := O3.out.sets (b := w.heap.size + 1) (by have := Z.out; omega) 0 (ivCells (⟨low, high, false, right, es, false, 0, 0, ⟨#[]⟩⟩ : IvD) (.slice a3 n c3))
            have B8 := below_setCells (b := w.heap.size + 1) (show w.heap.size ≤ w.heap.size + 1 by omega) (ivCells (⟨low, high, false, right, es, false, 0, 0, ⟨#[]⟩⟩ : IvD) (.slice a3 n c3)) 0 _ B3.out
            refine bodyPost_ret (v := .tuple #[.agg (ivCells (⟨low, high, false, right, es, false, 0, 0, ⟨#[]⟩⟩ : IvD) (.slice a3 n c3)).toArray, .bool true]) (results_cellT rfl _ _ (w.heap.size + 1) _ _ _ rfl rfl (World.rangeAt_setCells_same _ _ 0 _ (R3.out.there 9 (Nat.le_refl _))) Try.underlying29 rfl ivInfoS) rfl ?_
            exact ⟨_, by rw [P.out]; rfl, by rw [P.out]; exact O7.mono (by have := Z.out; omega), B8⟩
    · have e7 : (kind != 7) = true := by simpa using hk7
      have P := Lib.hid (show baseI ⟨⟨kind, low, high, unb, right, key, value, page, hp, hl, hk, ns, ng⟩, rows, es⟩ = none by rw [HB7.out, if_neg (fun h => hk7 h.1)])
      clear hk7
      go_wp2_with (refine wpList_store_mid rfl 29 (.tmp 2) (.tmp 35) rfl (w.heap.size + 1) 0 (ivCells IvD.zero nilV).toArray rfl rfl (R2.out.there 9 (Nat.le_refl _)) ivInfoS (iv_one _ _ _ _) ?_)
      have B6 := below_setCells (b := w.heap.size + 1) (show w.heap.size ≤ w.heap.size + 1 by omega) (ivCells IvD.zero nilV) 0 _ B2.out
      refine bodyPost_ret (v := .tuple #[.agg (ivCells IvD.zero nilV).toArray, .bool false]) (results_cellT rfl _ _ (w.heap.size + 1) _ _ _ rfl rfl (World.rangeAt_setCells_same _ _ 0 _ (R2.out.there 9 (Nat.le_refl _))) Try.underlying29 rfl ivInfoS) rfl ?_
      exact ⟨nilV, by rw [P.out]; rfl, by rw [P.out]; exact OwnS.nil _ _ _, B6⟩
end Go.Proofs.Ytkkmfacngmginaa
