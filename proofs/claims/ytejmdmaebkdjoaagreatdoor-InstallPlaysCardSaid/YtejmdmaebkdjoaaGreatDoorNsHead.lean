/- Package install's Head and Pages; package mem's Head, by contracts. -/
import Derived.Test.YtejmdmaebkdjoaaGreatDoorNsBegin
import Derived.Test.YtejmdmaebkdjoaaGreatDoorNsPath
namespace Go.Proofs.YtejmdmaebkdjoaaGreatDoor
set_option linter.unusedVariables false
set_option linter.unusedSimpArgs false
set_option maxRecDepth 100000
set_option maxHeartbeats 4000000
open Go.RowKit
theorem ihead_no (w : World) (b : Nat) (i : Ins) (h : InsAt w b i) (hd : i.dn = false) : Calls Tryz.prog 17 #[.pointer (some ⟨b, 0, none⟩)] w fun ev w' => ev = .returned (refV 0 0) ∧ Below w.heap.size w w' := by
 have B0 := Lib.hid (alloc_below0 w (.cells #[.int .i64 0, .int .i64 0] 48))
 have X0 := Lib.hid (blk_new w (.cells #[.int .i64 0, .int .i64 0] 48))
 have TH := Lib.hid (show (w.alloc (.cells #[.int .i64 0, .int .i64 0] 48)).there w.heap.size 0 2 from n_there_new w _ _)
 have y0 := (h.step (alloc_below0 w (.cells #[.int .i64 0, .int .i64 0] 48))).cDn
 rw [hd] at y0
 clear h hd
 unfold refV
 go_enter Tryz.func17, Tryz.ntmps17
 go_wp2_with (refine wpList_store_to rfl 48 (.tmp 2) (.tmp 12) rfl w.heap.size 0 [.int .i64 0, .int .i64 0] rfl rfl ?_ refInfoS (by kernel_rfl) ?_; exact TH.out; intro W2 hW2; have X2 := Lib.hid (show W2.heap[w.heap.size]? = some (.cells ([.int .i64 0, .int .i64 0] : List Value).toArray 48 (0, 0)) by rw [hW2]; exact list_laid [.int .i64 0, .int .i64 0] X0.out rfl); have B2 := Lib.hid (show Below w.heap.size w W2 by rw [hW2]; exact below_setCells (Nat.le_refl _) _ 0 _ B0.out); clear hW2)
 exact bodyPost_ret (v := .agg ([.int .i64 0, .int .i64 0] : List Value).toArray) (results_cell1 rfl _ _ w.heap.size [.int .i64 0, .int .i64 0] _ rfl (blk_rng X2.out) Tryz.underlying48 rfl refInfoS) rfl ⟨rfl, B2.out⟩
theorem ihead_any (w : World) (b : Nat) (i : Ins) (h : InsAt w b i) (hd : i.dn = true) (h0 : 0 < i.pt) (h5 : i.pt ≤ 5) : Calls Tryz.prog 17 #[.pointer (some ⟨b, 0, none⟩)] w fun ev w' => ev = .returned (refV (i.rf (i.pt - 1)).1 (i.rf (i.pt - 1)).2) ∧ Below w.heap.size w w' := by
 have B0 := Lib.hid (alloc_below0 w (.cells #[.int .i64 0, .int .i64 0] 48))
 have X0 := Lib.hid (blk_new w (.cells #[.int .i64 0, .int .i64 0] 48))
 have I0 := Lib.hid (h.step (alloc_below0 w (.cells #[.int .i64 0, .int .i64 0] 48)))
 have y0 := I0.out.cDn
 rw [hd] at y0
 have hw : IntKind.i64.wrap ((i.pt : Int) - 1) = ((i.pt - 1 : Nat) : Int) := by rw [Go.IntWalk.i64_in _ (by omega)]; omega
 have hx : (0 : Int) ≤ ((i.pt - 1 : Nat) : Int) ∧ ((i.pt - 1 : Nat) : Int) < 5 := by omega
 have hk5 : i.pt - 1 < 5 := by omega
 clear h hd h0 h5
 unfold refV
 go_enter Tryz.func17, Tryz.ntmps17
 go_wp2_with fail
 generalize hwa : w.alloc (.cells #[.int .i64 0, .int .i64 0] 48) = wa at *
 clear hwa y0
 have ID := Lib.hid (I0.out.step (Below.refl _ _).drew)
 have XD := Lib.hid (show wa.drew.heap[w.heap.size]? = some (.cells #[.int .i64 0, .int .i64 0] 48 (0, 0)) from X0.out)
 have BD := Lib.hid B0.out.drew
 refine AnyBut.region (fun w' => InsAt w' b i) 10 (by kernel_rfl) ?_
 generalize wa.drew = wd at *
 refine AnyBut.takeP [] (i := 0) (oi := ⟨some 13, _, _, _, _, _⟩) (v := ?va0) rfl (by kernel_rfl) (by kernel_rfl) (by kernel_rfl) (by kernel_rfl) (by kernel_rfl) (fun _ _ _ h => h) (Or.inl ⟨by rfl, ?hya0⟩) ID.out ?resta0
 case hya0 => (intro w hSw; have q0 := hSw.cPt; have q1 := hSw.cRf1 hk5; have q2 := hSw.cRf2 hk5; go_simp; try (with_reducible rfl))
 simp only [Act.put, sT, sZ, sS]
 refine AnyBut.takeP [] (i := 1) (oi := ⟨some 14, _, _, _, _, _⟩) (v := ?va1) rfl (by kernel_rfl) (by kernel_rfl) (by kernel_rfl) (by kernel_rfl) (by kernel_rfl) (fun _ _ _ h => h) (Or.inl ⟨by rfl, ?hya1⟩) ID.out ?resta1
 case hya1 => (intro w hSw; have q0 := hSw.cPt; have q1 := hSw.cRf1 hk5; have q2 := hSw.cRf2 hk5; go_simp; try (with_reducible rfl))
 simp only [Act.put, sT, sZ, sS]
 refine AnyBut.takeP [] (i := 2) (oi := ⟨some 15, _, _, _, _, _⟩) (v := ?va2) rfl (by kernel_rfl) (by kernel_rfl) (by kernel_rfl) (by kernel_rfl) (by kernel_rfl) (fun _ _ _ h => h) (Or.inl ⟨by rfl, ?hya2⟩) ID.out ?resta2
 case hya2 => (intro w hSw; have q0 := hSw.cPt; have q1 := hSw.cRf1 hk5; have q2 := hSw.cRf2 hk5; go_simp; try (with_reducible rfl))
 simp only [Act.put, sT, sZ, sS]
 refine AnyBut.takeP [] (i := 3) (oi := ⟨some 16, _, _, _, _, _⟩) (v := ?va3) rfl (by kernel_rfl) (by kernel_rfl) (by kernel_rfl) (by kernel_rfl) (by kernel_rfl) (fun _ _ _ h => h) (Or.inl ⟨by rfl, ?hya3⟩) ID.out ?resta3
 case hya3 => (intro w hSw; have q0 := hSw.cPt; have q1 := hSw.cRf1 hk5; have q2 := hSw.cRf2 hk5; go_simp; try (with_reducible rfl))
 simp only [Act.put, sT, sZ, sS]
 refine AnyBut.takeP [] (i := 4) (oi := ⟨some 17, _, _, _, _, _⟩) (v := ?va4) rfl (by kernel_rfl) (by kernel_rfl) (by kernel_rfl) (by kernel_rfl) (by kernel_rfl) (fun _ _ _ h => h) (Or.inl ⟨by rfl, ?hya4⟩) ID.out ?resta4
 case hya4 => (intro w hSw; have q0 := hSw.cPt; have q1 := hSw.cRf1 hk5; have q2 := hSw.cRf2 hk5; go_simp; try (with_reducible rfl))
 simp only [Act.put, sT, sZ, sS]
 refine AnyBut.takeP [] (i := 5) (oi := ⟨some 18, _, _, _, _, _⟩) (v := ?va5) rfl (by kernel_rfl) (by kernel_rfl) (by kernel_rfl) (by kernel_rfl) (by kernel_rfl) (fun _ _ _ h => h) (Or.inl ⟨by rfl, ?hya5⟩) ID.out ?resta5
 case hya5 => (intro w hSw; have q0 := hSw.cPt; have q1 := hSw.cRf1 hk5; have q2 := hSw.cRf2 hk5; go_simp; try (with_reducible rfl))
 simp only [Act.put, sT, sZ, sS]
 refine AnyBut.takeP [] (i := 6) (oi := ⟨some 19, _, _, _, _, _⟩) (v := ?va6) rfl (by kernel_rfl) (by kernel_rfl) (by kernel_rfl) (by kernel_rfl) (by kernel_rfl) (fun _ _ _ h => h) (Or.inl ⟨by rfl, ?hya6⟩) ID.out ?resta6
 case hya6 => (intro w hSw; have q0 := hSw.cPt; have q1 := hSw.cRf1 hk5; have q2 := hSw.cRf2 hk5; go_simp; try (with_reducible rfl))
 simp only [Act.put, sT, sZ, sS]
 refine AnyBut.takeP [] (i := 7) (oi := ⟨some 20, _, _, _, _, _⟩) (v := ?va7) rfl (by kernel_rfl) (by kernel_rfl) (by kernel_rfl) (by kernel_rfl) (by kernel_rfl) (fun _ _ _ h => h) (Or.inl ⟨by rfl, ?hya7⟩) ID.out ?resta7
 case hya7 => (intro w hSw; have q0 := hSw.cPt; have q1 := hSw.cRf1 hk5; have q2 := hSw.cRf2 hk5; go_simp; try (with_reducible rfl))
 simp only [Act.put, sT, sZ, sS]
 refine AnyBut.takeP [] (i := 8) (oi := ⟨some 21, _, _, _, _, _⟩) (v := ?va8) rfl (by kernel_rfl) (by kernel_rfl) (by kernel_rfl) (by kernel_rfl) (by kernel_rfl) (fun _ _ _ h => h) (Or.inl ⟨by rfl, ?hya8⟩) ID.out ?resta8
 case hya8 => (intro w hSw; have q0 := hSw.cPt; have q1 := hSw.cRf1 hk5; have q2 := hSw.cRf2 hk5; go_simp; try (with_reducible rfl))
 simp only [Act.put, sT, sZ, sS]
 refine AnyBut.takeP [] (i := 9) (oi := ⟨some 22, _, _, _, _, _⟩) (v := ?va9) rfl (by kernel_rfl) (by kernel_rfl) (by kernel_rfl) (by kernel_rfl) (by kernel_rfl) (fun _ _ _ h => h) (Or.inl ⟨by rfl, ?hya9⟩) ID.out ?resta9
 case hya9 => (intro w hSw; have q0 := hSw.cPt; have q1 := hSw.cRf1 hk5; have q2 := hSw.cRf2 hk5; go_simp; try (with_reducible rfl))
 simp only [Act.put, sT, sZ, sS]
 refine AnyBut.one (i := 10) (o := ⟨none, _, _, _, _, _⟩) (by kernel_rfl) rfl (fun K hK => ?_)
 rw [if_pos (by rfl)]
 refine wp_store_to 48 (.tmp 2) (.tmp 22) rfl w.heap.size 0 [.int .i64 (i.rf (i.pt - 1)).1, .int .i64 (i.rf (i.pt - 1)).2] rfl rfl ?_ refInfoS (by kernel_rfl) ?_
 ·exact blk_there XD.out 2 (Nat.le_refl _)
 intro W2 hW2
 have X2 := Lib.hid (show W2.heap[w.heap.size]? = some (.cells ([.int .i64 (i.rf (i.pt - 1)).1, .int .i64 (i.rf (i.pt - 1)).2] : List Value).toArray 48 (0, 0)) by rw [hW2]; exact list_laid [.int .i64 (i.rf (i.pt - 1)).1, .int .i64 (i.rf (i.pt - 1)).2] XD.out rfl)
 have B2 := Lib.hid (show Below w.heap.size w W2 by rw [hW2]; exact below_setCells (Nat.le_refl _) _ 0 _ BD.out)
 clear hW2
 refine hK.out _ _ (fun h => absurd rfl h) ?_
 clear hK K
 try simp only [Act.put]
 refine AnyBut.done (by kernel_rfl) ?_ _
 try simp only [Act.put]
 go_wp2
 exact bodyPost_ret (v := .agg ([.int .i64 (i.rf (i.pt - 1)).1, .int .i64 (i.rf (i.pt - 1)).2] : List Value).toArray) (results_cell1 rfl _ _ w.heap.size [.int .i64 (i.rf (i.pt - 1)).1, .int .i64 (i.rf (i.pt - 1)).2] _ rfl (blk_rng X2.out) Tryz.underlying48 rfl refInfoS) rfl ⟨rfl, B2.out⟩
theorem ipages_no (w : World) (b : Nat) (i : Ins) (h : InsAt w b i) (hd : i.dn = false) : Calls Tryz.prog 18 #[.pointer (some ⟨b, 0, none⟩)] w fun ev w' => ev = .returned (.slice none 0 0) ∧ Below w.heap.size w w' := by
 have y0 := h.cDn
 rw [hd] at y0
 clear h hd
 go_enter Tryz.func18, Tryz.ntmps18
 go_wp2
 go_ret
 exact ⟨rfl, Below.refl _ _⟩
theorem ipages_any (w : World) (b : Nat) (i : Ins) (h : InsAt w b i) (hd : i.dn = true) (h4 : i.tk ≤ 4) : Calls Tryz.prog 18 #[.pointer (some ⟨b, 0, none⟩)] w fun ev w' => ∃ v, ev = .returned v ∧ OwnS lInt w.heap.size w' v i.pgsL ∧ Below w.heap.size w w' := by
 have I0 := Lib.hid h
 have H4 := Lib.hid h4
 have y0 := I0.out.cDn
 rw [hd] at y0
 have hx : (0 : Int) ≤ (i.tk : Int) ∧ (i.tk : Int) ≤ 4 := by omega
 clear h hd h4
 go_enter Tryz.func18, Tryz.ntmps18
 go_wp2_with fail
 clear y0
 have ID := Lib.hid (I0.out.step (Below.refl _ _).drew)
 have BD := Lib.hid ((Below.refl w.heap.size w).drew)
 refine anyH_region (fun w' => InsAt w' b i) (by kernel_rfl) ?_
 generalize w.drew = wd at *
 refine tkH (i := 0) (oi := ⟨some 12, _, _, _, _, _⟩) (v := ?va0) rfl (Or.inl ⟨by rfl, ?hya0⟩) ID.out ?resta0
 case hya0 => (intro w hSw; have q0 := hSw.cTk; go_simp; try (with_reducible rfl))
 simp only [Act.put, sT, sZ, sS]
 refine tkH (i := 1) (oi := ⟨some 13, _, _, _, _, _⟩) (v := ?va1) rfl (Or.inl ⟨by rfl, ?hya1⟩) ID.out ?resta1
 case hya1 => (intro w hSw; have q0 := hSw.cTk; go_simp; try (with_reducible rfl))
 simp only [Act.put, sT, sZ, sS]
 refine tkH (i := 2) (oi := ⟨some 14, _, _, _, _, _⟩) (v := ?va2) rfl (Or.inl ⟨by rfl, ?hya2⟩) ID.out ?resta2
 case hya2 => (intro w hSw; have q0 := hSw.cTk; go_simp; try (with_reducible rfl))
 simp only [Act.put, sT, sZ, sS]
 refine tkH (i := 3) (oi := ⟨some 15, _, _, _, _, _⟩) (v := ?va3) rfl (Or.inl ⟨by rfl, ?hya3⟩) ID.out ?resta3
 case hya3 => (intro w hSw; have q0 := hSw.cTk; go_simp; try (with_reducible rfl))
 simp only [Act.put, sT, sZ, sS]
 refine tkH (i := 4) (oi := ⟨some 16, _, _, _, _, _⟩) (v := ?va4) rfl (Or.inl ⟨by rfl, ?hya4⟩) ID.out ?resta4
 case hya4 => (intro w hSw; have q0 := hSw.cTk; go_simp; try (with_reducible rfl))
 simp only [Act.put, sT, sZ, sS]
 refine tkH (i := 5) (oi := ⟨some 17, _, _, _, _, _⟩) (v := ?va5) rfl (Or.inl ⟨by rfl, ?hya5⟩) ID.out ?resta5
 case hya5 => (intro w hSw; have q0 := hSw.cTk; go_simp; try (with_reducible rfl))
 simp only [Act.put, sT, sZ, sS]
 refine tkH (i := 6) (oi := ⟨some 18, _, _, _, _, _⟩) (v := ?va6) rfl (Or.inl ⟨by rfl, ?hya6⟩) ID.out ?resta6
 case hya6 => (intro w hSw; have q0 := hSw.cTk; go_simp; try (with_reducible rfl))
 simp only [Act.put, sT, sZ, sS]
 refine tkH (i := 7) (oi := ⟨some 19, _, _, _, _, _⟩) (v := ?va7) rfl (Or.inl ⟨by rfl, ?hya7⟩) ID.out ?resta7
 case hya7 => (intro w hSw; have q0 := hSw.cTk; go_simp; try (with_reducible rfl))
 simp only [Act.put, sT, sZ, sS]
 refine anyH_one (i := 8) (o := ⟨some 20, _, _, _, _, _⟩) (by kernel_rfl) rfl (fun K hK => ?_)
 rw [if_pos (by rfl)]
 go_simp
 refine (clone_ints _ i.pgsL _ (show SV lInt _ (.slice (some ⟨b, 6, none⟩) i.tk 4) i.pgsL from ID.out.pgs H4.out) (by simp [Ins.pgsL]; have := H4.out; omega)).mono ?_
 rintro e2 w2 ⟨pv, rfl, ho, hs⟩
 have O2 := Lib.hid (ho.mono (b' := w.heap.size) BD.out.size)
 have I2 := Lib.hid (ID.out.step hs)
 have B2 := Lib.hid (BD.out.trans (hs.mono BD.out.size))
 clear ho hs
 refine hK.out _ _ I2.out ?_
 clear hK K
 try simp only [Act.put, sT, sZ, sS]
 refine anyH_one (i := 9) (o := ⟨some 2, _, _, _, _, _⟩) (by kernel_rfl) rfl (fun K hK => ?_)
 rw [if_pos (by rfl)]
 go_simp
 refine hK.out _ _ I2.out ?_
 clear hK K
 try simp only [Act.put, sT, sZ, sS]
 refine wpAnyH_done (by kernel_rfl) ?_ _
 go_wp2
 go_ret
 exact ⟨_, rfl, O2.out, B2.out⟩
theorem nHead_any (w : World) (m : MB) (S : Nat → Prop) (l : LimN) (k : Int) (ps : List Pt) (L : List Pg) (c : Ck) (p : Int) (h : MemAt w m S l k ps L c) :
  Calls Tryz.prog 21 #[.pointer (some ⟨m.mb, 0, none⟩), .int .i64 p] w fun ev w' => ∃ v, ev = .returned (.tuple #[refV (headT L p).1 (headT L p).2, v]) ∧ ErrF w' v (codeT L p) ∧ MemAt w' m S l (inc k) ps L c ∧ Kept (MS m S) w w' := by
 have b0 := alloc_below0 w (.cells #[.int .i64 0, .int .i64 0] 48)
 have M0 := Lib.hid (h.low b0)
 have X0 := Lib.hid (blk_new w (.cells #[.int .i64 0, .int .i64 0] 48))
 have B0 := Lib.hid b0
 have LTW := Lib.hid (show ∀ j, MS m S j → j < w.heap.size from h.lt)
 clear h b0
 unfold refV
 go_enter Tryz.func21, Tryz.ntmps21
 go_wp2_with fail
 refine (access_inc _ m S l k ps L c M0.out).mono ?_
 rintro ev w1 ⟨rfl, hM, hk⟩
 have M1 := Lib.hid hM
 have K1 := Lib.hid ((Kept.of_below B0.out).trans (hk.wide fun _ _ h => CM.ms (S := S) _ h))
 have X1 := Lib.hid ((hk.block _ (Array.getElem?_eq_some_iff.1 X0.out).1 (M0.out.offC X0.out (by decide) (by decide))).trans X0.out)
 have x1 := hM.cT
 have L1 := Lib.hid (show w.heap.size + 1 ≤ w1.heap.size by have := hk.size; simp at this; omega)
 clear hM hk
 go_wp2_with fail
 refine (head_any _ m.ab m.pb l.p L p M1.out.tb).mono ?_
 rintro ev w2 ⟨rfl, hs⟩
 have M2 := Lib.hid (M1.out.low hs)
 have K2 := Lib.hid (K1.out.trans (Kept.of_below hs))
 have X2 := Lib.hid (blk_step X1.out hs)
 have L2 := Lib.hid (show w.heap.size + 1 ≤ w2.heap.size by have := hs.size; have := L1.out; omega)
 clear hs x1
 unfold refV
 have b3 := alloc_below0 w2 (.cells #[.int .i64 (headT L p).1, .int .i64 (headT L p).2] 48)
 have M3 := Lib.hid (M2.out.low b3)
 have K3 := Lib.hid (K2.out.trans (Kept.of_below b3))
 have X3 := Lib.hid (blk_step X2.out b3)
 have R3 := Lib.hid (RfB.mk (blk_new w2 (.cells #[.int .i64 (headT L p).1, .int .i64 (headT L p).2] 48)))
 clear b3
 go_wp2_with fail
 generalize hwa : w2.alloc (.cells #[.int .i64 (headT L p).1, .int .i64 (headT L p).2] 48) = wa at *
 clear hwa
 have MD := Lib.hid (M3.out.low (Below.refl _ _).drew)
 have KD := Lib.hid K3.out.drew
 have XD := Lib.hid (show wa.drew.heap[w.heap.size]? = some (.cells #[.int .i64 0, .int .i64 0] 48 (0, 0)) from X3.out)
 have RD := Lib.hid (R3.out.step (Below.refl _ _).drew)
 refine anyH_region (fun w' => RfB w' w2.heap.size (headT L p).1 (headT L p).2) (by kernel_rfl) ?_
 generalize wa.drew = wd at *
 refine tkH (i := 0) (oi := ⟨some 25, _, _, _, _, _⟩) (v := ?va0) rfl (Or.inl ⟨by rfl, ?hya0⟩) RD.out ?resta0
 case hya0 => (intro w hSw; have q0 := hSw.c0; have q1 := hSw.c1; go_simp; try (with_reducible rfl))
 simp only [Act.put, sT, sZ, sS]
 refine tkH (i := 1) (oi := ⟨some 26, _, _, _, _, _⟩) (v := ?va1) rfl (Or.inl ⟨by rfl, ?hya1⟩) RD.out ?resta1
 case hya1 => (intro w hSw; have q0 := hSw.c0; have q1 := hSw.c1; go_simp; try (with_reducible rfl))
 simp only [Act.put, sT, sZ, sS]
 refine tkH (i := 2) (oi := ⟨some 27, _, _, _, _, _⟩) (v := ?va2) rfl (Or.inl ⟨by rfl, ?hya2⟩) RD.out ?resta2
 case hya2 => (intro w hSw; have q0 := hSw.c0; have q1 := hSw.c1; go_simp; try (with_reducible rfl))
 simp only [Act.put, sT, sZ, sS]
 refine anyH_one (i := 3) (o := ⟨some 28, _, _, _, _, _⟩) (by kernel_rfl) rfl (fun K hK => ?_)
 rw [if_pos (by rfl)]
 go_simp
 refine (fAt_any ⟨#[116, 97, 98, 108, 101]⟩ p (codeT L p) _).mono ?_
 rintro e3 w3 ⟨v, rfl, he, hs⟩
 have E4 := Lib.hid he
 have M4 := Lib.hid (MD.out.low hs)
 have K4 := Lib.hid (KD.out.trans (Kept.of_below hs))
 have X4 := Lib.hid (blk_step XD.out hs)
 have R4 := Lib.hid (RD.out.step hs)
 clear hs he
 refine hK.out _ _ R4.out ?_
 clear hK K
 try simp only [Act.put, sT, sZ, sS]
 refine anyH_one (i := 4) (o := ⟨none, _, _, _, _, _⟩) (by kernel_rfl) rfl (fun K hK => ?_)
 rw [if_pos (by rfl)]
 refine wp_store_to 48 (.tmp 4) (.tmp 25) rfl w.heap.size 0 [.int .i64 (headT L p).1, .int .i64 (headT L p).2] rfl rfl ?_ refInfoS (by kernel_rfl) ?_
 ·exact blk_there X4.out 2 (Nat.le_refl _)
 intro W5 hW5
 have X5 := Lib.hid (show W5.heap[w.heap.size]? = some (.cells ([.int .i64 (headT L p).1, .int .i64 (headT L p).2] : List Value).toArray 48 (0, 0)) by rw [hW5]; exact list_laid [.int .i64 (headT L p).1, .int .i64 (headT L p).2] X4.out rfl)
 have KB := Lib.hid (show Kept (fun j => j = w.heap.size) w3 W5 by rw [hW5]; exact Kept.setCells _ _ _ (Kept.refl _ _))
 have M5 := Lib.hid (M4.out.keep KB.out (fun j hj e => by have := LTW.out j hj; omega))
 have E5 := Lib.hid (E4.out.keepF KB.out X4.out (by decide))
 have R5 := Lib.hid (R4.out.keep KB.out (show ¬ w2.heap.size = w.heap.size by have := L2.out; omega))
 have K5 := Lib.hid (K4.out.after KB.out (fun j (e : j = w.heap.size) => .inr (by omega)))
 clear hW5
 refine hK.out _ _ R5.out ?_
 clear hK K
 try simp only [Act.put]
 refine anyH_one (i := 5) (o := ⟨some 5, _, _, _, _, _⟩) (by kernel_rfl) rfl (fun K hK => ?_)
 rw [if_pos (by rfl)]
 go_simp
 refine hK.out _ _ R5.out ?_
 clear hK K
 try simp only [Act.put, sT, sZ, sS]
 refine wpAnyH_done (by kernel_rfl) ?_ _
 go_wp2
 refine bodyPost_ret (v := .tuple #[.agg ([.int .i64 (headT L p).1, .int .i64 (headT L p).2] : List Value).toArray, v]) (results_cellT rfl _ _ w.heap.size _ _ _ rfl rfl (blk_rng X5.out) Tryz.underlying48 rfl refInfoS) rfl ?_
 exact ⟨v, rfl, E5.out, M5.out, K5.out⟩
end Go.Proofs.YtejmdmaebkdjoaaGreatDoor
