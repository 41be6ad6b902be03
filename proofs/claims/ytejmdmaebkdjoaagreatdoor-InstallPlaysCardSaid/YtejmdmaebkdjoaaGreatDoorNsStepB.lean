/- Package install's Step, by contract: linking, swapping, undoing. -/
import Derived.Test.YtejmdmaebkdjoaaGreatDoorNsStepA
import Derived.Test.YtejmdmaebkdjoaaGreatDoorNsPath
namespace Go.Proofs.YtejmdmaebkdjoaaGreatDoor
set_option linter.unusedVariables false
set_option linter.unusedSimpArgs false
set_option maxRecDepth 100000
set_option maxHeartbeats 4000000
open Go.RowKit
theorem iStep4 (w : World) (b : Nat) (i : Ins) (m : MB) (S : Nat → Prop) (l : LimN) (k : Int) (ps : List Pt) (L : List Pg) (c : Ck) (hi : InsAt w b i) (h : MemAt w m S l k ps L c) (hb : ¬ MS m S b) (hf : FnOk i.fn) (he : ErV i.er) (hs : i.st = 4) (h5 : i.sw < 4) : Calls Tryz.prog 11 #[.pointer (some ⟨b, 0, none⟩), .pointer (some ⟨m.mb, 0, none⟩)] w (StepP w b m S l k ps (swapL L (i.pg i.sw) (0, 0) (i.rf i.sw)) c NoX fun w' j => (swapB L (i.pg i.sw) (0, 0) = true ∧ j = swapI i) ∨ (swapB L (i.pg i.sw) (0, 0) = false ∧ ∃ v, ErrF w' v (codeT L (i.pg i.sw)) ∧ j = undoI i v)) := by
 have I0 := Lib.hid hi
 have M0 := Lib.hid h
 have HB := Lib.hid hb
 have FE := Lib.hid (show FnOk i.fn ∧ ErV i.er from ⟨hf, he⟩)
 have x5 := hi.cSt
 have hov : ((i.st : Int) == 0) = false := by rw [hs]; rfl
 have ho := fun w' h => nOver_any w' b i h
 rw [hov] at ho
 have HS := Lib.hid hs
 rw [hs] at x5
 have H5 := Lib.hid h5
 have HBZ := Lib.hid hb
 have hx : (0 : Int) ≤ (i.sw : Int) ∧ (i.sw : Int) < 4 := by omega
 clear h5
 clear hi h hb hf he hs hov
 go_enter Tryz.func11, Tryz.ntmps11
 go_wp2_with fail
 refine (ho _ I0.out).mono ?_
 rintro ev w1 ⟨rfl, rfl⟩
 go_wp2_with fail
 have fc := fun w' h1 h2 => iSwap_any w' b i m S l k ps L c (i.pg i.sw) 0 0 h1 h2 HB.out (show i.sw < 5 by have := H5.out; omega)
 unfold refV at fc
 have ID := Lib.hid (I0.out.step (Below.refl _ _).drew)
 have MD := Lib.hid (M0.out.low (Below.refl _ _).drew)
 have KD := Lib.hid ((Kept.refl (US m S b) w).drew)
 refine AnyBut.region (fun w' => InsAt w' b i) 12 (by kernel_rfl) ?_
 generalize w.drew = wd at *
 refine AnyBut.takeP [] (i := 0) (oi := ⟨some 33, _, _, _, _, _⟩) (v := ?va0) rfl (by kernel_rfl) (by kernel_rfl) (by kernel_rfl) (by kernel_rfl) (by kernel_rfl) (fun _ _ _ h => h) (Or.inl ⟨by rfl, ?hya0⟩) ID.out ?resta0
 case hya0 => (intro w hSw; have q0 := hSw.cSw; have q1 := hSw.cPg H5.out; go_simp; try (with_reducible rfl))
 simp only [Act.put, sT, sZ, sS]
 refine AnyBut.takeP [] (i := 1) (oi := ⟨some 34, _, _, _, _, _⟩) (v := ?va1) rfl (by kernel_rfl) (by kernel_rfl) (by kernel_rfl) (by kernel_rfl) (by kernel_rfl) (fun _ _ _ h => h) (Or.inl ⟨by rfl, ?hya1⟩) ID.out ?resta1
 case hya1 => (intro w hSw; have q0 := hSw.cSw; have q1 := hSw.cPg H5.out; go_simp; try (with_reducible rfl))
 simp only [Act.put, sT, sZ, sS]
 refine AnyBut.takeP [10, 9, 8, 7] (i := 2) (oi := ⟨some 35, _, _, _, _, _⟩) (v := ?va2) rfl (by kernel_rfl) (by kernel_rfl) (by kernel_rfl) (by kernel_rfl) (by kernel_rfl) (fun _ _ _ h => h) (Or.inl ⟨by rfl, ?hya2⟩) ID.out ?resta2
 case hya2 => (intro w hSw; have q0 := hSw.cSw; have q1 := hSw.cPg H5.out; go_simp; try (with_reducible rfl))
 simp only [Act.put, sT, sZ, sS]
 refine AnyBut.takeP [10, 9, 6, 5, 4] (i := 3) (oi := ⟨some 36, _, _, _, _, _⟩) (v := ?va3) rfl (by kernel_rfl) (by kernel_rfl) (by kernel_rfl) (by kernel_rfl) (by kernel_rfl) (fun _ _ _ h => h) (Or.inl ⟨by rfl, ?hya3⟩) ID.out ?resta3
 case hya3 => (intro w hSw; have q0 := hSw.cSw; have q1 := hSw.cPg H5.out; go_simp; try (with_reducible rfl))
 simp only [Act.put, sT, sZ, sS]
 refine AnyBut.takeP [10, 9, 6, 5] (i := 4) (oi := ⟨some 37, _, _, _, _, _⟩) (v := ?va4) rfl (by kernel_rfl) (by kernel_rfl) (by kernel_rfl) (by kernel_rfl) (by kernel_rfl) (fun _ _ _ h => h) (Or.inl ⟨by rfl, ?hya4⟩) ID.out ?resta4
 case hya4 => (intro w hSw; have q0 := hSw.cSw; have q1 := hSw.cPg H5.out; go_simp; try (with_reducible rfl))
 simp only [Act.put, sT, sZ, sS]
 refine AnyBut.takeP [10, 9, 6] (i := 5) (oi := ⟨some 38, _, _, _, _, _⟩) (v := ?va5) rfl (by kernel_rfl) (by kernel_rfl) (by kernel_rfl) (by kernel_rfl) (by kernel_rfl) (fun _ _ _ h => h) (Or.inl ⟨by rfl, ?hya5⟩) ID.out ?resta5
 case hya5 => (intro w hSw; have q0 := hSw.cSw; have q1 := hSw.cPg H5.out; go_simp; try (with_reducible rfl))
 simp only [Act.put, sT, sZ, sS]
 refine AnyBut.takeP [10, 9] (i := 6) (oi := ⟨some 39, _, _, _, _, _⟩) (v := ?va6) rfl (by kernel_rfl) (by kernel_rfl) (by kernel_rfl) (by kernel_rfl) (by kernel_rfl) (fun _ _ _ h => h) (Or.inl ⟨by rfl, ?hya6⟩) ID.out ?resta6
 case hya6 => (intro w hSw; have q0 := hSw.cSw; have q1 := hSw.cPg H5.out; go_simp; try (with_reducible rfl))
 simp only [Act.put, sT, sZ, sS]
 refine AnyBut.takeP [10, 9, 8] (i := 7) (oi := ⟨some 40, _, _, _, _, _⟩) (v := ?va7) rfl (by kernel_rfl) (by kernel_rfl) (by kernel_rfl) (by kernel_rfl) (by kernel_rfl) (fun _ _ _ h => h) (Or.inl ⟨by rfl, ?hya7⟩) ID.out ?resta7
 case hya7 => (intro w hSw; have q0 := hSw.cSw; have q1 := hSw.cPg H5.out; go_simp; try (with_reducible rfl))
 simp only [Act.put, sT, sZ, sS]
 refine AnyBut.takeP [10, 9] (i := 8) (oi := ⟨some 41, _, _, _, _, _⟩) (v := ?va8) rfl (by kernel_rfl) (by kernel_rfl) (by kernel_rfl) (by kernel_rfl) (by kernel_rfl) (fun _ _ _ h => h) (Or.inl ⟨by rfl, ?hya8⟩) ID.out ?resta8
 case hya8 => (intro w hSw; have q0 := hSw.cSw; have q1 := hSw.cPg H5.out; go_simp; try (with_reducible rfl))
 simp only [Act.put, sT, sZ, sS]
 refine AnyBut.takeP [10] (i := 9) (oi := ⟨some 42, _, _, _, _, _⟩) (v := ?va9) rfl (by kernel_rfl) (by kernel_rfl) (by kernel_rfl) (by kernel_rfl) (by kernel_rfl) (fun _ _ _ h => h) (Or.inl ⟨by rfl, ?hya9⟩) ID.out ?resta9
 case hya9 => (intro w hSw; have q0 := hSw.cSw; have q1 := hSw.cPg H5.out; go_simp; try (with_reducible rfl))
 simp only [Act.put, sT, sZ, sS]
 refine AnyBut.takeP [] (i := 10) (oi := ⟨some 43, _, _, _, _, _⟩) (v := ?va10) rfl (by kernel_rfl) (by kernel_rfl) (by kernel_rfl) (by kernel_rfl) (by kernel_rfl) (fun _ _ _ h => h) (Or.inl ⟨by rfl, ?hya10⟩) ID.out ?resta10
 case hya10 => (intro w hSw; have q0 := hSw.cSw; have q1 := hSw.cPg H5.out; go_simp; try (with_reducible rfl))
 simp only [Act.put, sT, sZ, sS]
 refine AnyBut.takeP [] (i := 11) (oi := ⟨some 44, _, _, _, _, _⟩) (v := ?va11) rfl (by kernel_rfl) (by kernel_rfl) (by kernel_rfl) (by kernel_rfl) (by kernel_rfl) (fun _ _ _ h => h) (Or.inl ⟨by rfl, ?hya11⟩) ID.out ?resta11
 case hya11 => (intro w hSw; have q0 := hSw.cSw; have q1 := hSw.cPg H5.out; go_simp; try (with_reducible rfl))
 simp only [Act.put, sT, sZ, sS]
 refine AnyBut.one (i := 12) (o := ⟨some 45, _, _, _, _, _⟩) (by kernel_rfl) rfl (fun K hK => ?_)
 rw [if_pos (by rfl)]
 go_simp
 refine (fc _ ID.out MD.out).mono ?_
 rintro e2 w2 ⟨rfl, hM, hk, hcase⟩
 have M2 := Lib.hid hM
 have K2 := Lib.hid (KD.out.trans hk)
 have HX := Lib.hid hcase
 clear hM hk hcase fc
 refine hK.out _ _ (fun h => absurd rfl h) ?_
 clear hK K
 try simp only [Act.put, sT, sZ, sS]
 refine AnyBut.done (by kernel_rfl) ?_ _
 clear x5
 rcases HX.out with ⟨h0, hI⟩ | ⟨h0, v, hE, hI⟩
 ·have I2 := Lib.hid hI
  have HC := Lib.hid h0
  clear hI h0 HX
  have JK := Lib.hid (show (swapI i).st ≤ 8 ∧ FnOk (swapI i).fn ∧ ErV (swapI i).er from ⟨(by show i.st ≤ 8; have := HS.out; omega), FE.out.1, FE.out.2⟩)
  go_wp2_with fail
  refine (settle_any _ b _ I2.out JK.out.1 JK.out.2.1 JK.out.2.2).mono ?_
  rintro ev wz ⟨rfl, hI, hk⟩
  have IZ := Lib.hid hI
  have MZ := Lib.hid (M2.out.off1 hk HBZ.out)
  have KZ := Lib.hid (K2.out.trans (US.one (m := m) (S := S) hk))
  have KO := Lib.hid hk
  clear hI hk
  go_wp2_with fail
  refine (nOver_any _ b _ IZ.out).mono ?_
  rintro ev wy ⟨rfl, rfl⟩
  go_wp2
  go_ret
  exact ⟨S, _, rfl, IZ.out, MZ.out, US.x KZ.out, fun _ h => .inl h, .inl ⟨HC.out, rfl⟩⟩
 ·have I2 := Lib.hid hI
  have HC := Lib.hid h0
  have E2 := Lib.hid hE
  clear hI h0 hE HX
  have JK := Lib.hid (undo_ok i v E2.out.erv)
  go_wp2_with fail
  refine (settle_any _ b _ I2.out JK.out.1 JK.out.2.1 JK.out.2.2).mono ?_
  rintro ev wz ⟨rfl, hI, hk⟩
  have IZ := Lib.hid hI
  have MZ := Lib.hid (M2.out.off1 hk HBZ.out)
  have KZ := Lib.hid (K2.out.trans (US.one (m := m) (S := S) hk))
  have KO := Lib.hid hk
  clear hI hk
  go_wp2_with fail
  refine (nOver_any _ b _ IZ.out).mono ?_
  rintro ev wy ⟨rfl, rfl⟩
  have EZ := Lib.hid (E2.out.kept KO.out I2.out.fault)
  go_wp2
  go_ret
  exact ⟨S, _, rfl, IZ.out, MZ.out, US.x KZ.out, fun _ h => .inl h, .inr ⟨HC.out, v, EZ.out, rfl⟩⟩
theorem iStep6 (w : World) (b : Nat) (i : Ins) (m : MB) (S : Nat → Prop) (l : LimN) (k : Int) (ps : List Pt) (L : List Pg) (c : Ck) (hi : InsAt w b i) (h : MemAt w m S l k ps L c) (hb : ¬ MS m S b) (hf : FnOk i.fn) (he : ErV i.er) (hs : i.st = 6) (h5 : i.sw < 5) : Calls Tryz.prog 11 #[.pointer (some ⟨b, 0, none⟩), .pointer (some ⟨m.mb, 0, none⟩)] w (StepP w b m S l k ps (swapL L i.page (i.os, i.og) (i.rf i.sw)) c NoX fun w' j => (swapB L i.page (i.os, i.og) = true ∧ j = succI (swapI i)) ∨ (swapB L i.page (i.os, i.og) = false ∧ ∃ v, ErrF w' v (codeT L i.page) ∧ j = undoI i v)) := by
 have I0 := Lib.hid hi
 have M0 := Lib.hid h
 have HB := Lib.hid hb
 have FE := Lib.hid (show FnOk i.fn ∧ ErV i.er from ⟨hf, he⟩)
 have x5 := hi.cSt
 have hov : ((i.st : Int) == 0) = false := by rw [hs]; rfl
 have ho := fun w' h => nOver_any w' b i h
 rw [hov] at ho
 have HS := Lib.hid hs
 rw [hs] at x5
 have H5 := Lib.hid h5
 have HBZ := Lib.hid hb
 clear h5
 clear hi h hb hf he hs hov
 go_enter Tryz.func11, Tryz.ntmps11
 go_wp2_with fail
 refine (ho _ I0.out).mono ?_
 rintro ev w1 ⟨rfl, rfl⟩
 go_wp2_with fail
 have fc := fun w' h1 h2 => iSwap_any w' b i m S l k ps L c i.page i.os i.og h1 h2 HB.out H5.out
 unfold refV at fc
 have ID := Lib.hid (I0.out.step (Below.refl _ _).drew)
 have MD := Lib.hid (M0.out.low (Below.refl _ _).drew)
 have KD := Lib.hid ((Kept.refl (US m S b) w).drew)
 refine AnyBut.region (fun w' => InsAt w' b i) 12 (by kernel_rfl) ?_
 generalize w.drew = wd at *
 refine AnyBut.takeP [] (i := 0) (oi := ⟨some 48, _, _, _, _, _⟩) (v := ?va0) rfl (by kernel_rfl) (by kernel_rfl) (by kernel_rfl) (by kernel_rfl) (by kernel_rfl) (fun _ _ _ h => h) (Or.inl ⟨by rfl, ?hya0⟩) ID.out ?resta0
 case hya0 => (intro w hSw; have q0 := hSw.cPage; have q1 := hSw.cOs; have q2 := hSw.cOg; go_simp; try (with_reducible rfl))
 simp only [Act.put, sT, sZ, sS]
 refine AnyBut.takeP [] (i := 1) (oi := ⟨some 49, _, _, _, _, _⟩) (v := ?va1) rfl (by kernel_rfl) (by kernel_rfl) (by kernel_rfl) (by kernel_rfl) (by kernel_rfl) (fun _ _ _ h => h) (Or.inl ⟨by rfl, ?hya1⟩) ID.out ?resta1
 case hya1 => (intro w hSw; have q0 := hSw.cPage; have q1 := hSw.cOs; have q2 := hSw.cOg; go_simp; try (with_reducible rfl))
 simp only [Act.put, sT, sZ, sS]
 refine AnyBut.takeP [6, 5, 4, 3] (i := 2) (oi := ⟨some 50, _, _, _, _, _⟩) (v := ?va2) rfl (by kernel_rfl) (by kernel_rfl) (by kernel_rfl) (by kernel_rfl) (by kernel_rfl) (fun _ _ _ h => h) (Or.inl ⟨by rfl, ?hya2⟩) ID.out ?resta2
 case hya2 => (intro w hSw; have q0 := hSw.cPage; have q1 := hSw.cOs; have q2 := hSw.cOg; go_simp; try (with_reducible rfl))
 simp only [Act.put, sT, sZ, sS]
 refine AnyBut.takeP [6, 5, 4] (i := 3) (oi := ⟨some 51, _, _, _, _, _⟩) (v := ?va3) rfl (by kernel_rfl) (by kernel_rfl) (by kernel_rfl) (by kernel_rfl) (by kernel_rfl) (fun _ _ _ h => h) (Or.inl ⟨by rfl, ?hya3⟩) ID.out ?resta3
 case hya3 => (intro w hSw; have q0 := hSw.cPage; have q1 := hSw.cOs; have q2 := hSw.cOg; go_simp; try (with_reducible rfl))
 simp only [Act.put, sT, sZ, sS]
 refine AnyBut.takeP [6, 5] (i := 4) (oi := ⟨some 52, _, _, _, _, _⟩) (v := ?va4) rfl (by kernel_rfl) (by kernel_rfl) (by kernel_rfl) (by kernel_rfl) (by kernel_rfl) (fun _ _ _ h => h) (Or.inl ⟨by rfl, ?hya4⟩) ID.out ?resta4
 case hya4 => (intro w hSw; have q0 := hSw.cPage; have q1 := hSw.cOs; have q2 := hSw.cOg; go_simp; try (with_reducible rfl))
 simp only [Act.put, sT, sZ, sS]
 refine AnyBut.takeP [6] (i := 5) (oi := ⟨some 53, _, _, _, _, _⟩) (v := ?va5) rfl (by kernel_rfl) (by kernel_rfl) (by kernel_rfl) (by kernel_rfl) (by kernel_rfl) (fun _ _ _ h => h) (Or.inl ⟨by rfl, ?hya5⟩) ID.out ?resta5
 case hya5 => (intro w hSw; have q0 := hSw.cPage; have q1 := hSw.cOs; have q2 := hSw.cOg; go_simp; try (with_reducible rfl))
 simp only [Act.put, sT, sZ, sS]
 refine AnyBut.takeP [] (i := 6) (oi := ⟨some 54, _, _, _, _, _⟩) (v := ?va6) rfl (by kernel_rfl) (by kernel_rfl) (by kernel_rfl) (by kernel_rfl) (by kernel_rfl) (fun _ _ _ h => h) (Or.inl ⟨by rfl, ?hya6⟩) ID.out ?resta6
 case hya6 => (intro w hSw; have q0 := hSw.cPage; have q1 := hSw.cOs; have q2 := hSw.cOg; go_simp; try (with_reducible rfl))
 simp only [Act.put, sT, sZ, sS]
 refine AnyBut.takeP [11, 10, 9, 8] (i := 7) (oi := ⟨some 55, _, _, _, _, _⟩) (v := ?va7) rfl (by kernel_rfl) (by kernel_rfl) (by kernel_rfl) (by kernel_rfl) (by kernel_rfl) (fun _ _ _ h => h) (Or.inl ⟨by rfl, ?hya7⟩) ID.out ?resta7
 case hya7 => (intro w hSw; have q0 := hSw.cPage; have q1 := hSw.cOs; have q2 := hSw.cOg; go_simp; try (with_reducible rfl))
 simp only [Act.put, sT, sZ, sS]
 refine AnyBut.takeP [11, 10, 9] (i := 8) (oi := ⟨some 56, _, _, _, _, _⟩) (v := ?va8) rfl (by kernel_rfl) (by kernel_rfl) (by kernel_rfl) (by kernel_rfl) (by kernel_rfl) (fun _ _ _ h => h) (Or.inl ⟨by rfl, ?hya8⟩) ID.out ?resta8
 case hya8 => (intro w hSw; have q0 := hSw.cPage; have q1 := hSw.cOs; have q2 := hSw.cOg; go_simp; try (with_reducible rfl))
 simp only [Act.put, sT, sZ, sS]
 refine AnyBut.takeP [11, 10] (i := 9) (oi := ⟨some 57, _, _, _, _, _⟩) (v := ?va9) rfl (by kernel_rfl) (by kernel_rfl) (by kernel_rfl) (by kernel_rfl) (by kernel_rfl) (fun _ _ _ h => h) (Or.inl ⟨by rfl, ?hya9⟩) ID.out ?resta9
 case hya9 => (intro w hSw; have q0 := hSw.cPage; have q1 := hSw.cOs; have q2 := hSw.cOg; go_simp; try (with_reducible rfl))
 simp only [Act.put, sT, sZ, sS]
 refine AnyBut.takeP [11] (i := 10) (oi := ⟨some 58, _, _, _, _, _⟩) (v := ?va10) rfl (by kernel_rfl) (by kernel_rfl) (by kernel_rfl) (by kernel_rfl) (by kernel_rfl) (fun _ _ _ h => h) (Or.inl ⟨by rfl, ?hya10⟩) ID.out ?resta10
 case hya10 => (intro w hSw; have q0 := hSw.cPage; have q1 := hSw.cOs; have q2 := hSw.cOg; go_simp; try (with_reducible rfl))
 simp only [Act.put, sT, sZ, sS]
 refine AnyBut.takeP [] (i := 11) (oi := ⟨some 59, _, _, _, _, _⟩) (v := ?va11) rfl (by kernel_rfl) (by kernel_rfl) (by kernel_rfl) (by kernel_rfl) (by kernel_rfl) (fun _ _ _ h => h) (Or.inl ⟨by rfl, ?hya11⟩) ID.out ?resta11
 case hya11 => (intro w hSw; have q0 := hSw.cPage; have q1 := hSw.cOs; have q2 := hSw.cOg; go_simp; try (with_reducible rfl))
 simp only [Act.put, sT, sZ, sS]
 refine AnyBut.one (i := 12) (o := ⟨some 60, _, _, _, _, _⟩) (by kernel_rfl) rfl (fun K hK => ?_)
 rw [if_pos (by rfl)]
 go_simp
 refine (fc _ ID.out MD.out).mono ?_
 rintro e2 w2 ⟨rfl, hM, hk, hcase⟩
 have M2 := Lib.hid hM
 have K2 := Lib.hid (KD.out.trans hk)
 have HX := Lib.hid hcase
 clear hM hk hcase fc
 refine hK.out _ _ (fun h => absurd rfl h) ?_
 clear hK K
 try simp only [Act.put, sT, sZ, sS]
 refine AnyBut.done (by kernel_rfl) ?_ _
 clear x5
 have M3 := Lib.hid M2.out
 rcases HX.out with ⟨h0, hI⟩ | ⟨h0, v, hE, hI⟩
 ·have I2 := Lib.hid hI
  have HC := Lib.hid h0
  rw [h0]
  clear hI h0 HX
  go_wp2_with fail
  refine (succ_any _ b (swapI i) I2.out).mono ?_
  rintro ev w3 ⟨rfl, hI, hk⟩
  have I3 := Lib.hid hI
  have M3 := Lib.hid (M2.out.off1 hk HB.out)
  have K3 := Lib.hid (K2.out.trans (US.one (m := m) (S := S) hk))
  clear hI hk
  have JK := Lib.hid (show (succI (swapI i)).st ≤ 8 ∧ FnOk (succI (swapI i)).fn ∧ ErV (succI (swapI i)).er from ⟨(by show 0 ≤ 8; decide), .inl rfl, .inl rfl⟩)
  go_wp2_with fail
  refine (settle_any _ b _ I3.out JK.out.1 JK.out.2.1 JK.out.2.2).mono ?_
  rintro ev wz ⟨rfl, hI, hk⟩
  have IZ := Lib.hid hI
  have MZ := Lib.hid (M3.out.off1 hk HBZ.out)
  have KZ := Lib.hid (K3.out.trans (US.one (m := m) (S := S) hk))
  have KO := Lib.hid hk
  clear hI hk
  go_wp2_with fail
  refine (nOver_any _ b _ IZ.out).mono ?_
  rintro ev wy ⟨rfl, rfl⟩
  go_wp2
  go_ret
  exact ⟨S, _, rfl, IZ.out, MZ.out, US.x KZ.out, fun _ h => .inl h, .inl ⟨HC.out, rfl⟩⟩
 ·have I2 := Lib.hid hI
  have HC := Lib.hid h0
  have E2 := Lib.hid hE
  rw [h0]
  clear hI h0 hE HX
  have JK := Lib.hid (undo_ok i v E2.out.erv)
  go_wp2_with fail
  refine (settle_any _ b _ I2.out JK.out.1 JK.out.2.1 JK.out.2.2).mono ?_
  rintro ev wz ⟨rfl, hI, hk⟩
  have IZ := Lib.hid hI
  have MZ := Lib.hid (M2.out.off1 hk HBZ.out)
  have KZ := Lib.hid (K2.out.trans (US.one (m := m) (S := S) hk))
  have KO := Lib.hid hk
  clear hI hk
  go_wp2_with fail
  refine (nOver_any _ b _ IZ.out).mono ?_
  rintro ev wy ⟨rfl, rfl⟩
  have EZ := Lib.hid (E2.out.kept KO.out I2.out.fault)
  go_wp2
  go_ret
  exact ⟨S, _, rfl, IZ.out, MZ.out, US.x KZ.out, fun _ h => .inl h, .inr ⟨HC.out, v, EZ.out, rfl⟩⟩
theorem iStep7 (w : World) (b : Nat) (i : Ins) (m : MB) (S : Nat → Prop) (l : LimN) (k : Int) (ps : List Pt) (L : List Pg) (c : Ck) (hi : InsAt w b i) (h : MemAt w m S l k ps L c) (hb : ¬ MS m S b) (hf : FnOk i.fn) (he : ErV i.er) (hs : i.st = 7) (h0 : 0 < i.pt) (h5 : i.pt ≤ 5) : Calls Tryz.prog 11 #[.pointer (some ⟨b, 0, none⟩), .pointer (some ⟨m.mb, 0, none⟩)] w (StepP w b m S l k (freeM l.s ps (i.rf (i.pt - 1)).1 (i.rf (i.pt - 1)).2) L c NoX fun _ j => j = { i with pt := i.pt - 1 }) := by
 have I0 := Lib.hid hi
 have M0 := Lib.hid h
 have HB := Lib.hid hb
 have FE := Lib.hid (show FnOk i.fn ∧ ErV i.er from ⟨hf, he⟩)
 have x5 := hi.cSt
 have hov : ((i.st : Int) == 0) = false := by rw [hs]; rfl
 have ho := fun w' h => nOver_any w' b i h
 rw [hov] at ho
 have HS := Lib.hid hs
 rw [hs] at x5
 have H5 := Lib.hid (show 0 < i.pt ∧ i.pt ≤ 5 from ⟨h0, h5⟩)
 have y1 := hi.cPt
 have y2 := hi.free 96
 have hw : IntKind.i64.wrap ((i.pt : Int) - 1) = ((i.pt - 1 : Nat) : Int) := by rw [Go.IntWalk.i64_in _ (by omega)]; omega
 have I1 := Lib.hid (hi.sPt (i.pt - 1))
 have Kc := Lib.hid ((Kept.refl (fun j => j = b) w).setCell 96 (.int .i64 ((i.pt - 1 : Nat) : Int)))
 have hx : (0 : Int) ≤ ((i.pt - 1 : Nat) : Int) ∧ ((i.pt - 1 : Nat) : Int) < 5 := by omega
 clear h0 h5
 clear hi h hb hf he hs hov
 go_enter Tryz.func11, Tryz.ntmps11
 go_wp2_with fail
 refine (ho _ I0.out).mono ?_
 rintro ev w1 ⟨rfl, rfl⟩
 have M1 := Lib.hid (M0.out.off1 Kc.out HB.out)
 have K1 := Lib.hid (US.one (m := m) (S := S) Kc.out)
 go_wp2_with fail
 clear x5 y1 y2 hw
 generalize hwa : w.setCell ⟨b, 96, none⟩ (.int .i64 ((i.pt - 1 : Nat) : Int)) = wa at *
 clear hwa
 have ID := Lib.hid (I1.out.step (Below.refl _ _).drew)
 have MD := Lib.hid (M1.out.low (Below.refl _ _).drew)
 have KD := Lib.hid K1.out.drew
 have fc := fun w' h => nFree_any w' m S l k ps L c (i.rf (i.pt - 1)).1 (i.rf (i.pt - 1)).2 h
 unfold refV at fc
 have hk5 : i.pt - 1 < 5 := by have := H5.out; omega
 refine AnyBut.region (fun w' => InsAt w' b { i with pt := i.pt - 1 }) 10 (by kernel_rfl) ?_
 generalize wa.drew = wd at *
 refine AnyBut.takeP [] (i := 0) (oi := ⟨some 72, _, _, _, _, _⟩) (v := ?va0) rfl (by kernel_rfl) (by kernel_rfl) (by kernel_rfl) (by kernel_rfl) (by kernel_rfl) (fun _ _ _ h => h) (Or.inl ⟨by rfl, ?hya0⟩) ID.out ?resta0
 case hya0 => (intro w hSw; have q0 := hSw.cPt; have q1 := hSw.cRf1 hk5; have q2 := hSw.cRf2 hk5; go_simp; try (with_reducible rfl))
 simp only [Act.put, sT, sZ, sS]
 refine AnyBut.takeP [9, 8, 7, 6] (i := 1) (oi := ⟨some 73, _, _, _, _, _⟩) (v := ?va1) rfl (by kernel_rfl) (by kernel_rfl) (by kernel_rfl) (by kernel_rfl) (by kernel_rfl) (fun _ _ _ h => h) (Or.inl ⟨by rfl, ?hya1⟩) ID.out ?resta1
 case hya1 => (intro w hSw; have q0 := hSw.cPt; have q1 := hSw.cRf1 hk5; have q2 := hSw.cRf2 hk5; go_simp; try (with_reducible rfl))
 simp only [Act.put, sT, sZ, sS]
 refine AnyBut.takeP [9, 8, 5, 4, 3] (i := 2) (oi := ⟨some 74, _, _, _, _, _⟩) (v := ?va2) rfl (by kernel_rfl) (by kernel_rfl) (by kernel_rfl) (by kernel_rfl) (by kernel_rfl) (fun _ _ _ h => h) (Or.inl ⟨by rfl, ?hya2⟩) ID.out ?resta2
 case hya2 => (intro w hSw; have q0 := hSw.cPt; have q1 := hSw.cRf1 hk5; have q2 := hSw.cRf2 hk5; go_simp; try (with_reducible rfl))
 simp only [Act.put, sT, sZ, sS]
 refine AnyBut.takeP [9, 8, 5, 4] (i := 3) (oi := ⟨some 75, _, _, _, _, _⟩) (v := ?va3) rfl (by kernel_rfl) (by kernel_rfl) (by kernel_rfl) (by kernel_rfl) (by kernel_rfl) (fun _ _ _ h => h) (Or.inl ⟨by rfl, ?hya3⟩) ID.out ?resta3
 case hya3 => (intro w hSw; have q0 := hSw.cPt; have q1 := hSw.cRf1 hk5; have q2 := hSw.cRf2 hk5; go_simp; try (with_reducible rfl))
 simp only [Act.put, sT, sZ, sS]
 refine AnyBut.takeP [9, 8, 5] (i := 4) (oi := ⟨some 76, _, _, _, _, _⟩) (v := ?va4) rfl (by kernel_rfl) (by kernel_rfl) (by kernel_rfl) (by kernel_rfl) (by kernel_rfl) (fun _ _ _ h => h) (Or.inl ⟨by rfl, ?hya4⟩) ID.out ?resta4
 case hya4 => (intro w hSw; have q0 := hSw.cPt; have q1 := hSw.cRf1 hk5; have q2 := hSw.cRf2 hk5; go_simp; try (with_reducible rfl))
 simp only [Act.put, sT, sZ, sS]
 refine AnyBut.takeP [9, 8] (i := 5) (oi := ⟨some 77, _, _, _, _, _⟩) (v := ?va5) rfl (by kernel_rfl) (by kernel_rfl) (by kernel_rfl) (by kernel_rfl) (by kernel_rfl) (fun _ _ _ h => h) (Or.inl ⟨by rfl, ?hya5⟩) ID.out ?resta5
 case hya5 => (intro w hSw; have q0 := hSw.cPt; have q1 := hSw.cRf1 hk5; have q2 := hSw.cRf2 hk5; go_simp; try (with_reducible rfl))
 simp only [Act.put, sT, sZ, sS]
 refine AnyBut.takeP [9, 8, 7] (i := 6) (oi := ⟨some 78, _, _, _, _, _⟩) (v := ?va6) rfl (by kernel_rfl) (by kernel_rfl) (by kernel_rfl) (by kernel_rfl) (by kernel_rfl) (fun _ _ _ h => h) (Or.inl ⟨by rfl, ?hya6⟩) ID.out ?resta6
 case hya6 => (intro w hSw; have q0 := hSw.cPt; have q1 := hSw.cRf1 hk5; have q2 := hSw.cRf2 hk5; go_simp; try (with_reducible rfl))
 simp only [Act.put, sT, sZ, sS]
 refine AnyBut.takeP [9, 8] (i := 7) (oi := ⟨some 79, _, _, _, _, _⟩) (v := ?va7) rfl (by kernel_rfl) (by kernel_rfl) (by kernel_rfl) (by kernel_rfl) (by kernel_rfl) (fun _ _ _ h => h) (Or.inl ⟨by rfl, ?hya7⟩) ID.out ?resta7
 case hya7 => (intro w hSw; have q0 := hSw.cPt; have q1 := hSw.cRf1 hk5; have q2 := hSw.cRf2 hk5; go_simp; try (with_reducible rfl))
 simp only [Act.put, sT, sZ, sS]
 refine AnyBut.takeP [9] (i := 8) (oi := ⟨some 80, _, _, _, _, _⟩) (v := ?va8) rfl (by kernel_rfl) (by kernel_rfl) (by kernel_rfl) (by kernel_rfl) (by kernel_rfl) (fun _ _ _ h => h) (Or.inl ⟨by rfl, ?hya8⟩) ID.out ?resta8
 case hya8 => (intro w hSw; have q0 := hSw.cPt; have q1 := hSw.cRf1 hk5; have q2 := hSw.cRf2 hk5; go_simp; try (with_reducible rfl))
 simp only [Act.put, sT, sZ, sS]
 refine AnyBut.takeP [] (i := 9) (oi := ⟨some 81, _, _, _, _, _⟩) (v := ?va9) rfl (by kernel_rfl) (by kernel_rfl) (by kernel_rfl) (by kernel_rfl) (by kernel_rfl) (fun _ _ _ h => h) (Or.inl ⟨by rfl, ?hya9⟩) ID.out ?resta9
 case hya9 => (intro w hSw; have q0 := hSw.cPt; have q1 := hSw.cRf1 hk5; have q2 := hSw.cRf2 hk5; go_simp; try (with_reducible rfl))
 simp only [Act.put, sT, sZ, sS]
 refine AnyBut.one (i := 10) (o := ⟨some 82, _, _, _, _, _⟩) (by kernel_rfl) rfl (fun K hK => ?_)
 rw [if_pos (by rfl)]
 go_simp
 refine (fc _ MD.out).mono ?_
 rintro e2 w2 ⟨⟨v, rfl⟩, S', hM, hk, hS⟩
 have M2 := Lib.hid hM
 have K2 := Lib.hid (KD.out.trans (US.ms (b := b) hk))
 have I2 := Lib.hid (ID.out.keep hk HB.out)
 have HBZ := Lib.hid (show ¬ MS m S' b from fun hm => (hS b hm).elim HB.out (fun h => by have := ID.out.lt; omega))
 have FSq := Lib.hid (show ∀ x, MS m S' x → MS m S x ∨ w.heap.size ≤ x from fun x hx => (hS x hx).imp id (fun h => by have := KD.out.size; omega))
 clear hM hk hS fc
 refine hK.out _ _ (fun h => absurd rfl h) ?_
 clear hK K
 try simp only [Act.put, sT, sZ, sS]
 refine AnyBut.done (by kernel_rfl) ?_ _
 have JK := Lib.hid (show ({ i with pt := i.pt - 1 } : Ins).st ≤ 8 ∧ FnOk ({ i with pt := i.pt - 1 } : Ins).fn ∧ ErV ({ i with pt := i.pt - 1 } : Ins).er from ⟨(by show i.st ≤ 8; have := HS.out; omega), FE.out.1, FE.out.2⟩)
 go_wp2_with fail
 refine (settle_any _ b _ I2.out JK.out.1 JK.out.2.1 JK.out.2.2).mono ?_
 rintro ev wz ⟨rfl, hI, hk⟩
 have IZ := Lib.hid hI
 have MZ := Lib.hid (M2.out.off1 hk HBZ.out)
 have KZ := Lib.hid (K2.out.trans (US.one (m := m) (S := S) hk))
 have KO := Lib.hid hk
 clear hI hk
 go_wp2_with fail
 refine (nOver_any _ b _ IZ.out).mono ?_
 rintro ev wy ⟨rfl, rfl⟩
 go_wp2
 go_ret
 exact ⟨S', _, rfl, IZ.out, MZ.out, US.x KZ.out, FSq.out, rfl⟩
theorem iStep8 (w : World) (b : Nat) (i : Ins) (m : MB) (S : Nat → Prop) (l : LimN) (k : Int) (ps : List Pt) (L : List Pg) (c : Ck) (hi : InsAt w b i) (h : MemAt w m S l k ps L c) (hb : ¬ MS m S b) (hf : FnOk i.fn) (he : ErV i.er) (hs : i.st = 8) (h0 : 0 < i.tk) (h5 : i.tk ≤ 4) : Calls Tryz.prog 11 #[.pointer (some ⟨b, 0, none⟩), .pointer (some ⟨m.mb, 0, none⟩)] w (StepP w b m S l k ps (giveL L (i.pg (i.tk - 1))) c NoX fun _ j => j = { i with tk := i.tk - 1 }) := by
 have I0 := Lib.hid hi
 have M0 := Lib.hid h
 have HB := Lib.hid hb
 have FE := Lib.hid (show FnOk i.fn ∧ ErV i.er from ⟨hf, he⟩)
 have x5 := hi.cSt
 have hov : ((i.st : Int) == 0) = false := by rw [hs]; rfl
 have ho := fun w' h => nOver_any w' b i h
 rw [hov] at ho
 have HS := Lib.hid hs
 rw [hs] at x5
 have H5 := Lib.hid (show 0 < i.tk ∧ i.tk ≤ 4 from ⟨h0, h5⟩)
 have y1 := hi.cTk
 have y2 := hi.free 95
 have hw : IntKind.i64.wrap ((i.tk : Int) - 1) = ((i.tk - 1 : Nat) : Int) := by rw [Go.IntWalk.i64_in _ (by omega)]; omega
 have I1 := Lib.hid (hi.sTk (i.tk - 1))
 have Kc := Lib.hid ((Kept.refl (fun j => j = b) w).setCell 95 (.int .i64 ((i.tk - 1 : Nat) : Int)))
 have hx : (0 : Int) ≤ ((i.tk - 1 : Nat) : Int) ∧ ((i.tk - 1 : Nat) : Int) < 4 := by omega
 clear h0 h5
 clear hi h hb hf he hs hov
 go_enter Tryz.func11, Tryz.ntmps11
 go_wp2_with fail
 refine (ho _ I0.out).mono ?_
 rintro ev w1 ⟨rfl, rfl⟩
 have M1 := Lib.hid (M0.out.off1 Kc.out HB.out)
 have K1 := Lib.hid (US.one (m := m) (S := S) Kc.out)
 go_wp2_with fail
 clear x5 y1 y2 hw
 generalize hwa : w.setCell ⟨b, 95, none⟩ (.int .i64 ((i.tk - 1 : Nat) : Int)) = wa at *
 clear hwa
 have ID := Lib.hid (I1.out.step (Below.refl _ _).drew)
 have MD := Lib.hid (M1.out.low (Below.refl _ _).drew)
 have KD := Lib.hid K1.out.drew
 have fc := fun w' h => nGive_any w' m S l k ps L c (i.pg (i.tk - 1)) h
 have hk5 : i.tk - 1 < 4 := by have := H5.out; omega
 refine AnyBut.region (fun w' => InsAt w' b { i with tk := i.tk - 1 }) 10 (by kernel_rfl) ?_
 generalize wa.drew = wd at *
 refine AnyBut.takeP [] (i := 0) (oi := ⟨some 92, _, _, _, _, _⟩) (v := ?va0) rfl (by kernel_rfl) (by kernel_rfl) (by kernel_rfl) (by kernel_rfl) (by kernel_rfl) (fun _ _ _ h => h) (Or.inl ⟨by rfl, ?hya0⟩) ID.out ?resta0
 case hya0 => (intro w hSw; have q0 := hSw.cTk; have q1 := hSw.cPg hk5; go_simp; try (with_reducible rfl))
 simp only [Act.put, sT, sZ, sS]
 refine AnyBut.takeP [9, 8, 7, 6] (i := 1) (oi := ⟨some 93, _, _, _, _, _⟩) (v := ?va1) rfl (by kernel_rfl) (by kernel_rfl) (by kernel_rfl) (by kernel_rfl) (by kernel_rfl) (fun _ _ _ h => h) (Or.inl ⟨by rfl, ?hya1⟩) ID.out ?resta1
 case hya1 => (intro w hSw; have q0 := hSw.cTk; have q1 := hSw.cPg hk5; go_simp; try (with_reducible rfl))
 simp only [Act.put, sT, sZ, sS]
 refine AnyBut.takeP [9, 8, 5, 4, 3] (i := 2) (oi := ⟨some 94, _, _, _, _, _⟩) (v := ?va2) rfl (by kernel_rfl) (by kernel_rfl) (by kernel_rfl) (by kernel_rfl) (by kernel_rfl) (fun _ _ _ h => h) (Or.inl ⟨by rfl, ?hya2⟩) ID.out ?resta2
 case hya2 => (intro w hSw; have q0 := hSw.cTk; have q1 := hSw.cPg hk5; go_simp; try (with_reducible rfl))
 simp only [Act.put, sT, sZ, sS]
 refine AnyBut.takeP [9, 8, 5, 4] (i := 3) (oi := ⟨some 95, _, _, _, _, _⟩) (v := ?va3) rfl (by kernel_rfl) (by kernel_rfl) (by kernel_rfl) (by kernel_rfl) (by kernel_rfl) (fun _ _ _ h => h) (Or.inl ⟨by rfl, ?hya3⟩) ID.out ?resta3
 case hya3 => (intro w hSw; have q0 := hSw.cTk; have q1 := hSw.cPg hk5; go_simp; try (with_reducible rfl))
 simp only [Act.put, sT, sZ, sS]
 refine AnyBut.takeP [9, 8, 5] (i := 4) (oi := ⟨some 96, _, _, _, _, _⟩) (v := ?va4) rfl (by kernel_rfl) (by kernel_rfl) (by kernel_rfl) (by kernel_rfl) (by kernel_rfl) (fun _ _ _ h => h) (Or.inl ⟨by rfl, ?hya4⟩) ID.out ?resta4
 case hya4 => (intro w hSw; have q0 := hSw.cTk; have q1 := hSw.cPg hk5; go_simp; try (with_reducible rfl))
 simp only [Act.put, sT, sZ, sS]
 refine AnyBut.takeP [9, 8] (i := 5) (oi := ⟨some 97, _, _, _, _, _⟩) (v := ?va5) rfl (by kernel_rfl) (by kernel_rfl) (by kernel_rfl) (by kernel_rfl) (by kernel_rfl) (fun _ _ _ h => h) (Or.inl ⟨by rfl, ?hya5⟩) ID.out ?resta5
 case hya5 => (intro w hSw; have q0 := hSw.cTk; have q1 := hSw.cPg hk5; go_simp; try (with_reducible rfl))
 simp only [Act.put, sT, sZ, sS]
 refine AnyBut.takeP [9, 8, 7] (i := 6) (oi := ⟨some 98, _, _, _, _, _⟩) (v := ?va6) rfl (by kernel_rfl) (by kernel_rfl) (by kernel_rfl) (by kernel_rfl) (by kernel_rfl) (fun _ _ _ h => h) (Or.inl ⟨by rfl, ?hya6⟩) ID.out ?resta6
 case hya6 => (intro w hSw; have q0 := hSw.cTk; have q1 := hSw.cPg hk5; go_simp; try (with_reducible rfl))
 simp only [Act.put, sT, sZ, sS]
 refine AnyBut.takeP [9, 8] (i := 7) (oi := ⟨some 99, _, _, _, _, _⟩) (v := ?va7) rfl (by kernel_rfl) (by kernel_rfl) (by kernel_rfl) (by kernel_rfl) (by kernel_rfl) (fun _ _ _ h => h) (Or.inl ⟨by rfl, ?hya7⟩) ID.out ?resta7
 case hya7 => (intro w hSw; have q0 := hSw.cTk; have q1 := hSw.cPg hk5; go_simp; try (with_reducible rfl))
 simp only [Act.put, sT, sZ, sS]
 refine AnyBut.takeP [9] (i := 8) (oi := ⟨some 100, _, _, _, _, _⟩) (v := ?va8) rfl (by kernel_rfl) (by kernel_rfl) (by kernel_rfl) (by kernel_rfl) (by kernel_rfl) (fun _ _ _ h => h) (Or.inl ⟨by rfl, ?hya8⟩) ID.out ?resta8
 case hya8 => (intro w hSw; have q0 := hSw.cTk; have q1 := hSw.cPg hk5; go_simp; try (with_reducible rfl))
 simp only [Act.put, sT, sZ, sS]
 refine AnyBut.takeP [] (i := 9) (oi := ⟨some 101, _, _, _, _, _⟩) (v := ?va9) rfl (by kernel_rfl) (by kernel_rfl) (by kernel_rfl) (by kernel_rfl) (by kernel_rfl) (fun _ _ _ h => h) (Or.inl ⟨by rfl, ?hya9⟩) ID.out ?resta9
 case hya9 => (intro w hSw; have q0 := hSw.cTk; have q1 := hSw.cPg hk5; go_simp; try (with_reducible rfl))
 simp only [Act.put, sT, sZ, sS]
 refine AnyBut.one (i := 10) (o := ⟨some 102, _, _, _, _, _⟩) (by kernel_rfl) rfl (fun K hK => ?_)
 rw [if_pos (by rfl)]
 go_simp
 refine (fc _ MD.out).mono ?_
 rintro e2 w2 ⟨⟨v, rfl⟩, hM, hk⟩
 have M2 := Lib.hid hM
 have K2 := Lib.hid (KD.out.trans (US.ms (b := b) hk))
 have I2 := Lib.hid (ID.out.keep hk HB.out)
 have HBZ := Lib.hid HB.out
 clear hM hk fc
 refine hK.out _ _ (fun h => absurd rfl h) ?_
 clear hK K
 try simp only [Act.put, sT, sZ, sS]
 refine AnyBut.done (by kernel_rfl) ?_ _
 have JK := Lib.hid (show ({ i with tk := i.tk - 1 } : Ins).st ≤ 8 ∧ FnOk ({ i with tk := i.tk - 1 } : Ins).fn ∧ ErV ({ i with tk := i.tk - 1 } : Ins).er from ⟨(by show i.st ≤ 8; have := HS.out; omega), FE.out.1, FE.out.2⟩)
 go_wp2_with fail
 refine (settle_any _ b _ I2.out JK.out.1 JK.out.2.1 JK.out.2.2).mono ?_
 rintro ev wz ⟨rfl, hI, hk⟩
 have IZ := Lib.hid hI
 have MZ := Lib.hid (M2.out.off1 hk HBZ.out)
 have KZ := Lib.hid (K2.out.trans (US.one (m := m) (S := S) hk))
 have KO := Lib.hid hk
 clear hI hk
 go_wp2_with fail
 refine (nOver_any _ b _ IZ.out).mono ?_
 rintro ev wy ⟨rfl, rfl⟩
 go_wp2
 go_ret
 exact ⟨S, _, rfl, IZ.out, MZ.out, US.x KZ.out, fun _ h => .inl h, rfl⟩
end Go.Proofs.YtejmdmaebkdjoaaGreatDoor
