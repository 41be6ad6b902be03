/- Package install's fill and swap, by contracts. -/
import Derived.Test.YtaiaaljahnackaaNsTake
namespace Go.Proofs.Ytaiaaljahnackaa
open Go.RowKit

theorem blk_thereN {w : World} {b : Nat} {cs : Array Value} {T : TypeId} (h : w.heap[b]? = some (.cells cs T (0, 0))) (o n : Nat) (hn : o + n ≤ cs.size) : w.there b o n := fun j hj => by
  refine ⟨?_, blk_free h _⟩
  rw [blk_cell h, Array.getElem?_eq_getElem (by omega)]
  rfl
/-- cells that read as a record, apart from T -/
def RecIn (w : World) (T : Nat → Prop) (cs : List Value) (d : RecD) : Prop :=
  ∃ ra rn rc ea en ec, cs = recCells d.sc (.slice ra rn rc) (.slice ea en ec) ∧ RecV w (recVal d.sc (.slice ra rn rc) (.slice ea en ec)) d ∧ Out T (.slice ra rn rc) ∧ Out T (.slice ea en ec) ∧ d.rows.length ≤ 1000 ∧ d.ents.length ≤ 1000
theorem RecIn.sub {w : World} {S T : Nat → Prop} {cs : List Value} {d : RecD} (h : RecIn w S cs d) (hs : ∀ k, T k → S k) : RecIn w T cs d := by
  obtain ⟨ra, rn, rc, ea, en, ec, h1, h2, h3, h4, h5⟩ := h
  exact ⟨ra, rn, rc, ea, en, ec, h1, h2, h3.sub hs, h4.sub hs, h5⟩
theorem RecIn.kept {w w' : World} {S T : Nat → Prop} {cs : List Value} {d : RecD} (h : RecIn w S cs d) (hk : Kept T w w') (hs : ∀ k, T k → S k) : RecIn w' S cs d := by
  obtain ⟨ra, rn, rc, ea, en, ec, h1, h2, h3, h4, h5⟩ := h
  exact ⟨ra, rn, rc, ea, en, ec, h1, h2.kept hk (h3.sub hs) (h4.sub hs), h3, h4, h5⟩
theorem InsAt.there2 {w : World} {b : Nat} {i : Ins} (h : InsAt w b i) (o : Nat) (ho : o + 2 ≤ 100) : w.there b o 2 := blk_thereN h.blk o 2 ho
def fillI (i : Ins) (r : Rf) : Ins := { i with rf := upd i.rf i.pt r, pt := i.pt + 1 }
def swapI (i : Ins) : Ins := { i with sw := i.sw + 1 }
set_option maxRecDepth 100000 in
set_option maxHeartbeats 4000000 in
theorem iFill_any (w : World) (b : Nat) (i : Ins) (m : MB) (S : Nat → Prop) (l : LimN) (k : Int) (ps : List Pt) (L : List Pg) (c : Ck) (d : RecD) (hi : InsAt w b i) (h : MemAt w m S l k ps L c) (hb : ¬ MS m S b) (h5 : i.pt < 5) (hr : RecIn w (MS m S) (i.rcL i.pt) d) :
    Calls Try.prog 40 #[.pointer (some ⟨b, 0, none⟩), .pointer (some ⟨m.mb, 0, none⟩)] w fun ev w' => ev = .returned (.tuple #[]) ∧ ∃ S', MemAt w' m S' l (inc k) (putM l.s l.c ps d) L c ∧ Kept (US m S b) w w' ∧ (∀ j, MS m S' j → MS m S j ∨ w.heap.size ≤ j) ∧
      (((allocM l.s l.c ps).2.2 = 0 ∧ InsAt w' b (fillI i (((allocM l.s l.c ps).1 : Int), ((allocM l.s l.c ps).2.1 : Int)))) ∨ ((allocM l.s l.c ps).2.2 ≠ 0 ∧ ∃ v, ErrF w' v (allocM l.s l.c ps).2.2 ∧ InsAt w' b (undoI i v))) := by
  obtain ⟨ra, rn, rc, ea, en, ec, hc, hv, o1, o2, h1, h2⟩ := hr
  have I0 := Lib.hid hi
  have M0 := Lib.hid h
  have HB := Lib.hid hb
  have H5 := Lib.hid h5
  have V0 := Lib.hid hv
  have OO := Lib.hid (show Out (MS m S) (.slice ra rn rc) ∧ Out (MS m S) (.slice ea en ec) ∧ d.rows.length ≤ 1000 ∧ d.ents.length ≤ 1000 from ⟨o1, o2, h1, h2⟩)
  have RC := Lib.hid (show ∀ w', InsAt w' b i → w'.rangeAt b (10 + i.pt * 15) (recCells d.sc (.slice ra rn rc) (.slice ea en ec)) from fun w' h => hc ▸ h.rRec h5)
  have hx : (0 : Int) ≤ (i.pt : Int) ∧ (i.pt : Int) < 5 := by omega
  clear hi h hb h5 hv o1 o2 h1 h2 hc
  go_enter Try.func40, Try.ntmps40
  go_upto_region 0 with (fail)
  go_cut [4, 5] from 6 to 20 (fun s4 s5 wc => ∃ (xb : Nat) (S' : Nat → Prop), s4 = .pointer (some ⟨xb, 0, none⟩) ∧ ErrF wc s5 (allocM l.s l.c ps).2.2 ∧ RfB wc xb ((allocM l.s l.c ps).1 : Int) ((allocM l.s l.c ps).2.1 : Int) ∧ w.heap.size ≤ xb ∧ ¬ MS m S' xb ∧ MemAt wc m S' l (inc k) (putM l.s l.c ps d) L c ∧ (∀ j, MS m S' j → MS m S j ∨ w.heap.size ≤ j) ∧ Kept (MS m S) w wc)
  case first =>
    go_wp2_with fail
    have ID := Lib.hid (I0.out.step (Below.refl _ _).drew)
    have MD := Lib.hid (M0.out.low (Below.refl _ _).drew)
    have KD := Lib.hid (Kept.refl (MS m S) w).drew
    have VD := Lib.hid (V0.out.below (Below.refl _ _).drew)
    have KS := Lib.hid (show ∀ w', Kept (MS m S) w w' → InsAt w' b i from fun w' hk => I0.out.keep hk HB.out)
    refine anyH_region (fun w' => InsAt w' b i) (by kernel_rfl) ?_
    generalize w.drew = wd at *
    refine wpAnyH_take (i := 0) (oi := ⟨some 7, _, _, _, _, _⟩) (v := ?va0) rfl (by kernel_rfl) (by kernel_rfl) (by kernel_rfl) (fun _ _ _ h => h) (Or.inl ⟨by rfl, ?hya0⟩) ID.out ?resta0
    case hya0 => (intro w hSw; have q0 := hSw.cPt; go_simp; try (with_reducible rfl))
    simp only [Act.put, List.setIfInBounds_toArray, List.set_cons_zero, List.set_cons_succ]
    refine wpAnyH_take (i := 1) (oi := ⟨some 8, _, _, _, _, _⟩) (v := ?va1) rfl (by kernel_rfl) (by kernel_rfl) (by kernel_rfl) (fun _ _ _ h => h) (Or.inl ⟨by rfl, ?hya1⟩) ID.out ?resta1
    case hya1 => (intro w hSw; have q0 := hSw.cPt; go_simp; try (with_reducible rfl))
    simp only [Act.put, List.setIfInBounds_toArray, List.set_cons_zero, List.set_cons_succ]
    refine wpAnyH_take (i := 2) (oi := ⟨some 9, _, _, _, _, _⟩) (v := ?va2) rfl (by kernel_rfl) (by kernel_rfl) (by kernel_rfl) (fun _ _ _ h => h) (Or.inl ⟨by rfl, ?hya2⟩) ID.out ?resta2
    case hya2 => (intro w hSw; have q0 := hSw.cPt; go_simp; try (with_reducible rfl))
    simp only [Act.put, List.setIfInBounds_toArray, List.set_cons_zero, List.set_cons_succ]
    refine wpAnyH_take (i := 3) (oi := ⟨some 10, _, _, _, _, _⟩) (v := ?va3) rfl (by kernel_rfl) (by kernel_rfl) (by kernel_rfl) (fun _ _ _ h => h) (Or.inl ⟨by rfl, ?hya3⟩) ID.out ?resta3
    case hya3 => (intro w hSw; have q0 := hSw.cPt; go_simp; try (with_reducible rfl))
    simp only [Act.put, List.setIfInBounds_toArray, List.set_cons_zero, List.set_cons_succ]
    refine wpAnyH_take (i := 4) (oi := ⟨some 11, _, _, _, _, _⟩) (v := ?va4) rfl (by kernel_rfl) (by kernel_rfl) (by kernel_rfl) (fun _ _ _ h => h) (Or.inl ⟨by rfl, ?hya4⟩) ID.out ?resta4
    case hya4 => (intro w hSw; have q0 := hSw.cPt; go_simp; try (with_reducible rfl))
    simp only [Act.put, List.setIfInBounds_toArray, List.set_cons_zero, List.set_cons_succ]
    refine wpAnyH_take (i := 5) (oi := ⟨some 12, _, _, _, _, _⟩) (v := ?va5) rfl (by kernel_rfl) (by kernel_rfl) (by kernel_rfl) (fun _ _ _ h => h) (Or.inl ⟨by rfl, ?hya5⟩) ID.out ?resta5
    case hya5 => (intro w hSw; have q0 := hSw.cPt; go_simp; try (with_reducible rfl))
    simp only [Act.put, List.setIfInBounds_toArray, List.set_cons_zero, List.set_cons_succ]
    refine wpAnyH_take (i := 6) (oi := ⟨some 13, _, _, _, _, _⟩) (v := ?va6) rfl (by kernel_rfl) (by kernel_rfl) (by kernel_rfl) (fun _ _ _ h => h) (Or.inl ⟨by rfl, ?hya6⟩) ID.out ?resta6
    case hya6 => (intro w hSw; have q0 := hSw.cPt; go_simp; try (with_reducible rfl))
    simp only [Act.put, List.setIfInBounds_toArray, List.set_cons_zero, List.set_cons_succ]
    refine wpAnyH_take (i := 7) (oi := ⟨some 14, _, _, _, _, _⟩) (v := ?va7) rfl (by kernel_rfl) (by kernel_rfl) (by kernel_rfl) (fun _ _ _ h => h) (Or.inl ⟨by rfl, ?hya7⟩) ID.out ?resta7
    case hya7 => (intro w hSw; have q0 := hSw.cPt; go_simp; try (with_reducible rfl))
    simp only [Act.put, List.setIfInBounds_toArray, List.set_cons_zero, List.set_cons_succ]
    refine wpAnyH_take (i := 8) (oi := ⟨some 15, _, _, _, _, _⟩) (v := ?va8) rfl (by kernel_rfl) (by kernel_rfl) (by kernel_rfl) (fun _ _ _ h => h) (Or.inl ⟨by rfl, ?hya8⟩) ID.out ?resta8
    case hya8 => (intro w hSw; have q0 := hSw.cPt; go_simp; try (with_reducible rfl))
    simp only [Act.put, List.setIfInBounds_toArray, List.set_cons_zero, List.set_cons_succ]
    refine wpAnyH_take (i := 9) (oi := ⟨some 16, _, _, _, _, _⟩) (v := .agg (recCells d.sc (.slice ra rn rc) (.slice ea en ec)).toArray) rfl (by kernel_rfl) (by kernel_rfl) (by kernel_rfl) (fun _ _ _ h => h) (yieldsIf_load_mid (by rfl) 44 (.tmp 15) rfl b (10 + i.pt * 15) rfl (recCells d.sc (.slice ra rn rc) (.slice ea en ec)) _ (fun w h => RC.out w h) Try.underlying44 rfl recInfoS) ID.out ?resta9
    simp only [Act.put, List.setIfInBounds_toArray, List.set_cons_zero, List.set_cons_succ]
    refine anyH_two (i := 10) (j := 14) (o := ⟨some 17, _, _, _, _, _⟩) (u := ⟨some 4, _, _, _, _, _⟩) (by kernel_rfl) rfl rfl (fun K hK => ?_) (fun K hK => ?_)
    · rw [if_pos (by rfl)]
      go_simp
      refine (nAlloc_any _ m S l k ps L c d ra rn rc ea en ec MD.out VD.out OO.out.1 OO.out.2.1 OO.out.2.2.1 OO.out.2.2.2).mono ?_
      rintro e2 w2 ⟨S', v, rfl, he, hM, hk, hS⟩
      have K2 := Lib.hid (KD.out.trans hk)
      have M2 := Lib.hid hM
      have E2 := Lib.hid he
      have F2 := Lib.hid (show ∀ j, MS m S' j → MS m S j ∨ w.heap.size ≤ j from fun j hj => (hS j hj).imp id (fun h => by have := KD.out.size; omega))
      clear he hM hk hS
      unfold refV
      refine hK.out _ _ (KS.out _ K2.out) ?_
      clear hK K
      try simp only [Act.put, List.setIfInBounds_toArray, List.set_cons_zero, List.set_cons_succ]
      refine wpAnyH_take (i := 11) (oi := ⟨some 6, _, _, _, _, _⟩) (v := ?vb11) rfl (by kernel_rfl) (by kernel_rfl) (by kernel_rfl) (fun _ _ _ h => h) (Or.inl ⟨by rfl, ?hyb11⟩) (KS.out _ K2.out) ?restb11
      case hyb11 => (intro w hSw; go_simp; try (with_reducible rfl))
      simp only [Act.put, List.setIfInBounds_toArray, List.set_cons_zero, List.set_cons_succ]
      refine wpAnyH_take (i := 12) (oi := ⟨some 18, _, _, _, _, _⟩) (v := ?vb12) rfl (by kernel_rfl) (by kernel_rfl) (by kernel_rfl) (fun _ _ _ h => h) (Or.inl ⟨by rfl, ?hyb12⟩) (KS.out _ K2.out) ?restb12
      case hyb12 => (intro w hSw; go_simp; try (with_reducible rfl))
      simp only [Act.put, List.setIfInBounds_toArray, List.set_cons_zero, List.set_cons_succ]
      refine wpAnyH_take (i := 13) (oi := ⟨some 19, _, _, _, _, _⟩) (v := ?vb13) rfl (by kernel_rfl) (by kernel_rfl) (by kernel_rfl) (fun _ _ _ h => h) (Or.inl ⟨by rfl, ?hyb13⟩) (KS.out _ K2.out) ?restb13
      case hyb13 => (intro w hSw; go_simp; try (with_reducible rfl))
      simp only [Act.put, List.setIfInBounds_toArray, List.set_cons_zero, List.set_cons_succ]
      have b3 := Lib.hid (alloc_below0 w2 (.cells #[.int .i64 0, .int .i64 0] 34))
      have K3 := Lib.hid (K2.out.trans (Kept.of_below b3.out))
      have M3 := Lib.hid (M2.out.low b3.out)
      have E3 := Lib.hid (E2.out.below b3.out)
      have z3 := Lib.hid (blk_new w2 (.cells #[.int .i64 0, .int .i64 0] 34))
      have o3 := Lib.hid (M2.out.offB (Nat.le_refl _))
      refine anyH_one (i := 14) (o := ⟨some 4, _, _, _, _, _⟩) (by kernel_rfl) rfl (fun K hK => ?_)
      rw [if_pos (by rfl)]
      go_simp
      refine hK.out _ _ (KS.out _ K3.out) ?_
      clear hK K
      try simp only [Act.put, List.setIfInBounds_toArray, List.set_cons_zero, List.set_cons_succ]
      refine anyH_one (i := 15) (o := ⟨none, _, _, _, _, _⟩) (by kernel_rfl) rfl (fun K hK => ?_)
      rw [if_pos (by rfl)]
      refine wp_store_mid 34 (.tmp 4) (.tmp 18) rfl w2.heap.size 0 ([.int .i64 ((allocM l.s l.c ps).1 : Int), .int .i64 ((allocM l.s l.c ps).2.1 : Int)] : List Value).toArray rfl rfl (blk_there z3.out 2 (Nat.le_refl _)) (by kernel_rfl) (by kernel_rfl) ?_
      have nb := Lib.hid (show w.heap.size ≤ w2.heap.size by have := KD.out.size; have := K2.out.size; first | omega | exact Nat.le_refl _ | assumption)
      have K4 := Lib.hid ((K3.out.setNew nb.out 0 (.int .i64 ((allocM l.s l.c ps).1 : Int))).setNew nb.out 1 (.int .i64 ((allocM l.s l.c ps).2.1 : Int)))
      have ks := Lib.hid (Kept.setCells [.int .i64 ((allocM l.s l.c ps).1 : Int), .int .i64 ((allocM l.s l.c ps).2.1 : Int)] 0 (w2.alloc (.cells #[.int .i64 0, .int .i64 0] 34)) (Kept.refl (fun x => x = w2.heap.size) (w2.alloc (.cells #[.int .i64 0, .int .i64 0] 34))))
      have M4 := Lib.hid (M3.out.keep ks.out (fun j hj e => o3.out (e ▸ hj)))
      have E4 := Lib.hid (E3.out.keepF ks.out z3.out (by decide))
      have r4 := Lib.hid (list_laid [.int .i64 ((allocM l.s l.c ps).1 : Int), .int .i64 ((allocM l.s l.c ps).2.1 : Int)] z3.out rfl)
      refine hK.out _ _ (KS.out _ K4.out) ?_
      clear hK K
      try simp only [Act.put]
      refine anyH_one (i := 16) (o := ⟨some 5, _, _, _, _, _⟩) (by kernel_rfl) rfl (fun K hK => ?_)
      rw [if_pos (by rfl)]
      go_simp
      refine hK.out _ _ (KS.out _ K4.out) ?_
      clear hK K
      try simp only [Act.put, List.setIfInBounds_toArray, List.set_cons_zero, List.set_cons_succ]
      refine wpAnyH_done (by kernel_rfl) ?_ _
      go_wp2
      go_meet
      case rel => exact ⟨_, S', rfl, E4.out, ⟨r4.out⟩, nb.out, o3.out, M4.out, F2.out, K4.out⟩
    · rw [if_pos (by rfl)]
      have b3 := Lib.hid (alloc_below0 wd (.cells #[.int .i64 0, .int .i64 0] 34))
      have z2 := Lib.hid (blk_new wd (.cells #[.int .i64 0, .int .i64 0] 34))
      have MB2 := Lib.hid (MD.out.low b3.out)
      have VB2 := Lib.hid (VD.out.below b3.out)
      have KB2 := Lib.hid (KD.out.trans (Kept.of_below b3.out))
      have o2 := Lib.hid (MD.out.offB (Nat.le_refl wd.heap.size))
      have zs := Lib.hid (show (wd.alloc (.cells #[.int .i64 0, .int .i64 0] 34)).heap.size = wd.heap.size + 1 from by simp)
      go_simp
      refine hK.out _ _ (KS.out _ KB2.out) ?_
      clear hK K
      try simp only [Act.put, List.setIfInBounds_toArray, List.set_cons_zero, List.set_cons_succ]
      refine anyH_one (i := 10) (o := ⟨some 17, _, _, _, _, _⟩) (by kernel_rfl) rfl (fun K hK => ?_)
      rw [if_pos (by rfl)]
      go_simp
      refine (nAlloc_any _ m S l k ps L c d ra rn rc ea en ec MB2.out VB2.out OO.out.1 OO.out.2.1 OO.out.2.2.1 OO.out.2.2.2).mono ?_
      rintro e2 w2 ⟨S', v, rfl, he, hM, hk, hS⟩
      have K2 := Lib.hid (KB2.out.trans hk)
      have M2 := Lib.hid hM
      have E2 := Lib.hid he
      have F2 := Lib.hid (show ∀ j, MS m S' j → MS m S j ∨ w.heap.size ≤ j from fun j hj => (hS j hj).imp id (fun h => by have := zs.out; have := KD.out.size; omega))
      have o3 := Lib.hid (show ¬ MS m S' wd.heap.size from fun hm => by
        rcases hS _ hm with h | h
        · exact o2.out h
        · have := zs.out; omega)
      have z3 := Lib.hid ((hk.block _ (by have := zs.out; omega) o2.out).trans z2.out)
      have E3 := Lib.hid he
      clear he hM hk hS
      unfold refV
      refine hK.out _ _ (KS.out _ K2.out) ?_
      clear hK K
      try simp only [Act.put, List.setIfInBounds_toArray, List.set_cons_zero, List.set_cons_succ]
      refine wpAnyH_take (i := 11) (oi := ⟨some 6, _, _, _, _, _⟩) (v := ?vc11) rfl (by kernel_rfl) (by kernel_rfl) (by kernel_rfl) (fun _ _ _ h => h) (Or.inl ⟨by rfl, ?hyc11⟩) (KS.out _ K2.out) ?restc11
      case hyc11 => (intro w hSw; go_simp; try (with_reducible rfl))
      simp only [Act.put, List.setIfInBounds_toArray, List.set_cons_zero, List.set_cons_succ]
      refine wpAnyH_take (i := 12) (oi := ⟨some 18, _, _, _, _, _⟩) (v := ?vc12) rfl (by kernel_rfl) (by kernel_rfl) (by kernel_rfl) (fun _ _ _ h => h) (Or.inl ⟨by rfl, ?hyc12⟩) (KS.out _ K2.out) ?restc12
      case hyc12 => (intro w hSw; go_simp; try (with_reducible rfl))
      simp only [Act.put, List.setIfInBounds_toArray, List.set_cons_zero, List.set_cons_succ]
      refine wpAnyH_take (i := 13) (oi := ⟨some 19, _, _, _, _, _⟩) (v := ?vc13) rfl (by kernel_rfl) (by kernel_rfl) (by kernel_rfl) (fun _ _ _ h => h) (Or.inl ⟨by rfl, ?hyc13⟩) (KS.out _ K2.out) ?restc13
      case hyc13 => (intro w hSw; go_simp; try (with_reducible rfl))
      simp only [Act.put, List.setIfInBounds_toArray, List.set_cons_zero, List.set_cons_succ]
      have K3 := Lib.hid K2.out
      have M3 := Lib.hid M2.out
      refine anyH_one (i := 15) (o := ⟨none, _, _, _, _, _⟩) (by kernel_rfl) rfl (fun K hK => ?_)
      rw [if_pos (by rfl)]
      refine wp_store_mid 34 (.tmp 4) (.tmp 18) rfl wd.heap.size 0 ([.int .i64 ((allocM l.s l.c ps).1 : Int), .int .i64 ((allocM l.s l.c ps).2.1 : Int)] : List Value).toArray rfl rfl (blk_there z3.out 2 (Nat.le_refl _)) (by kernel_rfl) (by kernel_rfl) ?_
      have nb := Lib.hid (show w.heap.size ≤ wd.heap.size by have := KD.out.size; have := K2.out.size; first | omega | exact Nat.le_refl _ | assumption)
      have K4 := Lib.hid ((K3.out.setNew nb.out 0 (.int .i64 ((allocM l.s l.c ps).1 : Int))).setNew nb.out 1 (.int .i64 ((allocM l.s l.c ps).2.1 : Int)))
      have ks := Lib.hid (Kept.setCells [.int .i64 ((allocM l.s l.c ps).1 : Int), .int .i64 ((allocM l.s l.c ps).2.1 : Int)] 0 w2 (Kept.refl (fun x => x = wd.heap.size) w2))
      have M4 := Lib.hid (M3.out.keep ks.out (fun j hj e => o3.out (e ▸ hj)))
      have E4 := Lib.hid (E3.out.keepF ks.out z3.out (by decide))
      have r4 := Lib.hid (list_laid [.int .i64 ((allocM l.s l.c ps).1 : Int), .int .i64 ((allocM l.s l.c ps).2.1 : Int)] z3.out rfl)
      refine hK.out _ _ (KS.out _ K4.out) ?_
      clear hK K
      try simp only [Act.put]
      refine anyH_one (i := 16) (o := ⟨some 5, _, _, _, _, _⟩) (by kernel_rfl) rfl (fun K hK => ?_)
      rw [if_pos (by rfl)]
      go_simp
      refine hK.out _ _ (KS.out _ K4.out) ?_
      clear hK K
      try simp only [Act.put, List.setIfInBounds_toArray, List.set_cons_zero, List.set_cons_succ]
      refine wpAnyH_done (by kernel_rfl) ?_ _
      go_wp2
      go_meet
      case rel => exact ⟨_, S', rfl, E4.out, ⟨r4.out⟩, nb.out, o3.out, M4.out, F2.out, K4.out⟩
  case rest =>
    obtain ⟨xb, S', rfl, he, hR, hxb, hox, hM, hS, hk⟩ := hcut
    obtain ⟨wL, hwq⟩ : ∃ x, x = wc := ⟨_, rfl⟩
    subst hwq
    have M2 := Lib.hid hM
    have R2 := Lib.hid hR
    have E2 := Lib.hid he
    have K2 := Lib.hid (US.ms (b := b) hk)
    have I2 := Lib.hid (I0.out.keep hk HB.out)
    have F2 := Lib.hid hS
    have XB := Lib.hid hxb
    have OX := Lib.hid hox
    have HB2 := Lib.hid (show ¬ MS m S' b from fun hm => (hS b hm).elim HB.out (fun h => by have := I0.out.lt; omega))
    have NX := Lib.hid (show ¬ xb = b from fun e => by have := I0.out.lt; omega)
    clear hM hR hk hS hxb hox RC
    by_cases h0 : (allocM l.s l.c ps).2.2 = 0
    · obtain rfl := he.nil h0
      have HE := Lib.hid h0
      clear h0 he
      go_wp2_with fail
      have ID := Lib.hid (I2.out.step (Below.refl _ _).drew)
      have MD := Lib.hid (M2.out.low (Below.refl _ _).drew)
      have RD := Lib.hid (R2.out.step (Below.refl _ _).drew)
      have KD := Lib.hid K2.out.drew
      have TH := Lib.hid (ID.out.there2 (85 + i.pt * 2) (by have := H5.out; omega))
      refine AnyBut.region (fun w' => InsAt w' b i ∧ RfB w' xb ((allocM l.s l.c ps).1 : Int) ((allocM l.s l.c ps).2.1 : Int)) 9 (by kernel_rfl) ?_
      generalize wL.drew = wd at *
      refine AnyBut.take (i := 0) (oi := ⟨some 25, _, _, _, _, _⟩) (v := ?vd0) rfl (by kernel_rfl) (by kernel_rfl) (by kernel_rfl) (by kernel_rfl) (fun _ _ _ h => h) (Or.inl ⟨by rfl, ?hyd0⟩) ⟨ID.out, RD.out⟩ ?restd0
      case hyd0 => (intro w hSw; have q0 := hSw.1.cPt; have q1 := hSw.2.c0; have q2 := hSw.2.c1; go_simp; try (with_reducible rfl))
      simp only [Act.put, List.setIfInBounds_toArray, List.set_cons_zero, List.set_cons_succ]
      refine AnyBut.take (i := 1) (oi := ⟨some 26, _, _, _, _, _⟩) (v := ?vd1) rfl (by kernel_rfl) (by kernel_rfl) (by kernel_rfl) (by kernel_rfl) (fun _ _ _ h => h) (Or.inl ⟨by rfl, ?hyd1⟩) ⟨ID.out, RD.out⟩ ?restd1
      case hyd1 => (intro w hSw; have q0 := hSw.1.cPt; have q1 := hSw.2.c0; have q2 := hSw.2.c1; go_simp; try (with_reducible rfl))
      simp only [Act.put, List.setIfInBounds_toArray, List.set_cons_zero, List.set_cons_succ]
      refine AnyBut.take (i := 2) (oi := ⟨some 27, _, _, _, _, _⟩) (v := ?vd2) rfl (by kernel_rfl) (by kernel_rfl) (by kernel_rfl) (by kernel_rfl) (fun _ _ _ h => h) (Or.inl ⟨by rfl, ?hyd2⟩) ⟨ID.out, RD.out⟩ ?restd2
      case hyd2 => (intro w hSw; have q0 := hSw.1.cPt; have q1 := hSw.2.c0; have q2 := hSw.2.c1; go_simp; try (with_reducible rfl))
      simp only [Act.put, List.setIfInBounds_toArray, List.set_cons_zero, List.set_cons_succ]
      refine AnyBut.take (i := 3) (oi := ⟨some 28, _, _, _, _, _⟩) (v := ?vd3) rfl (by kernel_rfl) (by kernel_rfl) (by kernel_rfl) (by kernel_rfl) (fun _ _ _ h => h) (Or.inl ⟨by rfl, ?hyd3⟩) ⟨ID.out, RD.out⟩ ?restd3
      case hyd3 => (intro w hSw; have q0 := hSw.1.cPt; have q1 := hSw.2.c0; have q2 := hSw.2.c1; go_simp; try (with_reducible rfl))
      simp only [Act.put, List.setIfInBounds_toArray, List.set_cons_zero, List.set_cons_succ]
      refine AnyBut.take (i := 4) (oi := ⟨some 29, _, _, _, _, _⟩) (v := ?vd4) rfl (by kernel_rfl) (by kernel_rfl) (by kernel_rfl) (by kernel_rfl) (fun _ _ _ h => h) (Or.inl ⟨by rfl, ?hyd4⟩) ⟨ID.out, RD.out⟩ ?restd4
      case hyd4 => (intro w hSw; have q0 := hSw.1.cPt; have q1 := hSw.2.c0; have q2 := hSw.2.c1; go_simp; try (with_reducible rfl))
      simp only [Act.put, List.setIfInBounds_toArray, List.set_cons_zero, List.set_cons_succ]
      refine AnyBut.take (i := 5) (oi := ⟨some 30, _, _, _, _, _⟩) (v := ?vd5) rfl (by kernel_rfl) (by kernel_rfl) (by kernel_rfl) (by kernel_rfl) (fun _ _ _ h => h) (Or.inl ⟨by rfl, ?hyd5⟩) ⟨ID.out, RD.out⟩ ?restd5
      case hyd5 => (intro w hSw; have q0 := hSw.1.cPt; have q1 := hSw.2.c0; have q2 := hSw.2.c1; go_simp; try (with_reducible rfl))
      simp only [Act.put, List.setIfInBounds_toArray, List.set_cons_zero, List.set_cons_succ]
      refine AnyBut.one (i := 6) (o := ⟨some 31, _, _, _, _, _⟩) (by kernel_rfl) rfl (fun K hK => ?_)
      rw [if_pos (by rfl)]
      have q0 := ID.out.cPt
      go_simp
      refine hK.out _ _ (fun _ => ⟨ID.out, RD.out⟩) ?_
      clear hK K
      try simp only [Act.put, List.setIfInBounds_toArray, List.set_cons_zero, List.set_cons_succ]
      refine AnyBut.one (i := 7) (o := ⟨some 32, _, _, _, _, _⟩) (by kernel_rfl) rfl (fun K hK => ?_)
      rw [if_pos (by rfl)]
      have q0 := ID.out.cPt
      go_simp
      refine hK.out _ _ (fun _ => ⟨ID.out, RD.out⟩) ?_
      clear hK K
      try simp only [Act.put, List.setIfInBounds_toArray, List.set_cons_zero, List.set_cons_succ]
      refine AnyBut.take (i := 8) (oi := ⟨some 33, _, _, _, _, _⟩) (v := ?vd8) rfl (by kernel_rfl) (by kernel_rfl) (by kernel_rfl) (by kernel_rfl) (fun _ _ _ h => h) (Or.inl ⟨by rfl, ?hyd8⟩) ⟨ID.out, RD.out⟩ ?restd8
      case hyd8 => (intro w hSw; have q0 := hSw.1.cPt; have q1 := hSw.2.c0; have q2 := hSw.2.c1; go_simp; try (with_reducible rfl))
      simp only [Act.put, List.setIfInBounds_toArray, List.set_cons_zero, List.set_cons_succ]
      refine AnyBut.one (i := 9) (o := ⟨none, _, _, _, _, _⟩) (by kernel_rfl) rfl (fun K hK => ?_)
      rw [if_pos (by rfl)]
      refine wp_store_mid 34 (.tmp 33) (.tmp 30) rfl b (85 + i.pt * 2) ([.int .i64 ((allocM l.s l.c ps).1 : Int), .int .i64 ((allocM l.s l.c ps).2.1 : Int)] : List Value).toArray rfl rfl TH.out (by kernel_rfl) (by kernel_rfl) ?_
      refine hK.out _ _ (fun h => absurd rfl h) ?_
      clear hK K
      try simp only [Act.put]
      refine AnyBut.done (by kernel_rfl) ?_ _
      have I3 := Lib.hid (ID.out.sRf ((allocM l.s l.c ps).1 : Int) ((allocM l.s l.c ps).2.1 : Int) H5.out)
      have Kb := Lib.hid (((Kept.refl (fun j => j = b) wd).setCell (85 + i.pt * 2) (.int .i64 ((allocM l.s l.c ps).1 : Int))).setCell (85 + i.pt * 2 + 1) (.int .i64 ((allocM l.s l.c ps).2.1 : Int)))
      have M3 := Lib.hid (MD.out.off1 Kb.out HB2.out)
      have K3 := Lib.hid (KD.out.trans (US.one (m := m) (S := S) Kb.out))
      have hset : wd.setCells b (85 + i.pt * 2) ([.int .i64 ((allocM l.s l.c ps).1 : Int), .int .i64 ((allocM l.s l.c ps).2.1 : Int)] : List Value).toArray.toList = (wd.setCell ⟨b, 85 + i.pt * 2, none⟩ (.int .i64 ((allocM l.s l.c ps).1 : Int))).setCell ⟨b, 85 + i.pt * 2 + 1, none⟩ (.int .i64 ((allocM l.s l.c ps).2.1 : Int)) := rfl
      rw [hset]
      generalize hW : (wd.setCell ⟨b, 85 + i.pt * 2, none⟩ (.int .i64 ((allocM l.s l.c ps).1 : Int))).setCell ⟨b, 85 + i.pt * 2 + 1, none⟩ (.int .i64 ((allocM l.s l.c ps).2.1 : Int)) = W at *
      clear hW hset
      have y1 := I3.out.cPt
      have y2 := I3.out.free 96
      have hw : IntKind.i64.wrap ((i.pt : Int) + 1) = ((i.pt + 1 : Nat) : Int) := by rw [Go.IntWalk.i64_in _ (by have := H5.out; omega)]; omega
      have I4 := Lib.hid (I3.out.sPt (i.pt + 1))
      have Kc := Lib.hid ((Kept.refl (fun j => j = b) W).setCell 96 (.int .i64 ((i.pt + 1 : Nat) : Int)))
      have M4 := Lib.hid (M3.out.off1 Kc.out HB2.out)
      have K4 := Lib.hid (K3.out.trans (US.one (m := m) (S := S) Kc.out))
      try simp only [Act.put]
      go_wp2
      go_end0
      exact ⟨rfl, S', M4.out, K4.out, F2.out, .inl ⟨HE.out, I4.out⟩⟩
    · obtain ⟨t, x, rfl⟩ := he.ifc h0
      have HE := Lib.hid h0
      clear h0 he
      go_wp2_with fail
      refine (undo_any _ b i _ E2.out.erv I2.out).mono ?_
      rintro ev w3 ⟨rfl, hI, hk⟩
      have I3 := Lib.hid hI
      have M3 := Lib.hid (M2.out.off1 hk HB2.out)
      have E3 := Lib.hid (E2.out.kept hk I2.out.fault)
      have K3 := Lib.hid (K2.out.trans (US.one (m := m) (S := S) hk))
      clear hI hk
      go_wp2
      refine bodyPost_ret (results_none rfl _ _ _) rfl ?_
      exact ⟨rfl, S', M3.out, K3.out, F2.out, .inr ⟨HE.out, _, E3.out, I3.out⟩⟩
set_option maxRecDepth 100000 in
set_option maxHeartbeats 4000000 in
theorem iSwap_any (w : World) (b : Nat) (i : Ins) (m : MB) (S : Nat → Prop) (l : LimN) (k : Int) (ps : List Pt) (L : List Pg) (c : Ck) (x os og : Int) (hi : InsAt w b i) (h : MemAt w m S l k ps L c) (hb : ¬ MS m S b) (h5 : i.sw < 5) :
    Calls Try.prog 41 #[.pointer (some ⟨b, 0, none⟩), .pointer (some ⟨m.mb, 0, none⟩), .int .i64 x, refV os og] w fun ev w' => ev = .returned (.bool (swapB L x (os, og))) ∧ MemAt w' m S l (inc k) ps (swapL L x (os, og) (i.rf i.sw)) c ∧ Kept (US m S b) w w' ∧
      ((swapB L x (os, og) = true ∧ InsAt w' b (swapI i)) ∨ (swapB L x (os, og) = false ∧ ∃ v, ErrF w' v (codeT L x) ∧ InsAt w' b (undoI i v))) := by
  have b0 := alloc_below0 w (.cells #[.int .i64 os, .int .i64 og] 34)
  have I0 := Lib.hid (hi.step b0)
  have M0 := Lib.hid (h.low b0)
  have B0 := Lib.hid b0
  have R0 := Lib.hid (RfB.mk (blk_new w (.cells #[.int .i64 os, .int .i64 og] 34)))
  have HB := Lib.hid hb
  have H5 := Lib.hid h5
  have hx : (0 : Int) ≤ (i.sw : Int) ∧ (i.sw : Int) < 5 := by omega
  have NR0 := Lib.hid (h.offB (Nat.le_refl w.heap.size))
  clear hi h hb h5 b0
  unfold refV
  go_enter Try.func41, Try.ntmps41
  go_wp2_with fail
  generalize hwa : w.alloc (.cells #[.int .i64 os, .int .i64 og] 34) = wa at *
  have ID := Lib.hid (I0.out.step (Below.refl _ _).drew)
  have MD := Lib.hid (M0.out.low (Below.refl _ _).drew)
  have RD := Lib.hid (R0.out.step (Below.refl _ _).drew)
  have KD := Lib.hid ((Kept.of_below (S := US m S b) B0.out).drew)
  have fc := fun w' h => nSwap_any w' m S l k ps L c x os og (i.rf i.sw).1 (i.rf i.sw).2 h
  unfold refV at fc
  have NR := Lib.hid (show ¬ MS m S w.heap.size from NR0.out)
  refine anyH_region (fun w' => InsAt w' b i ∧ RfB w' w.heap.size os og) (by kernel_rfl) ?_
  generalize wa.drew = wd at *
  refine wpAnyH_take (i := 0) (oi := ⟨some 12, _, _, _, _, _⟩) (v := ?vs0) rfl (by kernel_rfl) (by kernel_rfl) (by kernel_rfl) (fun _ _ _ h => h) (Or.inl ⟨by rfl, ?hys0⟩) ⟨ID.out, RD.out⟩ ?rests0
  case hys0 => (intro w hSw; have q0 := hSw.1.cSw; have q1 := hSw.2.c0; have q2 := hSw.2.c1; have q3 := hSw.1.cRf1 H5.out; have q4 := hSw.1.cRf2 H5.out; go_simp; try (with_reducible rfl))
  simp only [Act.put, List.setIfInBounds_toArray, List.set_cons_zero, List.set_cons_succ]
  refine wpAnyH_take (i := 1) (oi := ⟨some 13, _, _, _, _, _⟩) (v := ?vs1) rfl (by kernel_rfl) (by kernel_rfl) (by kernel_rfl) (fun _ _ _ h => h) (Or.inl ⟨by rfl, ?hys1⟩) ⟨ID.out, RD.out⟩ ?rests1
  case hys1 => (intro w hSw; have q0 := hSw.1.cSw; have q1 := hSw.2.c0; have q2 := hSw.2.c1; have q3 := hSw.1.cRf1 H5.out; have q4 := hSw.1.cRf2 H5.out; go_simp; try (with_reducible rfl))
  simp only [Act.put, List.setIfInBounds_toArray, List.set_cons_zero, List.set_cons_succ]
  refine wpAnyH_take (i := 2) (oi := ⟨some 14, _, _, _, _, _⟩) (v := ?vs2) rfl (by kernel_rfl) (by kernel_rfl) (by kernel_rfl) (fun _ _ _ h => h) (Or.inl ⟨by rfl, ?hys2⟩) ⟨ID.out, RD.out⟩ ?rests2
  case hys2 => (intro w hSw; have q0 := hSw.1.cSw; have q1 := hSw.2.c0; have q2 := hSw.2.c1; have q3 := hSw.1.cRf1 H5.out; have q4 := hSw.1.cRf2 H5.out; go_simp; try (with_reducible rfl))
  simp only [Act.put, List.setIfInBounds_toArray, List.set_cons_zero, List.set_cons_succ]
  refine wpAnyH_take (i := 3) (oi := ⟨some 15, _, _, _, _, _⟩) (v := ?vs3) rfl (by kernel_rfl) (by kernel_rfl) (by kernel_rfl) (fun _ _ _ h => h) (Or.inl ⟨by rfl, ?hys3⟩) ⟨ID.out, RD.out⟩ ?rests3
  case hys3 => (intro w hSw; have q0 := hSw.1.cSw; have q1 := hSw.2.c0; have q2 := hSw.2.c1; have q3 := hSw.1.cRf1 H5.out; have q4 := hSw.1.cRf2 H5.out; go_simp; try (with_reducible rfl))
  simp only [Act.put, List.setIfInBounds_toArray, List.set_cons_zero, List.set_cons_succ]
  refine wpAnyH_take (i := 4) (oi := ⟨some 16, _, _, _, _, _⟩) (v := ?vs4) rfl (by kernel_rfl) (by kernel_rfl) (by kernel_rfl) (fun _ _ _ h => h) (Or.inl ⟨by rfl, ?hys4⟩) ⟨ID.out, RD.out⟩ ?rests4
  case hys4 => (intro w hSw; have q0 := hSw.1.cSw; have q1 := hSw.2.c0; have q2 := hSw.2.c1; have q3 := hSw.1.cRf1 H5.out; have q4 := hSw.1.cRf2 H5.out; go_simp; try (with_reducible rfl))
  simp only [Act.put, List.setIfInBounds_toArray, List.set_cons_zero, List.set_cons_succ]
  refine wpAnyH_take (i := 5) (oi := ⟨some 17, _, _, _, _, _⟩) (v := ?vs5) rfl (by kernel_rfl) (by kernel_rfl) (by kernel_rfl) (fun _ _ _ h => h) (Or.inl ⟨by rfl, ?hys5⟩) ⟨ID.out, RD.out⟩ ?rests5
  case hys5 => (intro w hSw; have q0 := hSw.1.cSw; have q1 := hSw.2.c0; have q2 := hSw.2.c1; have q3 := hSw.1.cRf1 H5.out; have q4 := hSw.1.cRf2 H5.out; go_simp; try (with_reducible rfl))
  simp only [Act.put, List.setIfInBounds_toArray, List.set_cons_zero, List.set_cons_succ]
  refine wpAnyH_take (i := 6) (oi := ⟨some 18, _, _, _, _, _⟩) (v := ?vs6) rfl (by kernel_rfl) (by kernel_rfl) (by kernel_rfl) (fun _ _ _ h => h) (Or.inl ⟨by rfl, ?hys6⟩) ⟨ID.out, RD.out⟩ ?rests6
  case hys6 => (intro w hSw; have q0 := hSw.1.cSw; have q1 := hSw.2.c0; have q2 := hSw.2.c1; have q3 := hSw.1.cRf1 H5.out; have q4 := hSw.1.cRf2 H5.out; go_simp; try (with_reducible rfl))
  simp only [Act.put, List.setIfInBounds_toArray, List.set_cons_zero, List.set_cons_succ]
  refine wpAnyH_take (i := 7) (oi := ⟨some 19, _, _, _, _, _⟩) (v := ?vs7) rfl (by kernel_rfl) (by kernel_rfl) (by kernel_rfl) (fun _ _ _ h => h) (Or.inl ⟨by rfl, ?hys7⟩) ⟨ID.out, RD.out⟩ ?rests7
  case hys7 => (intro w hSw; have q0 := hSw.1.cSw; have q1 := hSw.2.c0; have q2 := hSw.2.c1; have q3 := hSw.1.cRf1 H5.out; have q4 := hSw.1.cRf2 H5.out; go_simp; try (with_reducible rfl))
  simp only [Act.put, List.setIfInBounds_toArray, List.set_cons_zero, List.set_cons_succ]
  refine wpAnyH_take (i := 8) (oi := ⟨some 20, _, _, _, _, _⟩) (v := ?vs8) rfl (by kernel_rfl) (by kernel_rfl) (by kernel_rfl) (fun _ _ _ h => h) (Or.inl ⟨by rfl, ?hys8⟩) ⟨ID.out, RD.out⟩ ?rests8
  case hys8 => (intro w hSw; have q0 := hSw.1.cSw; have q1 := hSw.2.c0; have q2 := hSw.2.c1; have q3 := hSw.1.cRf1 H5.out; have q4 := hSw.1.cRf2 H5.out; go_simp; try (with_reducible rfl))
  simp only [Act.put, List.setIfInBounds_toArray, List.set_cons_zero, List.set_cons_succ]
  refine wpAnyH_take (i := 9) (oi := ⟨some 21, _, _, _, _, _⟩) (v := ?vs9) rfl (by kernel_rfl) (by kernel_rfl) (by kernel_rfl) (fun _ _ _ h => h) (Or.inl ⟨by rfl, ?hys9⟩) ⟨ID.out, RD.out⟩ ?rests9
  case hys9 => (intro w hSw; have q0 := hSw.1.cSw; have q1 := hSw.2.c0; have q2 := hSw.2.c1; have q3 := hSw.1.cRf1 H5.out; have q4 := hSw.1.cRf2 H5.out; go_simp; try (with_reducible rfl))
  simp only [Act.put, List.setIfInBounds_toArray, List.set_cons_zero, List.set_cons_succ]
  refine wpAnyH_take (i := 10) (oi := ⟨some 22, _, _, _, _, _⟩) (v := ?vs10) rfl (by kernel_rfl) (by kernel_rfl) (by kernel_rfl) (fun _ _ _ h => h) (Or.inl ⟨by rfl, ?hys10⟩) ⟨ID.out, RD.out⟩ ?rests10
  case hys10 => (intro w hSw; have q0 := hSw.1.cSw; have q1 := hSw.2.c0; have q2 := hSw.2.c1; have q3 := hSw.1.cRf1 H5.out; have q4 := hSw.1.cRf2 H5.out; go_simp; try (with_reducible rfl))
  simp only [Act.put, List.setIfInBounds_toArray, List.set_cons_zero, List.set_cons_succ]
  refine wpAnyH_take (i := 11) (oi := ⟨some 23, _, _, _, _, _⟩) (v := ?vs11) rfl (by kernel_rfl) (by kernel_rfl) (by kernel_rfl) (fun _ _ _ h => h) (Or.inl ⟨by rfl, ?hys11⟩) ⟨ID.out, RD.out⟩ ?rests11
  case hys11 => (intro w hSw; have q0 := hSw.1.cSw; have q1 := hSw.2.c0; have q2 := hSw.2.c1; have q3 := hSw.1.cRf1 H5.out; have q4 := hSw.1.cRf2 H5.out; go_simp; try (with_reducible rfl))
  simp only [Act.put, List.setIfInBounds_toArray, List.set_cons_zero, List.set_cons_succ]
  refine anyH_one (i := 12) (o := ⟨some 24, _, _, _, _, _⟩) (by kernel_rfl) rfl (fun K hK => ?_)
  rw [if_pos (by rfl)]
  go_simp
  refine (fc _ MD.out).mono ?_
  rintro e2 w2 ⟨v, rfl, he, hM, hk⟩
  have M2 := Lib.hid hM
  have K2 := Lib.hid (KD.out.trans (US.ms (b := b) hk))
  have I2 := Lib.hid (ID.out.keep hk HB.out)
  have R2 := Lib.hid (RD.out.keep hk NR.out)
  have E2 := Lib.hid he
  clear he hM hk
  refine hK.out _ _ ⟨I2.out, R2.out⟩ ?_
  clear hK K
  try simp only [Act.put, List.setIfInBounds_toArray, List.set_cons_zero, List.set_cons_succ]
  refine wpAnyH_take (i := 13) (oi := ⟨some 11, _, _, _, _, _⟩) (v := ?vs13) rfl (by kernel_rfl) (by kernel_rfl) (by kernel_rfl) (fun _ _ _ h => h) (Or.inl ⟨by rfl, ?hys13⟩) ⟨I2.out, R2.out⟩ ?rests13
  case hys13 => (intro w hSw; have q0 := hSw.1.cSw; have q1 := hSw.2.c0; have q2 := hSw.2.c1; have q3 := hSw.1.cRf1 H5.out; have q4 := hSw.1.cRf2 H5.out; go_simp; try (with_reducible rfl))
  simp only [Act.put, List.setIfInBounds_toArray, List.set_cons_zero, List.set_cons_succ]
  refine wpAnyH_take (i := 14) (oi := ⟨some 25, _, _, _, _, _⟩) (v := ?vs14) rfl (by kernel_rfl) (by kernel_rfl) (by kernel_rfl) (fun _ _ _ h => h) (Or.inl ⟨by rfl, ?hys14⟩) ⟨I2.out, R2.out⟩ ?rests14
  case hys14 => (intro w hSw; have q0 := hSw.1.cSw; have q1 := hSw.2.c0; have q2 := hSw.2.c1; have q3 := hSw.1.cRf1 H5.out; have q4 := hSw.1.cRf2 H5.out; go_simp; try (with_reducible rfl))
  simp only [Act.put, List.setIfInBounds_toArray, List.set_cons_zero, List.set_cons_succ]
  refine wpAnyH_take (i := 15) (oi := ⟨some 26, _, _, _, _, _⟩) (v := ?vs15) rfl (by kernel_rfl) (by kernel_rfl) (by kernel_rfl) (fun _ _ _ h => h) (Or.inl ⟨by rfl, ?hys15⟩) ⟨I2.out, R2.out⟩ ?rests15
  case hys15 => (intro w hSw; have q0 := hSw.1.cSw; have q1 := hSw.2.c0; have q2 := hSw.2.c1; have q3 := hSw.1.cRf1 H5.out; have q4 := hSw.1.cRf2 H5.out; go_simp; try (with_reducible rfl))
  simp only [Act.put, List.setIfInBounds_toArray, List.set_cons_zero, List.set_cons_succ]
  refine anyH_one (i := 16) (o := ⟨some 9, _, _, _, _, _⟩) (by kernel_rfl) rfl (fun K hK => ?_)
  rw [if_pos (by rfl)]
  go_simp
  refine hK.out _ _ ⟨I2.out, R2.out⟩ ?_
  clear hK K
  try simp only [Act.put, List.setIfInBounds_toArray, List.set_cons_zero, List.set_cons_succ]
  refine anyH_one (i := 17) (o := ⟨some 10, _, _, _, _, _⟩) (by kernel_rfl) rfl (fun K hK => ?_)
  rw [if_pos (by rfl)]
  go_simp
  refine hK.out _ _ ⟨I2.out, R2.out⟩ ?_
  clear hK K
  try simp only [Act.put, List.setIfInBounds_toArray, List.set_cons_zero, List.set_cons_succ]
  refine wpAnyH_done (by kernel_rfl) ?_ _
  cases hs : swapB L x (os, og) with
  | false =>
    have HS := Lib.hid hs
    clear hs
    go_wp2_with fail
    refine (undo_any _ b i _ E2.out.erv I2.out).mono ?_
    rintro ev w3 ⟨rfl, hI, hk⟩
    have I3 := Lib.hid hI
    have M3 := Lib.hid (M2.out.off1 hk HB.out)
    have E3 := Lib.hid (E2.out.kept hk I2.out.fault)
    have K3 := Lib.hid (K2.out.trans (US.one (m := m) (S := S) hk))
    clear hI hk
    go_wp2
    go_ret
    rw [HS.out]
    exact ⟨rfl, M3.out, K3.out, .inr ⟨by trivial, _, E3.out, I3.out⟩⟩
  | true =>
    have y1 := I2.out.cSw
    have y2 := I2.out.free 97
    have hw : IntKind.i64.wrap ((i.sw : Int) + 1) = ((i.sw + 1 : Nat) : Int) := by rw [Go.IntWalk.i64_in _ (by have := H5.out; omega)]; omega
    have I4 := Lib.hid (I2.out.sSw (i.sw + 1))
    have Kc := Lib.hid ((Kept.refl (fun j => j = b) w2).setCell 97 (.int .i64 ((i.sw + 1 : Nat) : Int)))
    have M4 := Lib.hid (M2.out.off1 Kc.out HB.out)
    have K4 := Lib.hid (K2.out.trans (US.one (m := m) (S := S) Kc.out))
    have HS := Lib.hid hs
    clear hs
    go_wp2
    go_ret
    rw [HS.out]
    exact ⟨rfl, M4.out, K4.out, .inl ⟨by trivial, I4.out⟩⟩
end Go.Proofs.Ytaiaaljahnackaa
