/- Law InstallPlays: its walk. -/
import Derived.Test.YtejmdmaebkdjoaaGreatDoorPlEnd
namespace Go.Proofs.YtejmdmaebkdjoaaGreatDoor
set_option linter.unusedVariables false
set_option linter.unusedSimpArgs false
set_option maxRecDepth 100000
set_option maxHeartbeats 8000000
open Go.RowKit
theorem lawPlays (l : Lim) (v : Value) (jt : List JobT) (ta : Option Addr) (tc : Nat) (zs : List Int) (w : World) (hg : Fl.Glob w) (hv : SV lJob w v (jt.map JobT.d)) (hj : ∀ (q : Nat) (J : JobT), jt[q]? = some J → JobW w J.d J.bs J.ds J.hd) (ht : SV lU8 w (.slice ta zs.length tc) zs) (hz : ∀ z ∈ zs, 0 ≤ z ∧ z ≤ 255) :
  Calls Tryz.prog 3 #[limV l, v, .slice ta zs.length tc] w fun ev w' => ev = .returned (.bool true) ∧ Below w.heap.size w w' := by
 have B0 := Lib.hid (alloc_below0 w (limObj l))
 have G0 := Lib.hid (Fl.Glob.below (alloc_below0 w (limObj l)) hg)
 have V0 := Lib.hid (hv.below (alloc_below0 w (limObj l)))
 have U0 := Lib.hid (ht.below (alloc_below0 w (limObj l)))
 have UZ := Lib.hid hz
 have L0 := Lib.hid (LimAt.new w l)
 have J0 := Lib.hid (show ∀ (q : Nat) (J : JobT), jt[q]? = some J → JobW (w.alloc (limObj l)) J.d J.bs J.ds J.hd from fun q J h => (hj q J h).low (alloc_below0 w (limObj l)))
 have ff := Lib.hid (few12_any l v (jt.map JobT.d) (fun k => ((jt[k]?).map JobT.bs).getD []) ta zs.length tc (w.alloc (limObj l)) V0.out (fun k j h => by
  rw [List.getElem?_map] at h
  obtain ⟨J, hJ, rfl⟩ := Option.map_eq_some_iff.1 h
  rw [hJ]
  exact (J0.out k J hJ).sv))
 obtain ⟨va, vc, rfl, -, -⟩ := hv.lenform
 obtain ⟨N, hN⟩ : ∃ N, N = (jt.map JobT.d).length := ⟨_, rfl⟩
 have NN := Lib.hid (show jt.length = N by rw [hN]; simp)
 obtain ⟨tn, htn⟩ : ∃ n, n = zs.length := ⟨_, rfl⟩
 have NT := Lib.hid (show zs.length = tn from htn.symm)
 rw [← hN] at ff V0 ⊢
 rw [← htn] at ff U0 ⊢
 have x0 := L0.out.c0
 have x1 := L0.out.c1
 have x2 := L0.out.c2
 have x3 := L0.out.c3
 have x4 := L0.out.c4
 have x5 := L0.out.c5
 clear hv hj ht hz hN htn hg
 unfold limV at ff ⊢
 unfold limObj at B0 G0 V0 U0 L0 J0 ff x0 x1 x2 x3 x4 x5
 go_enter Tryz.func3, Tryz.ntmps3
 go_wp2_with fail
 refine ff.out.mono ?_
 rintro ev w1 ⟨bb, rfl, hs, hp⟩
 have B1 := Lib.hid (B0.out.trans (hs.mono B0.out.size))
 have G1 := Lib.hid (Fl.Glob.below hs G0.out)
 have P1 := Lib.hid hp
 have V1 := Lib.hid (V0.out.below hs)
 have U1 := Lib.hid (U0.out.below hs)
 have L1 := Lib.hid (L0.out.step hs)
 have J1 := Lib.hid (show ∀ (q : Nat) (J : JobT), jt[q]? = some J → JobW w1 J.d J.bs J.ds J.hd from fun q J h => (J0.out q J h).low hs)
 clear hs hp ff x0 x1 x2 x3 x4 x5 B0 G0 V0 U0 L0 J0
 cases bb with
 | false =>
  go_wp2_with fail
  refine (awakeN _).mono ?_
  rintro ev w2 ⟨rfl, hs⟩
  have B2 := Lib.hid (B1.out.trans (hs.mono B1.out.size))
  clear hs
  go_wp2
  go_ret
  exact ⟨rfl, B2.out⟩
 | true =>
  obtain ⟨f1, f2, f3, f4, f5, f6⟩ := P1.out rfl
  obtain ⟨n, hn, rfl⟩ := lim_z f3
  have NO := Lib.hid hn
  have JR := Lib.hid (show ∀ (q : Nat) (J : JobT), jt[q]? = some J → JobR w1 J.d J.bs J.ds J.hd from fun q J h => (J1.out q J h).right (by
   have h2 := f6 q J.d (by rw [List.getElem?_map, h]; rfl)
   rw [h] at h2
   exact h2))
  have F1 := Lib.hid (show N ≤ 6 ∧ tn ≤ 150 from ⟨by have := NN.out; simpa [this] using f1, f2⟩)
  have F2 := Lib.hid (show n.s ≤ 60 ∧ n.p ≤ 60 from ⟨by have h : (n.s : Int) ≤ 60 := f4; omega, by have h : (n.p : Int) ≤ 60 := f5; omega⟩)
  clear f1 f2 f3 f4 f5 f6 P1 J1
  have x0 := L1.out.c0
  have x1 := L1.out.c1
  have x2 := L1.out.c2
  have x3 := L1.out.c3
  have x4 := L1.out.c4
  have x5 := L1.out.c5
  unfold LimN.z at x0 x1 x2 x3 x4 x5
  simp only at x0 x1 x2 x3 x4 x5
  have fn := fun w => mem_new n NO.out w
  have fr := fun w => rNew_any n NO.out w
  unfold limV LimN.z at fn fr
  go_wp2_with fail
  refine (fn _).mono ?_
  rintro ev w2 ⟨m, S, rfl, hM, hF, hs⟩
  have M2 := Lib.hid hM
  have MF := Lib.hid hF
  have WB := Lib.hid hs
  have L2 := Lib.hid (L1.out.step hs)
  clear hM hF hs fn x0 x1 x2 x3 x4 x5
  have x0 := L2.out.c0
  have x1 := L2.out.c1
  have x2 := L2.out.c2
  have x3 := L2.out.c3
  have x4 := L2.out.c4
  have x5 := L2.out.c5
  unfold LimN.z at x0 x1 x2 x3 x4 x5
  simp only at x0 x1 x2 x3 x4 x5
  go_wp2_with fail
  refine (fr _).mono ?_
  rintro ev w3 ⟨pv, us, tv, ups, cv, rfl, hpo, hbr, hps, hto, hrk, hul, ⟨ca, cm, cc, rfl⟩, hs⟩
  obtain ⟨qa, qc, rfl, -, -⟩ := hpo.sv.lenform
  obtain ⟨ua, uc, rfl, -, -⟩ := hto.sv.lenform
  obtain ⟨Y, hY⟩ : ∃ Y : MX, Y = ⟨n, qa, us.length, qc, ua, ups.length, uc, (Ck.new n.t n.c).n, (Ck.new n.t n.c).l, ca, cm, cc, 0⟩ := ⟨_, rfl⟩
  have YV : memR n (.slice qa us.length qc) (.slice ua ups.length uc) (.slice ca cm cc) (Ck.new n.t n.c) = .agg Y.list.toArray := by rw [hY]; rfl
  rw [YV]
  have PO := Lib.hid (show OwnS lPut 0 w3 (.slice Y.qa Y.qn Y.qc) us by rw [hY]; exact hpo)
  have TO := Lib.hid (show OwnS lUp 0 w3 (.slice Y.ta Y.tn Y.tc) ups by rw [hY]; exact hto)
  have YL := Lib.hid (show Y.l = n ∧ Y.count = 0 by rw [hY]; exact ⟨rfl, rfl⟩)
  have BR := Lib.hid (fun w0 : World => hbr.rows (w0 := w0) hpo)
  have PS := Lib.hid hps
  have RK := Lib.hid (show RefOk ups (pgs1 n.p) ∧ ups.length ≤ 1 from ⟨hrk, hul⟩)
  have WC := Lib.hid (WB.out.trans (hs.mono WB.out.size))
  have M3 := Lib.hid (M2.out.low hs)
  clear hpo hto hbr hps hrk hul hs fr YV hY x0 x1 x2 x3 x4 x5 M2 WB L2
  go_upto_region 7 with (refine wpList_store_to rfl 43 (.tmp 9) (.tmp 40) rfl w3.heap.size 0 Y.list rfl rfl ?_ Y.info Y.one ?_; exact (MXAt.new w3 MX.zero).there; intro W4 hW4; have R4 := Lib.hid (show MXAt W4 w3.heap.size Y by rw [hW4]; exact mx_laid (MXAt.new w3 MX.zero) Y); have B4 := Lib.hid (show Below w3.heap.size w3 W4 by rw [hW4]; exact below_setCells (Nat.le_refl _) _ 0 _ (alloc_below0 _ _)); clear hW4)
  have hmk := run_makeInt N (by have := F1.out; omega)
  go_upto_region 10 with (fail)
  obtain ⟨W5, hW5⟩ : ∃ x, x = W4.alloc (.cells (lInt.flat (List.replicate N 0)).toArray 3) := ⟨_, rfl⟩
  rw [← hW5]
  have B5 := Lib.hid (show Below W4.heap.size W4 W5 by rw [hW5]; exact alloc_below0 _ _)
  obtain ⟨cz, hcz⟩ : ∃ x, x = (lInt.flat (List.replicate N 0)).toArray := ⟨_, rfl⟩
  have C5 := Lib.hid (show CtrAt W5 W4.heap.size cz by rw [hW5, hcz]; exact blk_new _ _)
  have CZ := Lib.hid (show ∀ k, k < N → cz[k]? = some (.int .i64 0) from fun k hk => by rw [hcz]; exact cz_at hk)
  have BX := Lib.hid (WC.out.trans ((B4.out.trans (B5.out.mono B4.out.size)).mono WC.out.size))
  have PL := Lib.hid (Play.start (w0 := w1) (w := W5) (n := n) (Y := Y) (rb := w3.heap.size) (cl := W4.heap.size) (cz := cz) ((M3.out.low B4.out).low B5.out) MF.out BX.out (R4.out.step B5.out) WC.out.size C5.out (Nat.le_trans WC.out.size B4.out.size) YL.out.1 YL.out.2 ((PO.out.below B4.out).below B5.out) (BR.out w1) PS.out ((TO.out.below B4.out).below B5.out) RK.out.1 (pgs1_len n.p (by have := NO.out.p1; omega)))
  have UL := Lib.hid (show us.length ≤ 1 by have h := congrArg List.length PS.out; rw [List.length_map] at h; rw [h]; decide)
  obtain ⟨rb, hrb⟩ : ∃ x, x = w3.heap.size := ⟨_, rfl⟩
  obtain ⟨cl, hcl⟩ : ∃ x, x = W4.heap.size := ⟨_, rfl⟩
  rw [← hrb, ← hcl] at PL ⊢
  clear hW5 hcz hmk PO TO BR PS R4 B4 B5 C5 M3 MF WC hrb hcl
  obtain ⟨S2, hS2⟩ : ∃ x, x = (fun k => S k ∧ OkB W5 k) := ⟨_, rfl⟩
  rw [← hS2] at PL
  clear hS2
  have PL := Lib.hid (show ∃ T, Play w1 W5 T cl rb cz m S2 Y psB (pgs1 n.p) (Ck.new n.t n.c) us ups [] [] (.slice none 0 0) (.slice none 0 0) from ⟨_, PL.out⟩)
  go_wp2_with fail
  go_loopg [10, 11, 46] N (fun g v10 v11 v46 wr => ∃ (k : Nat) (T : Nat → Prop) (xs : List PE) (ys : List DE), k + g = N ∧ v46 = .int .i64 (k : Int) ∧ xs.length = k ∧ SimAll xs ys ∧ Play w1 wr T cl rb cz m S2 Y psB (pgs1 n.p) (Ck.new n.t n.c) us ups xs ys v10 v11)
  case atStart => obtain ⟨T, h⟩ := PL.out; exact ⟨0, T, [], [], by omega, rfl, rfl, SimAll.none, h⟩
  case round =>
   obtain ⟨k, T, xs, ys, hk, rfl, hxl, hS, hP⟩ := hrel
   obtain ⟨aa, ac, rfl, -, -⟩ := hP.lay.a.lenN (n := k) (by rw [List.length_map]; exact hxl)
   obtain ⟨ba, bc, rfl, -, -⟩ := hP.lay.b.lenN (n := k) (by rw [List.length_map, hS.1]; exact hxl)
   have K1 := Lib.hid hk
   have XL := Lib.hid hxl
   have SM := Lib.hid hS
   have PA := Lib.hid hP
   have GW := Lib.hid hP.P.below
   have i46 : IntKind.i64.wrap ((k : Int) + 1) = (k : Int) + 1 := Go.IntWalk.i64_in _ (by have := F1.out; omega)
   clear hk hxl hS hP PL
   by_cases hlt : k < N
   ·as_aux_lemma =>
     have VA := Lib.hid (V1.out.below GW.out)
     obtain ⟨b, off, hva⟩ := VA.out.addr (by have := NN.out; rw [List.length_map]; omega)
     subst hva
     obtain ⟨J, hJ⟩ : ∃ J, jt[k]? = some J := ⟨_, List.getElem?_eq_getElem (by have := NN.out; omega)⟩
     have JJ := Lib.hid hJ
     obtain ⟨cs, hcs⟩ : ∃ cs, cs = J.d.cells := ⟨_, rfl⟩
     have RG := Lib.hid (show wr.rangeAt b (off + k * 21) cs from fun j v hj => VA.out.cellAt (j := j) (show (jt.map JobT.d)[k]? = some J.d by rw [List.getElem?_map, hJ]; rfl) (by rw [hcs] at hj; exact hj))
     have CO := Lib.hid (show cs.toArray.all (fun x => x.oneCell') = true from hcs ▸ all_oneCell_toArray J.d.cells_one)
     have CL := Lib.hid (show cs.length = 21 from hcs ▸ rfl)
     have JI := Lib.hid (show (Tryz.prog.info? 57).map (·.size) = some cs.length from CL.out ▸ jobInfo21)
     have TZ := Lib.hid (show ∀ o, o = Obj.cells (zeroJob).toArray 57 (0, 0) → (wr.alloc o).there wr.heap.size 0 cs.length ∧ ((wr.alloc o).setCells wr.heap.size 0 cs).heap[wr.heap.size]? = some (.cells cs.toArray 57 (0, 0)) from fun o e => by
                                   subst e
                                   exact ⟨by rw [CL.out]; exact n_there_new wr _ _, list_laid cs (blk_new wr _) (by rw [CL.out]; rfl)⟩)
     have BZ := Lib.hid (show ∀ o, Below wr.heap.size wr ((wr.alloc o).setCells wr.heap.size 0 cs) from fun o => below_setCells (Nat.le_refl _) cs 0 _ (alloc_below0 wr o))
     have FJ := Lib.hid (fun w => job_any J.d cl k w)
     have FB := Lib.hid (fun w => rBegin_any J.d w)
     have FG := Lib.hid (fun jb cb w hj hc => begin_pl J.d J.ds J.hd jb cb cl k w hj hc)
     rw [← hcs] at FJ FB FG
     clear hJ hcs
     go_upto_region 13 with (first
      | (refine wpList_load_mid rfl 57 (.tmp 49) rfl b (off + k * 21) rfl cs _ ?_ Tryz.underlying57 rfl JI.out ?_; exact RG.out)
      | (refine wpList_store_to rfl 57 (.tmp 14) (.tmp 50) rfl wr.heap.size 0 cs rfl rfl ?_ JI.out CO.out ?_
         ·exact (TZ.out _ rfl).1
         intro WJ hWJ
         have LJ := Lib.hid (show WJ.heap[wr.heap.size]? = some (.cells cs.toArray 57 (0, 0)) by rw [hWJ]; exact (TZ.out _ rfl).2)
         have BJ := Lib.hid (show Below wr.heap.size wr WJ by rw [hWJ]; exact BZ.out _)
         clear hWJ))
     try simp only [Act.put]
     have SJ := Lib.hid (blk_step LJ.out (Below.refl _ WJ).drew)
     have BD := Lib.hid (BJ.out.drew)
     have PD := Lib.hid (PA.out.low BD.out)
     obtain ⟨jv, hjv⟩ : ∃ x, x = wr.heap.size := ⟨_, rfl⟩
     rw [← hjv] at SJ ⊢
     have j1 : (k : Int) < (N : Int) := by omega
     have j2 : (0 : Int) ≤ (k : Int) := by omega
     clear TZ BZ RG CO LJ BJ VA PA
     refine anyH_region (fun w' : World => w'.heap[jv]? = some (.cells cs.toArray 57 (0, 0))) (by kernel_rfl) ?_
     generalize WJ.drew = wd at *
     refine tkH (i := 0) (oi := ⟨some 51, _, _, _, _, _⟩) (v := ?vd0) rfl (Or.inl ⟨by rfl, ?hyd0⟩) SJ.out ?restd0
     case hyd0 => (intro w hSw; go_simp; try (with_reducible rfl))
     simp only [Act.put, sT, sZ, sS]
     refine tkH (i := 1) (oi := ⟨some 52, _, _, _, _, _⟩) (v := .agg cs.toArray) rfl (yieldsIf_load_mid (by rfl) 57 (.tmp 14) rfl jv 0 rfl cs _ (fun w h => blk_rng h) Tryz.underlying57 rfl JI.out) SJ.out ?restd1
     simp only [Act.put, sT, sZ, sS]
     refine tkH (i := 2) (oi := ⟨some 53, _, _, _, _, _⟩) (v := ?vd2) rfl (Or.inl ⟨by rfl, ?hyd2⟩) SJ.out ?restd2
     case hyd2 => (intro w hSw; go_simp; try (with_reducible rfl))
     simp only [Act.put, sT, sZ, sS]
     refine tkH (i := 3) (oi := ⟨some 54, _, _, _, _, _⟩) (v := ?vd3) rfl (Or.inl ⟨by rfl, ?hyd3⟩) SJ.out ?restd3
     case hyd3 => (intro w hSw; go_simp; try (with_reducible rfl))
     simp only [Act.put, sT, sZ, sS]
     refine tkH (i := 4) (oi := ⟨some 55, _, _, _, _, _⟩) (v := ?vd4) rfl (Or.inl ⟨by rfl, ?hyd4⟩) SJ.out ?restd4
     case hyd4 => (intro w hSw; have q0 := j1; have q1 := j2; go_simp; try (with_reducible rfl))
     simp only [Act.put, sT, sZ, sS]
     refine tkH (i := 9) (oi := ⟨some 60, _, _, _, _, _⟩) (v := ?vd9) rfl (Or.inl ⟨by rfl, ?hyd9⟩) SJ.out ?restd9
     case hyd9 => (intro w hSw; go_simp; try (with_reducible rfl))
     simp only [Act.put, sT, sZ, sS]
     refine tkH (i := 10) (oi := ⟨some 61, _, _, _, _, _⟩) (v := .agg cs.toArray) rfl (yieldsIf_load_mid (by rfl) 57 (.tmp 14) rfl jv 0 rfl cs _ (fun w h => blk_rng h) Tryz.underlying57 rfl JI.out) SJ.out ?restd10
     simp only [Act.put, sT, sZ, sS]
     refine anyH_one (i := 5) (o := ⟨some 56, _, _, _, _, _⟩) (by kernel_rfl) rfl (fun K hK => ?_)
     rw [if_pos (by rfl)]
     go_simp
     refine (FJ.out _).mono ?_
     rintro ev w6 ⟨rfl, hj1, hj2, hs⟩
     have C6 := Lib.hid hj1
     have D6 := Lib.hid hj2
     have H6 := Lib.hid hs
     have S6 := Lib.hid (blk_step SJ.out hs)
     have Z6 := Lib.hid (Array.getElem?_eq_some_iff.1 hj2).1
     obtain ⟨jb, hjb⟩ : ∃ x, x = wd.heap.size := ⟨_, rfl⟩
     rw [← hjb] at C6 D6 Z6 ⊢
     have JB := Lib.hid hjb
     clear hj1 hj2 hs hjb
     refine hK.out _ _ S6.out ?_
     clear hK K
     try simp only [Act.put, sT, sZ, sS]
     refine anyH_one (i := 6) (o := ⟨some 57, _, _, _, _, _⟩) (by kernel_rfl) rfl (fun K hK => ?_)
     rw [if_pos (by rfl)]
     go_simp
     refine (FG.out jb (jb + 1) w6 C6.out D6.out).mono ?_
     rintro ev w7 ⟨bn, i, e, rfl, h1, h2, hs, hsm, her, hen, hdn, hA⟩
     have Z7 := Lib.hid (show w6.heap.size ≤ bn ∧ bn < w7.heap.size from ⟨h1, h2⟩)
     have H7 := Lib.hid hs
     have S7 := Lib.hid (blk_step S6.out hs)
     have SI := Lib.hid hsm
     have ER := Lib.hid her
     have EN := Lib.hid hen
     have DN := Lib.hid hdn
     have AI := Lib.hid hA
     clear h1 h2 hs hsm her hen hdn hA
     refine hK.out _ _ S7.out ?_
     clear hK K
     try simp only [Act.put, sT, sZ, sS]
     refine anyH_one (i := 7) (o := ⟨some 58, _, _, _, _, _⟩) (by kernel_rfl) rfl (fun K hK => ?_)
     rw [if_pos (by rfl)]
     go_simp
     generalize hw8 : World.alloc w7 _ = w8
     have H8 := Lib.hid (show Below w7.heap.size w7 w8 by rw [← hw8]; exact alloc_below0 _ _)
     have S8 := Lib.hid (blk_step S7.out H8.out)
     have P8 := Lib.hid (show OwnS lPtr 0 w8 (.slice (some ⟨w7.heap.size, 0, none⟩) 1 1) [bn] by rw [← hw8]; exact OwnS.lit lPtr 0 w7 w7.heap.size rfl [bn] (Nat.zero_le _) (by unfold maxLen; simp))
     have BB := Lib.hid (show Below wd.heap.size wd w8 from (H6.out.trans (H7.out.mono H6.out.size)).trans (H8.out.mono (Nat.le_trans H6.out.size H7.out.size)))
     clear hw8
     have O8 := Lib.hid (PD.out.lay.a.below BB.out)
     have Q8 := Lib.hid (show w1.heap.size ≤ w8.heap.size from Nat.le_trans (Nat.le_trans GW.out.size BD.out.size) BB.out.size)
     refine hK.out _ _ S8.out ?_
     clear hK K
     try simp only [Act.put, sT, sZ, sS]
     refine anyH_one (i := 8) (o := ⟨some 59, _, _, _, _, _⟩) (by kernel_rfl) rfl (fun K hK => ?_)
     rw [if_pos (by rfl)]
     refine wp_appL lPtr 45 Tryz.underlying45 lPtr_known (by decide) (by decide) (.tmp 51) (.tmp 58) rfl w1.heap.size rfl rfl O8.out P8.out.sv (by have h3 := F1.out.1; have h4 := hlt; have h5 := XL.out; rw [List.length_map]; simp; omega) Q8.out ?_
     intro v9 w9 ho hg hl
     have O9 := Lib.hid ho
     have K9 := Lib.hid hg
     have L9 := Lib.hid hl
     clear ho hg hl
     have A8 := AI.out (fun y => T y ∨ y = bn) (fun q => q.elim (fun q => by have h3 := (PD.out.P.tin _ q).2; have h4 := JB.out; omega) (fun e => by have h3 := Z6.out; have h4 := Z7.out; omega)) (fun q => q.elim (fun q => by have h3 := (PD.out.P.tin _ q).2; have h4 := JB.out; omega) (fun e => by have h3 := Z6.out; have h4 := Z7.out; omega))
     have E8 := Lib.hid (show PEAt w1 w8 (fun y => T y ∨ y = bn) cl xs.length cz ⟨bn, jb, jb + 1, i, J.d, J.bs, J.ds, J.hd, e⟩ from ⟨by rw [XL.out]; exact A8.moveK (K := fun _ => False) (Kept.of_below H8.out) (fun _ q => q.elim) (fun _ q => .inl q) (fun q => q), JR.out k J JJ.out, ER.out w8, EN.out, .inr rfl, ⟨0, by rw [XL.out]; exact CZ.out k hlt, by decide, fun _ => rfl⟩, fun q => by have q2 : i.dn = true := q; rw [DN.out] at q2; cases q2⟩)
     have P9 := Lib.hid (PD.out.addA (x := ⟨bn, jb, jb + 1, i, J.d, J.bs, J.ds, J.hd, e⟩) BB.out (by have h3 := H6.out.size; have h4 := Z7.out; show wd.heap.size ≤ bn; omega) E8.out O9.out K9.out L9.out)
     have S9 := Lib.hid (show w9.heap[jv]? = some (.cells cs.toArray 57 (0, 0)) from (K9.out.block _ (Array.getElem?_eq_some_iff.1 S8.out).1 (fun e => by obtain ⟨cs', h1⟩ := own_blk O8.out e.symm; exact blk_ne h1 S8.out (by decide) rfl)).trans S8.out)
     obtain ⟨T9, hT9⟩ : ∃ x, x = (fun y => (T y ∨ y = bn) ∨ some y = v9.ownBlock) := ⟨_, rfl⟩
     rw [← hT9] at P9
     clear hT9 A8 E8 O8 K9 L9 AI ER EN C6 D6 PD P8
     refine hK.out _ _ S9.out ?_
     clear hK K
     try simp only [Act.put, sT, sZ, sS]
     refine anyH_one (i := 11) (o := ⟨some 62, _, _, _, _, _⟩) (by kernel_rfl) rfl (fun K hK => ?_)
     rw [if_pos (by rfl)]
     go_simp
     refine (FB.out _).mono ?_
     rintro ev w10 ⟨rfl, hs⟩
     have H10 := Lib.hid hs
     have S10 := Lib.hid (blk_step S9.out hs)
     clear hs
     obtain ⟨X0, hX0⟩ : ∃ x, x = DX0 J.d := ⟨_, rfl⟩
     rw [← hX0]
     have XV := Lib.hid hX0
     clear hX0
     refine hK.out _ _ S10.out ?_
     clear hK K
     try simp only [Act.put, sT, sZ, sS]
     refine anyH_one (i := 12) (o := ⟨some 63, _, _, _, _, _⟩) (by kernel_rfl) rfl (fun K hK => ?_)
     rw [if_pos (by rfl)]
     refine wp_buildDX (.tmp 62) rfl X0 rfl ?_
     generalize hw11 : World.alloc w10 _ = w11
     have H11 := Lib.hid (show Below w10.heap.size w10 w11 by rw [← hw11]; exact alloc_below0 _ _)
     have S11 := Lib.hid (blk_step S10.out H11.out)
     have P11 := Lib.hid (show OwnS lDX 0 w11 (.slice (some ⟨w10.heap.size, 0, none⟩) 1 1) [X0] by rw [← hw11]; have h := OwnS.lit lDX 0 w10 w10.heap.size rfl [X0] (Nat.zero_le _) (by unfold maxLen; simp); rw [show lDX.flat [X0] = X0.list from List.append_nil _] at h; exact h)
     have BC := Lib.hid (show Below w9.heap.size w9 w11 from H10.out.trans (H11.out.mono H10.out.size))
     clear hw11
     have O11 := Lib.hid (P9.out.lay.b.below BC.out)
     have Q11 := Lib.hid (show w1.heap.size ≤ w11.heap.size from Nat.le_trans P9.out.P.below.size BC.out.size)
     refine hK.out _ _ S11.out ?_
     clear hK K
     try simp only [Act.put, sT, sZ, sS]
     refine anyH_one (i := 13) (o := ⟨some 64, _, _, _, _, _⟩) (by kernel_rfl) rfl (fun K hK => ?_)
     rw [if_pos (by rfl)]
     refine wp_appL lDX 46 Tryz.underlying46 lDX_known (by decide) (by decide) (.tmp 60) (.tmp 63) rfl w1.heap.size rfl rfl O11.out P11.out.sv (by have h3 := F1.out.1; have h4 := hlt; have h5 := XL.out; have h6 := SM.out.1; rw [List.length_map]; simp; omega) Q11.out ?_
     intro v12 w12 ho hg hl
     have O12 := Lib.hid ho
     have K12 := Lib.hid hg
     have L12 := Lib.hid hl
     clear ho hg hl
     have P12 := Lib.hid (P9.out.addB (y := ⟨DX0 J.d, DI0 J.d⟩) BC.out (fun w T => DocI.at0 w T J.d) (by rw [← XV.out]; exact O12.out) K12.out L12.out)
     have S12 := Lib.hid (show w12.heap[jv]? = some (.cells cs.toArray 57 (0, 0)) from (K12.out.block _ (Array.getElem?_eq_some_iff.1 S11.out).1 (fun e => by obtain ⟨cs', h1⟩ := own_blk O11.out e.symm; exact blk_ne h1 S11.out (by decide) rfl)).trans S11.out)
     obtain ⟨T12, hT12⟩ : ∃ x, x = (fun y => T9 y ∨ some y = v12.ownBlock) := ⟨_, rfl⟩
     rw [← hT12] at P12
     clear hT12 O11 O12 K12 L12 P11 P9
     refine hK.out _ _ S12.out ?_
     clear hK K
     try simp only [Act.put, sT, sZ, sS]
     refine anyH_one (i := 14) (o := ⟨some 10, _, _, _, _, _⟩) (by kernel_rfl) rfl (fun K hK => ?_)
     rw [if_pos (by rfl)]
     go_simp
     refine hK.out _ _ S12.out ?_
     clear hK K
     try simp only [Act.put, sT, sZ, sS]
     refine anyH_one (i := 15) (o := ⟨some 11, _, _, _, _, _⟩) (by kernel_rfl) rfl (fun K hK => ?_)
     rw [if_pos (by rfl)]
     go_simp
     refine hK.out _ _ S12.out ?_
     clear hK K
     try simp only [Act.put, sT, sZ, sS]
     refine wpAnyH_done (by kernel_rfl) ?_ _
     go_wp2_with fail
     go_roundg (N - (k + 1))
     case measure => have := K1.out; omega
     case rel => exact ⟨k + 1, T12, xs ++ [⟨bn, jb, jb + 1, i, J.d, J.bs, J.ds, J.hd, e⟩], ys ++ [⟨DX0 J.d, DI0 J.d⟩], by omega, by go_num, by rw [List.length_append, XL.out]; rfl, SM.out.join SI.out (DX0_d J.d), P12.out⟩
   ·have hkN : k = N := by have := K1.out; omega
    subst hkN
    clear i46 hlt
    by_cases hk0 : k = 0
    ·as_aux_lemma =>
      subst hk0
      have GW := Lib.hid (show Below w1.heap.size w1 wr from PA.out.P.below)
      clear PA SM XL
      go_wp2_with fail
      go_loopg [68] tn (fun g v68 wx => ∃ q : Nat, q + g = tn ∧ v68 = .int .i64 (q : Int) ∧ Below w1.heap.size w1 wx)
      case atStart => exact ⟨0, by omega, rfl, GW.out⟩
      case round =>
       obtain ⟨wx, hwx⟩ : ∃ x, x = wr := ⟨_, rfl⟩
       subst hwx
       obtain ⟨q, hq, rfl, hB⟩ := hrel
       have Q1 := Lib.hid hq
       have BE := Lib.hid hB
       clear hq hB
       by_cases hlt : q < tn
       ·have UA := Lib.hid (U1.out.below BE.out)
        obtain ⟨b, off, hta⟩ := UA.out.addr (by have := NT.out; omega)
        subst hta
        obtain ⟨z, hz⟩ : ∃ z, zs[q]? = some z := ⟨_, List.getElem?_eq_getElem (by have := NT.out; omega)⟩
        have y0 : wx.cell? ⟨b, off + q, none⟩ = some (.int .u8 z) := by have := UA.out.cellAt (j := 0) hz rfl; simpa [lU8] using this
        clear hz UA
        go_wp2_with fail
        go_loopg [114] 0 (fun g v114 wy => v114 = .int .i64 0 ∧ Below w1.heap.size w1 wy)
        case atStart => exact ⟨rfl, BE.out⟩
        case round =>
         obtain ⟨rfl, hB⟩ := hrel
         have BF := Lib.hid hB
         clear hB
         go_wp2_with fail
         refine (awakeN _).mono ?_
         rintro ev w9 ⟨rfl, hs⟩
         have BG := Lib.hid (B1.out.trans ((BF.out.trans (hs.mono BF.out.size)).mono B1.out.size))
         clear hs
         go_wp2
         go_ret
         exact ⟨rfl, BG.out⟩
       ·have hqe : q = tn := by have := Q1.out; omega
        subst hqe
        go_wp2_with fail
        go_loopg [114] 0 (fun g v114 wy => v114 = .int .i64 0 ∧ Below w1.heap.size w1 wy)
        case atStart => exact ⟨rfl, BE.out⟩
        case round =>
         obtain ⟨rfl, hB⟩ := hrel
         have BF := Lib.hid hB
         clear hB
         go_wp2_with fail
         refine (awakeN _).mono ?_
         rintro ev w9 ⟨rfl, hs⟩
         have BG := Lib.hid (B1.out.trans ((BF.out.trans (hs.mono BF.out.size)).mono B1.out.size))
         clear hs
         go_wp2
         go_ret
         exact ⟨rfl, BG.out⟩
    ·have PB := Lib.hid (show ∃ T, Play w1 wr T cl rb cz m S2 Y psB (pgs1 n.p) (Ck.new n.t n.c) us ups xs ys (.slice aa k ac) (.slice ba k bc) from ⟨T, PA.out⟩)
     go_wp2_with fail
     go_loopg [68] tn (fun g v68 wx => ∃ (q : Nat) (T : Nat → Prop) (cz : Array Value) (S : Nat → Prop) (Y : MX) (ps : List Pt) (L : List Pg) (us : List PuD) (ups : List Up) (xs : List PE) (ys : List DE), q + g = tn ∧ v68 = .int .i64 (q : Int) ∧ xs.length = k ∧ SimAll xs ys ∧ Y.l = n ∧ us.length ≤ q + 1 ∧ ups.length ≤ q + 1 ∧ Play w1 wx T cl rb cz m S Y ps L (Ck.new n.t n.c) us ups xs ys (.slice aa k ac) (.slice ba k bc))
     case atStart => obtain ⟨T, h⟩ := PB.out; exact ⟨0, T, cz, S2, Y, _, _, us, ups, xs, ys, by omega, rfl, XL.out, SM.out, YL.out.1, by have := UL.out; omega, by have := RK.out.2; omega, h⟩
     case round =>
      obtain ⟨wx, hwx⟩ : ∃ x, x = wr := ⟨_, rfl⟩
      subst hwx
      clear PB PL PA XL SM YL UL RK CZ GW
      obtain ⟨q, T, cz, S, Y, ps, L, us, ups, xs, ys, hq, rfl, hxl, hS, hY, hu1, hu2, hP⟩ := hrel
      have Q1 := Lib.hid hq
      have XL := Lib.hid hxl
      have SM := Lib.hid hS
      have YL := Lib.hid hY
      have UL := Lib.hid (show us.length ≤ q + 1 ∧ ups.length ≤ q + 1 from ⟨hu1, hu2⟩)
      have PA := Lib.hid hP
      have GW := Lib.hid hP.P.below
      have i68 : IntKind.i64.wrap ((q : Int) + 1) = (q : Int) + 1 := Go.IntWalk.i64_in _ (by have := F1.out; omega)
      clear hq hxl hS hY hu1 hu2 hP
      by_cases hlt : q < tn
      ·as_aux_lemma =>
        have UA := Lib.hid (U1.out.below GW.out)
        obtain ⟨b, off, hta⟩ := UA.out.addr (by have := NT.out; omega)
        subst hta
        obtain ⟨z, hz⟩ : ∃ z, zs[q]? = some z := ⟨_, List.getElem?_eq_getElem (by have := NT.out; omega)⟩
        obtain ⟨z0, z1⟩ := UZ.out z (List.mem_of_getElem? hz)
        have y0 : wx.cell? ⟨b, off + q, none⟩ = some (.int .u8 z) := by have := UA.out.cellAt (j := 0) hz rfl; simpa [lU8] using this
        obtain ⟨j, hj, hjk⟩ : ∃ j : Nat, z % (k : Int) = (j : Int) ∧ j < k := ⟨(z % (k : Int)).toNat, by have := Int.emod_nonneg z (b := (k : Int)) (by omega); omega, by have := Int.emod_lt_of_pos z (b := (k : Int)) (by omega); have := Int.emod_nonneg z (b := (k : Int)) (by omega); omega⟩
        obtain ⟨x, hx⟩ : ∃ x, xs[j]? = some x := ⟨_, List.getElem?_eq_getElem (by rw [XL.out]; exact hjk)⟩
        obtain ⟨y, hy⟩ : ∃ x, ys[j]? = some x := ⟨_, List.getElem?_eq_getElem (by rw [SM.out.1, XL.out]; exact hjk)⟩
        have XJ := Lib.hid hx
        have YJ := Lib.hid hy
        obtain ⟨hsim, hyd⟩ := SM.out.2 j x y hx hy
        have SI := Lib.hid hsim
        have YD := Lib.hid hyd
        have hxb : (xs.map PE.b)[j]? = some x.b := by rw [List.getElem?_map, hx]; rfl
        have hyX : (ys.map DE.X)[j]? = some y.X := by rw [List.getElem?_map, hy]; rfl
        obtain ⟨ga, hga⟩ := PA.out.lay.a.addrN (by omega)
        obtain ⟨gb, hgb⟩ := PA.out.lay.b.addrN (by omega)
        subst hga hgb
        have y1 : wx.cell? ⟨ga, j, none⟩ = some (.pointer (some ⟨x.b, 0, none⟩)) := by have := PA.out.lay.a.sv.cellAt (j := 0) hxb rfl; simpa [lPtr] using this
        have fs := Lib.hid (PA.out.P.step XJ.out SI.out)
        have PX := Lib.hid (PA.out.P.each j x XJ.out)
        clear hz UA hx hy hsim hyd hxb hyX
        go_wp2_with fail
        refine fs.out.mono ?_
        rintro ev w5 ⟨T1, S1, cz1, x1, rfl, hb, hd, hds, hhd, hbs, hs1, hP1, hk1, hup, hnew, hpv⟩
        have HX := Lib.hid (show x1.b = x.b ∧ x1.d = x.d ∧ x1.ds = x.ds ∧ x1.hd = x.hd from ⟨hb, hd, hds, hhd⟩)
        have S1' := Lib.hid hs1
        have P1 := Lib.hid hP1
        have D1 := Lib.hid (PA.out.D.grow (T' := T1) hk1 (fun _ q => q) hnew (fun y q => (hP1.tin y q).2))
        have L1 := Lib.hid (show Lay3 w1 w5 T1 rb Y _ _ ((xs.set j x1).map PE.b) (ys.map DE.X) from by rw [List.map_set, hb, set_self (by rw [List.getElem?_map, XJ.out]; rfl)]; exact PA.out.lay.pv hk1 hpv hup)
        clear hb hd hds hhd hbs hs1 hP1 hk1 hup hnew hpv fs y0 y1 z0 z1
        rw [hj]
        clear hj
        obtain ⟨R, hR⟩ : ∃ R, R = y.D.step Y.l x.d x.ds x.hd ps L := ⟨_, rfl⟩
        rw [← hR] at S1' P1 ⊢
        have BD := Lib.hid (Below.refl w5.heap.size w5).drew
        have P2 := Lib.hid (P1.out.low BD.out)
        have D2 := Lib.hid (D1.low BD.out)
        have L2 := Lib.hid (L1.low BD.out)
        have hyX : (ys.map DE.X)[j]? = some y.X := by rw [List.getElem?_map, YJ.out]; rfl
        have RGB := Lib.hid (show w5.drew.rangeAt gb (j * 29) y.X.list by have h := L2.out.b.sv.range hyX; rw [Nat.zero_add] at h; exact h)
        have SR := Lib.hid (show w5.drew.rangeAt gb (j * 29) y.X.list ∧ w5.drew.rangeAt rb 0 Y.list from ⟨RGB.out, L2.out.r.rng⟩)
        have OKL := Lib.hid (show Y.l.ok by rw [YL.out]; exact NO.out)
        have fd := Lib.hid (show Calls Tryz.prog 12 #[y.X.val, Y.val] w5.drew (DocQ w1 w5.drew T1 Y us ups ys j y R y.D.over) by have h := D2.out.step YJ.out (bs := x.bs) (ds := x.ds) (hd := x.hd) (i := x.i) (e := x.e) (by rw [YD.out]; exact PX.out.jr) PX.out.ag.sh (by rw [YD.out]; exact SI.out) (by have := UL.out.1; have := F1.out; omega) (by have := UL.out.2; have := F1.out; omega) OKL.out; rw [YD.out, ← hR] at h; exact h)
        clear hyX RGB hR L1 D1 P1 BD
        have j1 : (j : Int) < (k : Int) := by omega
        have j2 : (0 : Int) ≤ (j : Int) := by omega
        go_upto_region 21 with (fail)
        try simp only [Act.put]
        refine AnyL.region (fun w' : World => w'.rangeAt gb (j * 29) y.X.list ∧ w'.rangeAt rb 0 Y.list) 7 (by kernel_rfl) ?_
        generalize w5.drew = wd at *
        refine AnyL.takeN (i := 0) (oi := ⟨some 87, _, _, _, _, _⟩) (v := ?ve0) rfl (by kernel_rfl) (by kernel_rfl) (by kernel_rfl) (by decide) (fun _ _ _ h => h) (Or.inl ⟨by rfl, ?hye0⟩) SR.out ?reste0
        case hye0 => (intro w hSw; go_simp; try (with_reducible rfl))
        simp only [Act.put, sT, sZ, sS]
        refine AnyL.takeN (i := 1) (oi := ⟨some 88, _, _, _, _, _⟩) (v := ?ve1) rfl (by kernel_rfl) (by kernel_rfl) (by kernel_rfl) (by decide) (fun _ _ _ h => h) (Or.inl ⟨by rfl, ?hye1⟩) SR.out ?reste1
        case hye1 => (intro w hSw; go_simp; try (with_reducible rfl))
        simp only [Act.put, sT, sZ, sS]
        refine AnyL.takeP [5, 4] (i := 2) (oi := ⟨some 89, _, _, _, _, _⟩) (v := ?ve2) rfl (by kernel_rfl) (by kernel_rfl) (by kernel_rfl) (by kernel_rfl) (by kernel_rfl) (by kernel_rfl) (fun _ _ _ h => h) (Or.inl ⟨by rfl, ?hye2⟩) SR.out ?reste2
        case hye2 => (intro w hSw; go_simp; try (with_reducible rfl))
        simp only [Act.put, sT, sZ, sS]
        refine AnyL.takeP [5, 4] (i := 3) (oi := ⟨some 90, _, _, _, _, _⟩) (v := ?ve3) rfl (by kernel_rfl) (by kernel_rfl) (by kernel_rfl) (by kernel_rfl) (by kernel_rfl) (by kernel_rfl) (fun _ _ _ h => h) (Or.inl ⟨by rfl, ?hye3⟩) SR.out ?reste3
        case hye3 => (intro w hSw; go_simp; try (with_reducible rfl))
        simp only [Act.put, sT, sZ, sS]
        refine AnyL.takeP [5] (i := 4) (oi := ⟨some 91, _, _, _, _, _⟩) (v := ?ve4) rfl (by kernel_rfl) (by kernel_rfl) (by kernel_rfl) (by kernel_rfl) (by kernel_rfl) (by kernel_rfl) (fun _ _ _ h => h) (Or.inl ⟨by rfl, ?hye4⟩) SR.out ?reste4
        case hye4 => (intro w hSw; have q0 := j1; have q1 := j2; go_simp; try (with_reducible rfl))
        simp only [Act.put, sT, sZ, sS]
        refine AnyL.takeP [] (i := 5) (oi := ⟨some 92, _, _, _, _, _⟩) (v := .agg y.X.list.toArray) rfl (by kernel_rfl) (by kernel_rfl) (by kernel_rfl) (by kernel_rfl) (by kernel_rfl) (by kernel_rfl) (fun _ _ _ h => h) (yieldsIf_load_mid (by rfl) 68 (.tmp 91) rfl gb (j * 29) rfl y.X.list _ (fun w h => h.1) Tryz.underlying68 rfl y.X.info) SR.out ?reste5
        simp only [Act.put, sT, sZ, sS]
        refine AnyL.takeP [] (i := 6) (oi := ⟨some 93, _, _, _, _, _⟩) (v := .agg Y.list.toArray) rfl (by kernel_rfl) (by kernel_rfl) (by kernel_rfl) (by kernel_rfl) (by kernel_rfl) (by kernel_rfl) (fun _ _ _ h => h) (yieldsIf_load_mid (by rfl) 43 (.tmp 9) rfl rb 0 rfl Y.list _ (fun w h => h.2) Tryz.underlying43 rfl Y.info) SR.out ?reste6
        simp only [Act.put, sT, sZ, sS]
        refine AnyL.one (i := 7) (o := ⟨some 94, _, _, _, _, _⟩) (by kernel_rfl) rfl (fun K hK => ?_)
        rw [if_pos (by rfl)]
        go_simp
        refine fd.out.mono ?_
        rintro ev w6 ⟨X', Y', us', ups', rfl, hXd, hYl, hYc, hD, hu1, hu2, hs⟩
        have P6 := Lib.hid (show ProgB w1 w6 T1 cl cz1 m S1 Y'.l Y'.count R.2.1 R.2.2 (Ck.new n.t n.c) (xs.set j x1) by rw [hYl, hYc]; exact P2.out.low hs)
        have L6 := Lib.hid (L2.out.low hs)
        have D6 := Lib.hid hD
        have XD := Lib.hid (show X'.d = x.d from hXd.trans YD.out)
        have YL6 := Lib.hid (show Y'.l = n from hYl.trans YL.out)
        have U6 := Lib.hid (show us'.length ≤ q + 1 + 1 ∧ ups'.length ≤ q + 1 + 1 from ⟨by have := UL.out.1; omega, by have := UL.out.2; omega⟩)
        have G6 := Lib.hid (L6.out.thereB hjk X')
        clear hXd hYl hYc hD hu1 hu2 hs fd SR P2 D2 L2
        refine hK.out _ _ (fun h => absurd rfl h.1) ?_
        clear hK K
        try simp only [Act.put, sT, sZ, sS]
        refine AnyL.takeT (i := 8) (oi := ⟨some 86, _, _, _, _, _⟩) (v := ?ve8) rfl (by kernel_rfl) (by kernel_rfl) (by kernel_rfl) (by kernel_rfl) (fun _ _ _ h => h) (Or.inl ⟨by rfl, ?hye8⟩) ?reste8
        case hye8 => (intro w hSw; go_simp; try (with_reducible rfl))
        simp only [Act.put, sT, sZ, sS]
        refine AnyL.takeT (i := 9) (oi := ⟨some 95, _, _, _, _, _⟩) (v := ?ve9) rfl (by kernel_rfl) (by kernel_rfl) (by kernel_rfl) (by kernel_rfl) (fun _ _ _ h => h) (Or.inl ⟨by rfl, ?hye9⟩) ?reste9
        case hye9 => (intro w hSw; go_simp; try (with_reducible rfl))
        simp only [Act.put, sT, sZ, sS]
        refine AnyL.takeT (i := 10) (oi := ⟨some 96, _, _, _, _, _⟩) (v := ?ve10) rfl (by kernel_rfl) (by kernel_rfl) (by kernel_rfl) (by kernel_rfl) (fun _ _ _ h => h) (Or.inl ⟨by rfl, ?hye10⟩) ?reste10
        case hye10 => (intro w hSw; go_simp; try (with_reducible rfl))
        simp only [Act.put, sT, sZ, sS]
        refine AnyL.takeT (i := 11) (oi := ⟨some 97, _, _, _, _, _⟩) (v := ?ve11) rfl (by kernel_rfl) (by kernel_rfl) (by kernel_rfl) (by kernel_rfl) (fun _ _ _ h => h) (Or.inl ⟨by rfl, ?hye11⟩) ?reste11
        case hye11 => (intro w hSw; have q0 := j1; have q1 := j2; go_simp; try (with_reducible rfl))
        simp only [Act.put, sT, sZ, sS]
        refine AnyL.one (i := 12) (o := ⟨none, _, _, _, _, _⟩) (by kernel_rfl) rfl (fun K hK => ?_)
        rw [if_pos (by rfl)]
        refine wp_store_to 68 (.tmp 97) (.tmp 95) rfl gb (j * 29) X'.list rfl rfl ?_ X'.info X'.one ?_
        ·exact G6.out
        intro W7 hW7
        have R7 := Lib.hid (show MXAt W7 rb Y by rw [hW7]; obtain ⟨cs, hg⟩ := own_blk L6.out.b (k := gb) rfl; exact ⟨((Kept.setCells _ _ _ (Kept.refl (fun q => q = gb) w6)).block _ L6.out.r.lt (blk_ne L6.out.r.blk hg (by decide))).trans L6.out.r.blk⟩)
        refine hK.out _ _ (fun h => Bool.noConfusion (h.2.symm.trans (by kernel_rfl : _ = true))) ?_
        clear hK K
        try simp only [Act.put]
        refine AnyL.one (i := 13) (o := ⟨none, _, _, _, _, _⟩) (by kernel_rfl) rfl (fun K hK => ?_)
        rw [if_pos (by rfl)]
        refine wp_store_to 43 (.tmp 9) (.tmp 96) rfl rb 0 Y'.list rfl rfl ?_ Y'.info Y'.one ?_
        ·exact R7.out.there
        intro W8 hW8
        have PQ := Lib.hid (show Play w1 W8 T1 cl rb cz1 m S1 Y' R.2.1 R.2.2 (Ck.new n.t n.c) us' ups' (xs.set j x1) (ys.set j ⟨X', R.1⟩) (.slice (some ⟨ga, 0, none⟩) k ac) (.slice (some ⟨gb, 0, none⟩) k bc) by rw [hW8, hW7]; exact Play.stored P6.out D6.out YJ.out L6.out)
        clear hW8 hW7 R7 G6 P6 D6 L6
        refine hK.out _ _ (fun h => Bool.noConfusion (h.2.symm.trans (by kernel_rfl : _ = true))) ?_
        clear hK K
        try simp only [Act.put]
        refine AnyL.done (by kernel_rfl) ?_ _
        have y2 := PQ.out.overB (set_get YJ.out ⟨X', R.1⟩)
        obtain ⟨ov, hov⟩ : ∃ o, R.1.over = o := ⟨_, rfl⟩
        have OV := Lib.hid hov
        have SN := Lib.hid (show SimAll (xs.set j x1) (ys.set j ⟨X', R.1⟩) from SM.out.set (by rw [HX.out.2.1]; exact S1') (by rw [HX.out.2.1]; exact XD.out))
        simp only [hov] at y2 ⊢
        have ee : (ov != ov) = false := by simp
        have XN := Lib.hid (show (xs.set j x1).length = k by rw [List.length_set]; exact XL.out)
        have RR := Lib.hid PQ.out.lay.r.rng
        have MM := Lib.hid (show MemAt W8 m S1 Y'.l Y'.count R.2.1 R.2.2 (Ck.new n.t n.c) from PQ.out.P.M)
        clear hov SM S1' HX XD SI PX XJ YJ YD XL YL UL PA GW OKL
        go_upto_region 22 with (fail)
        go_wp2_with (refine wpList_load_midW (by rfl) 43 (.tmp 9) rfl rb 0 rfl Y'.list _ ?_ Tryz.underlying43 rfl Y'.info ?_; exact RR.out)
        refine (same_any m S1 (Ck.new n.t n.c) MM.out PQ.out.D.D MM.out.small).mono ?_
        rintro ev w9 ⟨rfl, hs⟩
        have PN := Lib.hid (PQ.out.low hs)
        clear hs PQ RR MM y2
        go_wp2_with fail
        go_roundg (tn - (q + 1))
        case measure => have := Q1.out; omega
        case rel => exact ⟨q + 1, T1, cz1, S1, Y', _, _, us', ups', _, _, by omega, by go_num, XN.out, SN.out, YL6.out, U6.out.1, U6.out.2, PN.out⟩
      ·have hqe : q = tn := by have := Q1.out; omega
       subst hqe
       have GL := Lib.hid (Fl.Glob.below GW.out G1.out)
       clear i68 hlt Q1 UL YL
       go_wp2_with fail
       go_loopg [114] k (fun g v114 wy => ∃ p : Nat, p + g = k ∧ v114 = .int .i64 (p : Int) ∧ Below wx.heap.size wx wy)
       case atStart => exact ⟨0, by omega, rfl, Below.refl _ _⟩
       case round =>
        obtain ⟨wz, hwz⟩ : ∃ x, x = wr := ⟨_, rfl⟩
        subst hwz
        obtain ⟨p, hp, rfl, hB⟩ := hrel
        have P1' := Lib.hid hp
        have BZ := Lib.hid hB
        have PZ := Lib.hid (PA.out.low hB)
        have GZ := Lib.hid (Fl.Glob.below hB GL.out)
        have i114 : IntKind.i64.wrap ((p : Int) + 1) = (p : Int) + 1 := Go.IntWalk.i64_in _ (by have := F1.out; omega)
        clear hp hB
        by_cases hlt : p < k
        ·obtain ⟨x, hx⟩ : ∃ x, xs[p]? = some x := ⟨_, List.getElem?_eq_getElem (by rw [XL.out]; exact hlt)⟩
         obtain ⟨y, hy⟩ : ∃ x, ys[p]? = some x := ⟨_, List.getElem?_eq_getElem (by rw [SM.out.1, XL.out]; exact hlt)⟩
         obtain ⟨hsim, -⟩ := SM.out.2 p x y hx hy
         have SI := Lib.hid hsim
         have PX := Lib.hid (PZ.out.P.each p x hx)
         have DY := Lib.hid (PZ.out.D.each p y hy)
         obtain ⟨ga, hga⟩ := PZ.out.lay.a.addrN (by omega)
         obtain ⟨gb, hgb⟩ := PZ.out.lay.b.addrN (by omega)
         subst hga hgb
         obtain ⟨cn, hcn, hE⟩ := PZ.out.endC hx hy
         have CN := Lib.hid hcn
         have EC := Lib.hid hE
         have j1 : (p : Int) < (k : Int) := by omega
         have j2 : (0 : Int) ≤ (p : Int) := by omega
         have jc : decide (1 < cn) = false := decide_eq_false (by have := CN.out; omega)
         clear hx hy hsim hcn hE PZ
         by_cases hst : x.i.st = 0
         ·have hov : y.D.over = true := by rw [SI.out.over]; exact decide_eq_true hst
          obtain ⟨hd1, hd2, hd3⟩ := SI.out.fin hst
          have PI := Lib.hid PX.out.ag.lies
          have hsb : ((x.i.st : Int) == 0) = true := by rw [hst]; rfl
          rw [hov] at EC
          clear hov
          rcases Bool.eq_false_or_eq_true x.i.dn with hdn | hdn
          ·as_aux_lemma =>
            obtain ⟨he0, hpg, hrf⟩ := hd2 hdn
            have hdone : y.D.done = true := hd1.trans hdn
            have her : x.i.er = .nilIface := PX.out.en (.inl hdn)
            obtain ⟨t, ht⟩ : ∃ t, x.i.pt = t + 1 := ⟨x.i.pt - 1, by have := PX.out.pd hdn; omega⟩
            have SH := Lib.hid PX.out.ag.sh
            obtain ⟨tk, htk⟩ : ∃ n, x.i.tk = n := ⟨_, rfl⟩
            have TB := Lib.hid (show t ≤ 4 ∧ tk ≤ 4 from ⟨by have := SH.out.2.2.1; omega, by have := SH.out.2.1; omega⟩)
            have VR := Lib.hid (show SV lRef wz (.slice y.X.ra y.X.rn y.X.rc) x.i.rfsL from hrf ▸ DY.out.rf)
            have VP := Lib.hid (show SV lInt wz (.slice y.X.pa y.X.pn y.X.pc) x.i.pgsL from hpg ▸ DY.out.pg)
            have rn : y.X.rn = t + 1 := by obtain ⟨_, _, e, -⟩ := VR.out.lenform; rw [(Value.slice.inj e).2.1, rfsL_len, ht]
            have pn : y.X.pn = tk := by obtain ⟨_, _, e, -⟩ := VP.out.lenform; rw [(Value.slice.inj e).2.1, pgsL_len, htk]
            obtain ⟨lb, lo, hra⟩ := VR.out.addr (by rw [rfsL_len, ht]; omega)
            rw [hra] at VR
            rw [he0, hdone, hra, rn, pn] at EC
            have RG := Lib.hid (show wz.rangeAt lb (lo + t * 2) [.int .i64 (x.i.rf t).1, .int .i64 (x.i.rf t).2] from VR.out.range (by show ((List.range x.i.pt).map x.i.rf)[t]? = _; rw [List.getElem?_map, List.getElem?_range (by omega)]; rfl))
            have FH := Lib.hid (fun w h => ihead_any w x.b x.i h hdn (by omega) (by have := TB.out; omega))
            have FP := Lib.hid (fun w h => ipages_any w x.b x.i h hdn (by have := TB.out; omega))
            rw [show x.i.pt - 1 = t by omega] at FH
            unfold refV at FH
            have fd := Lib.hid (done_any wz x.b x.i PI.out hst)
            rw [hdn, her] at fd
            have LP := Lib.hid (show x.i.pgsL.length = tk from (pgsL_len _).trans htk)
            have y0 := EC.out.a
            clear hd1 hd2 hd3 he0 hpg hrf hdone her ht htk rn pn hra VR VP SH hst hdn SI PX DY
            go_wp2_with fail
            refine fd.out.mono ?_
            rintro ev w5 ⟨rfl, hs⟩
            have EC5 := Lib.hid (EC.out.step hs)
            have B5 := Lib.hid (BZ.out.trans (hs.mono BZ.out.size))
            have PI5 := Lib.hid (PI.out.step hs)
            have RG5 := Lib.hid (rng_step RG.out hs)
            clear hs y0 EC PI BZ RG fd
            have RGd := Lib.hid (rng_step RG5.out (Below.refl _ w5).drew)
            have ECd := Lib.hid (EC5.out.step (Below.refl _ w5).drew)
            have Bd := Lib.hid (B5.out.drew)
            have PId := Lib.hid (PI5.out.step (Below.refl _ w5).drew)
            go_upto_region 29 with (fail)
            try simp only [Act.put]
            refine anyH_region (fun w' : World => EndC w' ga gb cl p x.b true true 0 (.slice y.X.pa tk y.X.pc) (.slice (some ⟨lb, lo, none⟩) (t + 1) y.X.rc) cn) (by kernel_rfl) ?_
            generalize w5.drew = wd at *
            refine tkH (i := 0) (oi := ⟨some 125, _, _, _, _, _⟩) (v := ?vg0) rfl (Or.inl ⟨by rfl, ?hyg0⟩) ECd.out ?restg0
            case hyg0 => (intro w hSw; go_simp; try (with_reducible rfl))
            simp only [Act.put, sT, sZ, sS]
            refine tkH (i := 1) (oi := ⟨some 126, _, _, _, _, _⟩) (v := ?vg1) rfl (Or.inl ⟨by rfl, ?hyg1⟩) ECd.out ?restg1
            case hyg1 => (intro w hSw; go_simp; try (with_reducible rfl))
            simp only [Act.put, sT, sZ, sS]
            refine tkH (i := 2) (oi := ⟨some 127, _, _, _, _, _⟩) (v := ?vg2) rfl (Or.inl ⟨by rfl, ?hyg2⟩) ECd.out ?restg2
            case hyg2 => (intro w hSw; have q0 := hSw.a; have q1 := hSw.ov; have q2 := hSw.ct; have q3 := j1; have q4 := j2; have q5 := jc; go_simp; try (with_reducible rfl))
            simp only [Act.put, sT, sZ, sS]
            refine tkH (i := 3) (oi := ⟨some 128, _, _, _, _, _⟩) (v := ?vg3) rfl (Or.inl ⟨by rfl, ?hyg3⟩) ECd.out ?restg3
            case hyg3 => (intro w hSw; have q0 := hSw.a; have q1 := hSw.ov; have q2 := hSw.ct; have q3 := j1; have q4 := j2; have q5 := jc; go_simp; try (with_reducible rfl))
            simp only [Act.put, sT, sZ, sS]
            refine tkH (i := 5) (oi := ⟨some 130, _, _, _, _, _⟩) (v := ?vg5) rfl (Or.inl ⟨by rfl, ?hyg5⟩) ECd.out ?restg5
            case hyg5 => (intro w hSw; go_simp; try (with_reducible rfl))
            simp only [Act.put, sT, sZ, sS]
            refine tkH (i := 6) (oi := ⟨some 131, _, _, _, _, _⟩) (v := ?vg6) rfl (Or.inl ⟨by rfl, ?hyg6⟩) ECd.out ?restg6
            case hyg6 => (intro w hSw; go_simp; try (with_reducible rfl))
            simp only [Act.put, sT, sZ, sS]
            refine tkH (i := 7) (oi := ⟨some 132, _, _, _, _, _⟩) (v := ?vg7) rfl (Or.inl ⟨by rfl, ?hyg7⟩) ECd.out ?restg7
            case hyg7 => (intro w hSw; have q0 := hSw.a; have q1 := hSw.ov; have q2 := hSw.ct; have q3 := j1; have q4 := j2; have q5 := jc; go_simp; try (with_reducible rfl))
            simp only [Act.put, sT, sZ, sS]
            refine tkH (i := 8) (oi := ⟨some 133, _, _, _, _, _⟩) (v := ?vg8) rfl (Or.inl ⟨by rfl, ?hyg8⟩) ECd.out ?restg8
            case hyg8 => (intro w hSw; go_simp; try (with_reducible rfl))
            simp only [Act.put, sT, sZ, sS]
            refine tkH (i := 9) (oi := ⟨some 134, _, _, _, _, _⟩) (v := ?vg9) rfl (Or.inl ⟨by rfl, ?hyg9⟩) ECd.out ?restg9
            case hyg9 => (intro w hSw; have q0 := hSw.a; have q1 := hSw.ov; have q2 := hSw.ct; have q3 := j1; have q4 := j2; have q5 := jc; go_simp; try (with_reducible rfl))
            simp only [Act.put, sT, sZ, sS]
            refine anyH_one (i := 4) (o := ⟨some 129, _, _, _, _, _⟩) (by kernel_rfl) rfl (fun K hK => ?_)
            rw [if_pos (by rfl)]
            go_simp
            refine (nOver_any _ x.b x.i PId.out).mono ?_
            rintro ev w6 ⟨rfl, rfl⟩
            rw [hsb]
            refine hK.out _ _ ECd.out ?_
            clear hK K
            try simp only [Act.put, sT, sZ, sS]
            refine tkH (i := 10) (oi := ⟨some 135, _, _, _, _, _⟩) (v := ?vg10) rfl (Or.inl ⟨by rfl, ?hyg10⟩) ECd.out ?restg10
            case hyg10 => (intro w hSw; have q0 := hSw.a; have q1 := hSw.ov; have q2 := hSw.ct; have q3 := j1; have q4 := j2; have q5 := jc; go_simp; try (with_reducible rfl))
            simp only [Act.put, sT, sZ, sS]
            refine tkH (i := 11) (oi := ⟨some 136, _, _, _, _, _⟩) (v := ?vg11) rfl (Or.inl ⟨by rfl, ?hyg11⟩) ECd.out ?restg11
            case hyg11 => (intro w hSw; go_simp; try (with_reducible rfl))
            simp only [Act.put, sT, sZ, sS]
            refine tkH (i := 12) (oi := ⟨some 137, _, _, _, _, _⟩) (v := ?vg12) rfl (Or.inl ⟨by rfl, ?hyg12⟩) ECd.out ?restg12
            case hyg12 => (intro w hSw; go_simp; try (with_reducible rfl))
            simp only [Act.put, sT, sZ, sS]
            refine tkH (i := 13) (oi := ⟨some 138, _, _, _, _, _⟩) (v := ?vg13) rfl (Or.inl ⟨by rfl, ?hyg13⟩) ECd.out ?restg13
            case hyg13 => (intro w hSw; go_simp; try (with_reducible rfl))
            simp only [Act.put, sT, sZ, sS]
            refine tkH (i := 14) (oi := ⟨some 139, _, _, _, _, _⟩) (v := ?vg14) rfl (Or.inl ⟨by rfl, ?hyg14⟩) ECd.out ?restg14
            case hyg14 => (intro w hSw; have q0 := hSw.a; have q1 := hSw.ov; have q2 := hSw.ct; have q3 := j1; have q4 := j2; have q5 := jc; go_simp; try (with_reducible rfl))
            simp only [Act.put, sT, sZ, sS]
            refine tkH (i := 15) (oi := ⟨some 140, _, _, _, _, _⟩) (v := ?vg15) rfl (Or.inl ⟨by rfl, ?hyg15⟩) ECd.out ?restg15
            case hyg15 => (intro w hSw; have q0 := hSw.a; have q1 := hSw.ov; have q2 := hSw.ct; have q3 := j1; have q4 := j2; have q5 := jc; go_simp; try (with_reducible rfl))
            simp only [Act.put, sT, sZ, sS]
            refine tkH (i := 16) (oi := ⟨some 141, _, _, _, _, _⟩) (v := ?vg16) rfl (Or.inl ⟨by rfl, ?hyg16⟩) ECd.out ?restg16
            case hyg16 => (intro w hSw; have q0 := hSw.a; have q1 := hSw.ov; have q2 := hSw.ct; have q3 := j1; have q4 := j2; have q5 := jc; go_simp; try (with_reducible rfl))
            simp only [Act.put, sT, sZ, sS]
            refine tkH (i := 17) (oi := ⟨some 142, _, _, _, _, _⟩) (v := ?vg17) rfl (Or.inl ⟨by rfl, ?hyg17⟩) ECd.out ?restg17
            case hyg17 => (intro w hSw; go_simp; try (with_reducible rfl))
            simp only [Act.put, sT, sZ, sS]
            refine wpAnyH_done (by kernel_rfl) ?_ _
            have y1 := ECd.out.ov
            clear EC5 B5 PI5 RG5 hsb
            have t1 : IntKind.i64.wrap ((t : Int) + 1 - 1) = (t : Int) := by rw [show (t : Int) + 1 - 1 = t by omega]; exact Go.IntWalk.i64_in _ (by have := TB.out; omega)
            have t2 : IntKind.i64.wrap (t : Int) = (t : Int) := Go.IntWalk.i64_in _ (by have := TB.out; omega)
            have t3 : (0 : Int) ≤ (t : Int) := by omega
            have t4 : (t : Int) < (t : Int) + 1 := by omega
            obtain ⟨wE, hwE⟩ : ∃ x, x = wd := ⟨_, rfl⟩
            rw [← hwE] at ECd Bd PId RGd y1 ⊢
            clear hwE
            go_upto_region 34 with (fail)
            try simp only [Act.put]
            have S8 := Lib.hid (show EndC wE.drew ga gb cl p x.b true true 0 (.slice y.X.pa tk y.X.pc) (.slice (some ⟨lb, lo, none⟩) (t + 1) y.X.rc) cn ∧ wE.drew.rangeAt lb (lo + t * 2) [.int .i64 (x.i.rf t).1, .int .i64 (x.i.rf t).2] from ⟨ECd.out.step (Below.refl _ wE).drew, rng_step RGd.out (Below.refl _ wE).drew⟩)
            have B8 := Lib.hid (Bd.out.drew)
            have I8 := Lib.hid (PId.out.step (Below.refl _ wE).drew)
            clear ECd Bd PId RGd y1
            refine anyH_region (fun w' : World => EndC w' ga gb cl p x.b true true 0 (.slice y.X.pa tk y.X.pc) (.slice (some ⟨lb, lo, none⟩) (t + 1) y.X.rc) cn ∧ w'.rangeAt lb (lo + t * 2) [.int .i64 (x.i.rf t).1, .int .i64 (x.i.rf t).2]) (by as_aux_lemma => kernel_rfl) ?_
            generalize wE.drew = wd at *
            refine tkH (i := 0) (oi := ⟨some 173, _, _, _, _, _⟩) (v := ?vh0) rfl (Or.inl ⟨by as_aux_lemma => rfl, ?hyh0⟩) S8.out ?resth0
            case hyh0 => (intro w hSw; go_simp; try (with_reducible rfl))
            simp only [Act.put, sT, sZ, sS]
            refine tkH (i := 1) (oi := ⟨some 174, _, _, _, _, _⟩) (v := ?vh1) rfl (Or.inl ⟨by as_aux_lemma => rfl, ?hyh1⟩) S8.out ?resth1
            case hyh1 => (intro w hSw; go_simp; try (with_reducible rfl))
            simp only [Act.put, sT, sZ, sS]
            refine tkH (i := 2) (oi := ⟨some 175, _, _, _, _, _⟩) (v := ?vh2) rfl (Or.inl ⟨by as_aux_lemma => rfl, ?hyh2⟩) S8.out ?resth2
            case hyh2 => (intro w hSw; go_simp; try (with_reducible rfl))
            simp only [Act.put, sT, sZ, sS]
            refine tkH (i := 3) (oi := ⟨some 176, _, _, _, _, _⟩) (v := ?vh3) rfl (Or.inl ⟨by as_aux_lemma => rfl, ?hyh3⟩) S8.out ?resth3
            case hyh3 => (intro w hSw; have q0 := hSw.1.a; have q1 := hSw.1.dn; have q2 := hSw.1.er; have q3 := hSw.1.pg; have q4 := hSw.1.rf; have q5 := j1; have q6 := j2; have q7 := t1; have q8 := t2; have q9 := t3; have q10 := t4; go_simp; try (with_reducible rfl))
            simp only [Act.put, sT, sZ, sS]
            refine tkH (i := 4) (oi := ⟨some 177, _, _, _, _, _⟩) (v := ?vh4) rfl (Or.inl ⟨by as_aux_lemma => rfl, ?hyh4⟩) S8.out ?resth4
            case hyh4 => (intro w hSw; go_simp; try (with_reducible rfl))
            simp only [Act.put, sT, sZ, sS]
            refine tkH (i := 5) (oi := ⟨some 178, _, _, _, _, _⟩) (v := ?vh5) rfl (Or.inl ⟨by as_aux_lemma => rfl, ?hyh5⟩) S8.out ?resth5
            case hyh5 => (intro w hSw; have q0 := hSw.1.a; have q1 := hSw.1.dn; have q2 := hSw.1.er; have q3 := hSw.1.pg; have q4 := hSw.1.rf; have q5 := j1; have q6 := j2; have q7 := t1; have q8 := t2; have q9 := t3; have q10 := t4; go_simp; try (with_reducible rfl))
            simp only [Act.put, sT, sZ, sS]
            refine tkH (i := 6) (oi := ⟨some 179, _, _, _, _, _⟩) (v := ?vh6) rfl (Or.inl ⟨by as_aux_lemma => rfl, ?hyh6⟩) S8.out ?resth6
            case hyh6 => (intro w hSw; have q0 := hSw.1.a; have q1 := hSw.1.dn; have q2 := hSw.1.er; have q3 := hSw.1.pg; have q4 := hSw.1.rf; have q5 := j1; have q6 := j2; have q7 := t1; have q8 := t2; have q9 := t3; have q10 := t4; go_simp; try (with_reducible rfl))
            simp only [Act.put, sT, sZ, sS]
            refine tkH (i := 7) (oi := ⟨some 180, _, _, _, _, _⟩) (v := ?vh7) rfl (Or.inl ⟨by as_aux_lemma => rfl, ?hyh7⟩) S8.out ?resth7
            case hyh7 => (intro w hSw; go_simp; try (with_reducible rfl))
            simp only [Act.put, sT, sZ, sS]
            refine tkH (i := 8) (oi := ⟨some 181, _, _, _, _, _⟩) (v := ?vh8) rfl (Or.inl ⟨by as_aux_lemma => rfl, ?hyh8⟩) S8.out ?resth8
            case hyh8 => (intro w hSw; go_simp; try (with_reducible rfl))
            simp only [Act.put, sT, sZ, sS]
            refine tkH (i := 10) (oi := ⟨some 183, _, _, _, _, _⟩) (v := ?vh10) rfl (Or.inl ⟨by as_aux_lemma => rfl, ?hyh10⟩) S8.out ?resth10
            case hyh10 => (intro w hSw; go_simp; try (with_reducible rfl))
            simp only [Act.put, sT, sZ, sS]
            refine tkH (i := 11) (oi := ⟨some 184, _, _, _, _, _⟩) (v := ?vh11) rfl (Or.inl ⟨by as_aux_lemma => rfl, ?hyh11⟩) S8.out ?resth11
            case hyh11 => (intro w hSw; go_simp; try (with_reducible rfl))
            simp only [Act.put, sT, sZ, sS]
            refine tkH (i := 12) (oi := ⟨some 185, _, _, _, _, _⟩) (v := ?vh12) rfl (Or.inl ⟨by as_aux_lemma => rfl, ?hyh12⟩) S8.out ?resth12
            case hyh12 => (intro w hSw; have q0 := hSw.1.a; have q1 := hSw.1.dn; have q2 := hSw.1.er; have q3 := hSw.1.pg; have q4 := hSw.1.rf; have q5 := j1; have q6 := j2; have q7 := t1; have q8 := t2; have q9 := t3; have q10 := t4; go_simp; try (with_reducible rfl))
            simp only [Act.put, sT, sZ, sS]
            refine tkH (i := 13) (oi := ⟨some 186, _, _, _, _, _⟩) (v := ?vh13) rfl (Or.inl ⟨by as_aux_lemma => rfl, ?hyh13⟩) S8.out ?resth13
            case hyh13 => (intro w hSw; go_simp; try (with_reducible rfl))
            simp only [Act.put, sT, sZ, sS]
            refine tkH (i := 14) (oi := ⟨some 187, _, _, _, _, _⟩) (v := ?vh14) rfl (Or.inl ⟨by as_aux_lemma => rfl, ?hyh14⟩) S8.out ?resth14
            case hyh14 => (intro w hSw; have q0 := hSw.1.a; have q1 := hSw.1.dn; have q2 := hSw.1.er; have q3 := hSw.1.pg; have q4 := hSw.1.rf; have q5 := j1; have q6 := j2; have q7 := t1; have q8 := t2; have q9 := t3; have q10 := t4; go_simp; try (with_reducible rfl))
            simp only [Act.put, sT, sZ, sS]
            refine anyH_one (i := 9) (o := ⟨some 182, _, _, _, _, _⟩) (by as_aux_lemma => kernel_rfl) rfl (fun K hK => ?_)
            rw [if_pos (by as_aux_lemma => rfl)]
            go_simp
            refine (Fl.Code_nil _).mono ?_
            rintro ev w9 ⟨rfl, hs⟩
            have S9 := Lib.hid (show EndC w9 ga gb cl p x.b true true 0 (.slice y.X.pa tk y.X.pc) (.slice (some ⟨lb, lo, none⟩) (t + 1) y.X.rc) cn ∧ w9.rangeAt lb (lo + t * 2) [.int .i64 (x.i.rf t).1, .int .i64 (x.i.rf t).2] from ⟨S8.out.1.step hs, rng_step S8.out.2 hs⟩)
            have B9 := Lib.hid (B8.out.trans (hs.mono B8.out.size))
            have I9 := Lib.hid (I8.out.step hs)
            clear hs
            refine hK.out _ _ S9.out ?_
            clear hK K
            try simp only [Act.put, sT, sZ, sS]
            refine tkH (i := 15) (oi := ⟨some 188, _, _, _, _, _⟩) (v := ?vh15) rfl (Or.inl ⟨by as_aux_lemma => rfl, ?hyh15⟩) S9.out ?resth15
            case hyh15 => (intro w hSw; have q0 := hSw.1.a; have q1 := hSw.1.dn; have q2 := hSw.1.er; have q3 := hSw.1.pg; have q4 := hSw.1.rf; have q5 := j1; have q6 := j2; have q7 := t1; have q8 := t2; have q9 := t3; have q10 := t4; go_simp; try (with_reducible rfl))
            simp only [Act.put, sT, sZ, sS]
            refine tkH (i := 16) (oi := ⟨some 189, _, _, _, _, _⟩) (v := ?vh16) rfl (Or.inl ⟨by as_aux_lemma => rfl, ?hyh16⟩) S9.out ?resth16
            case hyh16 => (intro w hSw; go_simp; try (with_reducible rfl))
            simp only [Act.put, sT, sZ, sS]
            refine tkH (i := 17) (oi := ⟨some 190, _, _, _, _, _⟩) (v := ?vh17) rfl (Or.inl ⟨by as_aux_lemma => rfl, ?hyh17⟩) S9.out ?resth17
            case hyh17 => (intro w hSw; go_simp; try (with_reducible rfl))
            simp only [Act.put, sT, sZ, sS]
            refine tkH (i := 18) (oi := ⟨some 191, _, _, _, _, _⟩) (v := ?vh18) rfl (Or.inl ⟨by as_aux_lemma => rfl, ?hyh18⟩) S9.out ?resth18
            case hyh18 => (intro w hSw; go_simp; try (with_reducible rfl))
            simp only [Act.put, sT, sZ, sS]
            refine tkH (i := 19) (oi := ⟨some 192, _, _, _, _, _⟩) (v := ?vh19) rfl (Or.inl ⟨by as_aux_lemma => rfl, ?hyh19⟩) S9.out ?resth19
            case hyh19 => (intro w hSw; have q0 := hSw.1.a; have q1 := hSw.1.dn; have q2 := hSw.1.er; have q3 := hSw.1.pg; have q4 := hSw.1.rf; have q5 := j1; have q6 := j2; have q7 := t1; have q8 := t2; have q9 := t3; have q10 := t4; go_simp; try (with_reducible rfl))
            simp only [Act.put, sT, sZ, sS]
            refine tkH (i := 20) (oi := ⟨some 193, _, _, _, _, _⟩) (v := ?vh20) rfl (Or.inl ⟨by as_aux_lemma => rfl, ?hyh20⟩) S9.out ?resth20
            case hyh20 => (intro w hSw; go_simp; try (with_reducible rfl))
            simp only [Act.put, sT, sZ, sS]
            refine tkH (i := 21) (oi := ⟨some 194, _, _, _, _, _⟩) (v := ?vh21) rfl (Or.inl ⟨by as_aux_lemma => rfl, ?hyh21⟩) S9.out ?resth21
            case hyh21 => (intro w hSw; go_simp; try (with_reducible rfl))
            simp only [Act.put, sT, sZ, sS]
            refine tkH (i := 22) (oi := ⟨some 195, _, _, _, _, _⟩) (v := ?vh22) rfl (Or.inl ⟨by as_aux_lemma => rfl, ?hyh22⟩) S9.out ?resth22
            case hyh22 => (intro w hSw; have q0 := hSw.1.a; have q1 := hSw.1.dn; have q2 := hSw.1.er; have q3 := hSw.1.pg; have q4 := hSw.1.rf; have q5 := j1; have q6 := j2; have q7 := t1; have q8 := t2; have q9 := t3; have q10 := t4; go_simp; try (with_reducible rfl))
            simp only [Act.put, sT, sZ, sS]
            refine tkH (i := 23) (oi := ⟨some 196, _, _, _, _, _⟩) (v := ?vh23) rfl (Or.inl ⟨by as_aux_lemma => rfl, ?hyh23⟩) S9.out ?resth23
            case hyh23 => (intro w hSw; go_simp; try (with_reducible rfl))
            simp only [Act.put, sT, sZ, sS]
            refine tkH (i := 24) (oi := ⟨some 197, _, _, _, _, _⟩) (v := ?vh24) rfl (Or.inl ⟨by as_aux_lemma => rfl, ?hyh24⟩) S9.out ?resth24
            case hyh24 => (intro w hSw; have q0 := hSw.1.a; have q1 := hSw.1.dn; have q2 := hSw.1.er; have q3 := hSw.1.pg; have q4 := hSw.1.rf; have q5 := j1; have q6 := j2; have q7 := t1; have q8 := t2; have q9 := t3; have q10 := t4; go_simp; try (with_reducible rfl))
            simp only [Act.put, sT, sZ, sS]
            refine tkH (i := 25) (oi := ⟨some 198, _, _, _, _, _⟩) (v := ?vh25) rfl (Or.inl ⟨by as_aux_lemma => rfl, ?hyh25⟩) S9.out ?resth25
            case hyh25 => (intro w hSw; have q0 := hSw.1.a; have q1 := hSw.1.dn; have q2 := hSw.1.er; have q3 := hSw.1.pg; have q4 := hSw.1.rf; have q5 := j1; have q6 := j2; have q7 := t1; have q8 := t2; have q9 := t3; have q10 := t4; go_simp; try (with_reducible rfl))
            simp only [Act.put, sT, sZ, sS]
            refine tkH (i := 26) (oi := ⟨some 199, _, _, _, _, _⟩) (v := ?vh26) rfl (Or.inl ⟨by as_aux_lemma => rfl, ?hyh26⟩) S9.out ?resth26
            case hyh26 => (intro w hSw; have q0 := hSw.1.a; have q1 := hSw.1.dn; have q2 := hSw.1.er; have q3 := hSw.1.pg; have q4 := hSw.1.rf; have q5 := j1; have q6 := j2; have q7 := t1; have q8 := t2; have q9 := t3; have q10 := t4; go_simp; try (with_reducible rfl))
            simp only [Act.put, sT, sZ, sS]
            refine tkH (i := 27) (oi := ⟨some 200, _, _, _, _, _⟩) (v := ?vh27) rfl (Or.inl ⟨by as_aux_lemma => rfl, ?hyh27⟩) S9.out ?resth27
            case hyh27 => (intro w hSw; go_simp; try (with_reducible rfl))
            simp only [Act.put, sT, sZ, sS]
            refine tkH (i := 28) (oi := ⟨some 201, _, _, _, _, _⟩) (v := ?vh28) rfl (Or.inl ⟨by as_aux_lemma => rfl, ?hyh28⟩) S9.out ?resth28
            case hyh28 => (intro w hSw; go_simp; try (with_reducible rfl))
            simp only [Act.put, sT, sZ, sS]
            refine tkH (i := 29) (oi := ⟨some 202, _, _, _, _, _⟩) (v := ?vh29) rfl (Or.inl ⟨by as_aux_lemma => rfl, ?hyh29⟩) S9.out ?resth29
            case hyh29 => (intro w hSw; go_simp; try (with_reducible rfl))
            simp only [Act.put, sT, sZ, sS]
            refine tkH (i := 30) (oi := ⟨some 203, _, _, _, _, _⟩) (v := ?vh30) rfl (Or.inl ⟨by as_aux_lemma => rfl, ?hyh30⟩) S9.out ?resth30
            case hyh30 => (intro w hSw; go_simp; try (with_reducible rfl))
            simp only [Act.put, sT, sZ, sS]
            refine tkH (i := 31) (oi := ⟨some 204, _, _, _, _, _⟩) (v := ?vh31) rfl (Or.inl ⟨by as_aux_lemma => rfl, ?hyh31⟩) S9.out ?resth31
            case hyh31 => (intro w hSw; go_simp; try (with_reducible rfl))
            simp only [Act.put, sT, sZ, sS]
            refine tkH (i := 32) (oi := ⟨some 205, _, _, _, _, _⟩) (v := ?vh32) rfl (Or.inl ⟨by as_aux_lemma => rfl, ?hyh32⟩) S9.out ?resth32
            case hyh32 => (intro w hSw; go_simp; try (with_reducible rfl))
            simp only [Act.put, sT, sZ, sS]
            refine tkH (i := 33) (oi := ⟨some 206, _, _, _, _, _⟩) (v := ?vh33) rfl (Or.inl ⟨by as_aux_lemma => rfl, ?hyh33⟩) S9.out ?resth33
            case hyh33 => (intro w hSw; have q0 := hSw.1.a; have q1 := hSw.1.dn; have q2 := hSw.1.er; have q3 := hSw.1.pg; have q4 := hSw.1.rf; have q5 := j1; have q6 := j2; have q7 := t1; have q8 := t2; have q9 := t3; have q10 := t4; go_simp; try (with_reducible rfl))
            simp only [Act.put, sT, sZ, sS]
            refine tkH (i := 34) (oi := ⟨some 207, _, _, _, _, _⟩) (v := ?vh34) rfl (Or.inl ⟨by as_aux_lemma => rfl, ?hyh34⟩) S9.out ?resth34
            case hyh34 => (intro w hSw; have q0 := hSw.1.a; have q1 := hSw.1.dn; have q2 := hSw.1.er; have q3 := hSw.1.pg; have q4 := hSw.1.rf; have q5 := j1; have q6 := j2; have q7 := t1; have q8 := t2; have q9 := t3; have q10 := t4; go_simp; try (with_reducible rfl))
            simp only [Act.put, sT, sZ, sS]
            refine tkH (i := 36) (oi := ⟨some 209, _, _, _, _, _⟩) (v := ?vh36) rfl (Or.inl ⟨by as_aux_lemma => rfl, ?hyh36⟩) S9.out ?resth36
            case hyh36 => (intro w hSw; go_simp; try (with_reducible rfl))
            simp only [Act.put, sT, sZ, sS]
            refine tkH (i := 37) (oi := ⟨some 210, _, _, _, _, _⟩) (v := ?vh37) rfl (Or.inl ⟨by as_aux_lemma => rfl, ?hyh37⟩) S9.out ?resth37
            case hyh37 => (intro w hSw; go_simp; try (with_reducible rfl))
            simp only [Act.put, sT, sZ, sS]
            refine tkH (i := 38) (oi := ⟨some 211, _, _, _, _, _⟩) (v := ?vh38) rfl (Or.inl ⟨by as_aux_lemma => rfl, ?hyh38⟩) S9.out ?resth38
            case hyh38 => (intro w hSw; have q0 := hSw.1.a; have q1 := hSw.1.dn; have q2 := hSw.1.er; have q3 := hSw.1.pg; have q4 := hSw.1.rf; have q5 := j1; have q6 := j2; have q7 := t1; have q8 := t2; have q9 := t3; have q10 := t4; go_simp; try (with_reducible rfl))
            simp only [Act.put, sT, sZ, sS]
            refine tkH (i := 39) (oi := ⟨some 212, _, _, _, _, _⟩) (v := ?vh39) rfl (Or.inl ⟨by as_aux_lemma => rfl, ?hyh39⟩) S9.out ?resth39
            case hyh39 => (intro w hSw; go_simp; try (with_reducible rfl))
            simp only [Act.put, sT, sZ, sS]
            refine tkH (i := 40) (oi := ⟨some 213, _, _, _, _, _⟩) (v := ?vh40) rfl (Or.inl ⟨by as_aux_lemma => rfl, ?hyh40⟩) S9.out ?resth40
            case hyh40 => (intro w hSw; have q0 := hSw.1.a; have q1 := hSw.1.dn; have q2 := hSw.1.er; have q3 := hSw.1.pg; have q4 := hSw.1.rf; have q5 := j1; have q6 := j2; have q7 := t1; have q8 := t2; have q9 := t3; have q10 := t4; go_simp; try (with_reducible rfl))
            simp only [Act.put, sT, sZ, sS]
            refine tkH (i := 41) (oi := ⟨some 214, _, _, _, _, _⟩) (v := ?vh41) rfl (Or.inl ⟨by as_aux_lemma => rfl, ?hyh41⟩) S9.out ?resth41
            case hyh41 => (intro w hSw; go_simp; try (with_reducible rfl))
            simp only [Act.put, sT, sZ, sS]
            refine tkH (i := 42) (oi := ⟨some 215, _, _, _, _, _⟩) (v := ?vh42) rfl (Or.inl ⟨by as_aux_lemma => rfl, ?hyh42⟩) S9.out ?resth42
            case hyh42 => (intro w hSw; go_simp; try (with_reducible rfl))
            simp only [Act.put, sT, sZ, sS]
            refine tkH (i := 43) (oi := ⟨some 216, _, _, _, _, _⟩) (v := ?vh43) rfl (Or.inl ⟨by as_aux_lemma => rfl, ?hyh43⟩) S9.out ?resth43
            case hyh43 => (intro w hSw; have q0 := hSw.1.a; have q1 := hSw.1.dn; have q2 := hSw.1.er; have q3 := hSw.1.pg; have q4 := hSw.1.rf; have q5 := j1; have q6 := j2; have q7 := t1; have q8 := t2; have q9 := t3; have q10 := t4; go_simp; try (with_reducible rfl))
            simp only [Act.put, sT, sZ, sS]
            refine tkH (i := 44) (oi := ⟨some 217, _, _, _, _, _⟩) (v := ?vh44) rfl (Or.inl ⟨by as_aux_lemma => rfl, ?hyh44⟩) S9.out ?resth44
            case hyh44 => (intro w hSw; go_simp; try (with_reducible rfl))
            simp only [Act.put, sT, sZ, sS]
            refine tkH (i := 45) (oi := ⟨some 218, _, _, _, _, _⟩) (v := ?vh45) rfl (Or.inl ⟨by as_aux_lemma => rfl, ?hyh45⟩) S9.out ?resth45
            case hyh45 => (intro w hSw; have q0 := hSw.1.a; have q1 := hSw.1.dn; have q2 := hSw.1.er; have q3 := hSw.1.pg; have q4 := hSw.1.rf; have q5 := j1; have q6 := j2; have q7 := t1; have q8 := t2; have q9 := t3; have q10 := t4; go_simp; try (with_reducible rfl))
            simp only [Act.put, sT, sZ, sS]
            refine tkH (i := 46) (oi := ⟨some 219, _, _, _, _, _⟩) (v := ?vh46) rfl (Or.inl ⟨by as_aux_lemma => rfl, ?hyh46⟩) S9.out ?resth46
            case hyh46 => (intro w hSw; have q0 := hSw.1.a; have q1 := hSw.1.dn; have q2 := hSw.1.er; have q3 := hSw.1.pg; have q4 := hSw.1.rf; have q5 := j1; have q6 := j2; have q7 := t1; have q8 := t2; have q9 := t3; have q10 := t4; go_simp; try (with_reducible rfl))
            simp only [Act.put, sT, sZ, sS]
            refine tkH (i := 47) (oi := ⟨some 220, _, _, _, _, _⟩) (v := ?vh47) rfl (Or.inl ⟨by as_aux_lemma => rfl, ?hyh47⟩) S9.out ?resth47
            case hyh47 => (intro w hSw; have q0 := hSw.1.a; have q1 := hSw.1.dn; have q2 := hSw.1.er; have q3 := hSw.1.pg; have q4 := hSw.1.rf; have q5 := j1; have q6 := j2; have q7 := t1; have q8 := t2; have q9 := t3; have q10 := t4; go_simp; try (with_reducible rfl))
            simp only [Act.put, sT, sZ, sS]
            refine tkH (i := 48) (oi := ⟨some 221, _, _, _, _, _⟩) (v := ?vh48) rfl (Or.inl ⟨by as_aux_lemma => rfl, ?hyh48⟩) S9.out ?resth48
            case hyh48 => (intro w hSw; have q0 := hSw.1.a; have q1 := hSw.1.dn; have q2 := hSw.1.er; have q3 := hSw.1.pg; have q4 := hSw.1.rf; have q5 := j1; have q6 := j2; have q7 := t1; have q8 := t2; have q9 := t3; have q10 := t4; go_simp; try (with_reducible rfl))
            simp only [Act.put, sT, sZ, sS]
            refine tkH (i := 49) (oi := ⟨some 222, _, _, _, _, _⟩) (v := .agg #[.int .i64 (x.i.rf t).1, .int .i64 (x.i.rf t).2]) rfl (yieldsIf_load_mid (by rfl) 48 (.tmp 221) rfl lb (lo + t * 2) rfl [.int .i64 (x.i.rf t).1, .int .i64 (x.i.rf t).2] _ (fun w h => h.2) Tryz.underlying48 rfl refInfoS) S9.out ?resth49
            simp only [Act.put, sT, sZ, sS]
            refine anyH_one (i := 35) (o := ⟨some 208, _, _, _, _, _⟩) (by as_aux_lemma => kernel_rfl) rfl (fun K hK => ?_)
            rw [if_pos (by as_aux_lemma => rfl)]
            go_simp
            refine (FH.out _ I9.out).mono ?_
            rintro ev wA ⟨rfl, hs⟩
            have SA := Lib.hid (show EndC wA ga gb cl p x.b true true 0 (.slice y.X.pa tk y.X.pc) (.slice (some ⟨lb, lo, none⟩) (t + 1) y.X.rc) cn ∧ wA.rangeAt lb (lo + t * 2) [.int .i64 (x.i.rf t).1, .int .i64 (x.i.rf t).2] from ⟨S9.out.1.step hs, rng_step S9.out.2 hs⟩)
            have BA := Lib.hid (B9.out.trans (hs.mono B9.out.size))
            have IA := Lib.hid (I9.out.step hs)
            clear hs
            refine hK.out _ _ SA.out ?_
            clear hK K
            try simp only [Act.put, sT, sZ, sS]
            refine tkH (i := 50) (oi := ⟨some 223, _, _, _, _, _⟩) (v := ?vh50) rfl (Or.inl ⟨by as_aux_lemma => rfl, ?hyh50⟩) SA.out ?resth50
            case hyh50 => (intro w hSw; have q0 := hSw.1.a; have q1 := hSw.1.dn; have q2 := hSw.1.er; have q3 := hSw.1.pg; have q4 := hSw.1.rf; have q5 := j1; have q6 := j2; have q7 := t1; have q8 := t2; have q9 := t3; have q10 := t4; go_simp; try (with_reducible rfl))
            simp only [Act.put, sT, sZ, sS]
            refine tkH (i := 51) (oi := ⟨some 224, _, _, _, _, _⟩) (v := ?vh51) rfl (Or.inl ⟨by as_aux_lemma => rfl, ?hyh51⟩) SA.out ?resth51
            case hyh51 => (intro w hSw; go_simp; try (with_reducible rfl))
            simp only [Act.put, sT, sZ, sS]
            refine tkH (i := 52) (oi := ⟨some 225, _, _, _, _, _⟩) (v := ?vh52) rfl (Or.inl ⟨by as_aux_lemma => rfl, ?hyh52⟩) SA.out ?resth52
            case hyh52 => (intro w hSw; go_simp; try (with_reducible rfl))
            simp only [Act.put, sT, sZ, sS]
            refine tkH (i := 53) (oi := ⟨some 226, _, _, _, _, _⟩) (v := ?vh53) rfl (Or.inl ⟨by as_aux_lemma => rfl, ?hyh53⟩) SA.out ?resth53
            case hyh53 => (intro w hSw; go_simp; try (with_reducible rfl))
            simp only [Act.put, sT, sZ, sS]
            refine tkH (i := 54) (oi := ⟨some 227, _, _, _, _, _⟩) (v := ?vh54) rfl (Or.inl ⟨by as_aux_lemma => rfl, ?hyh54⟩) SA.out ?resth54
            case hyh54 => (intro w hSw; have q0 := hSw.1.a; have q1 := hSw.1.dn; have q2 := hSw.1.er; have q3 := hSw.1.pg; have q4 := hSw.1.rf; have q5 := j1; have q6 := j2; have q7 := t1; have q8 := t2; have q9 := t3; have q10 := t4; go_simp; try (with_reducible rfl))
            simp only [Act.put, sT, sZ, sS]
            refine tkH (i := 55) (oi := ⟨some 228, _, _, _, _, _⟩) (v := ?vh55) rfl (Or.inl ⟨by as_aux_lemma => rfl, ?hyh55⟩) SA.out ?resth55
            case hyh55 => (intro w hSw; have q0 := hSw.1.a; have q1 := hSw.1.dn; have q2 := hSw.1.er; have q3 := hSw.1.pg; have q4 := hSw.1.rf; have q5 := j1; have q6 := j2; have q7 := t1; have q8 := t2; have q9 := t3; have q10 := t4; go_simp; try (with_reducible rfl))
            simp only [Act.put, sT, sZ, sS]
            refine tkH (i := 58) (oi := ⟨some 231, _, _, _, _, _⟩) (v := ?vh58) rfl (Or.inl ⟨by as_aux_lemma => rfl, ?hyh58⟩) SA.out ?resth58
            case hyh58 => (intro w hSw; go_simp; try (with_reducible rfl))
            simp only [Act.put, sT, sZ, sS]
            refine tkH (i := 59) (oi := ⟨some 232, _, _, _, _, _⟩) (v := ?vh59) rfl (Or.inl ⟨by as_aux_lemma => rfl, ?hyh59⟩) SA.out ?resth59
            case hyh59 => (intro w hSw; go_simp; try (with_reducible rfl))
            simp only [Act.put, sT, sZ, sS]
            refine tkH (i := 60) (oi := ⟨some 233, _, _, _, _, _⟩) (v := ?vh60) rfl (Or.inl ⟨by as_aux_lemma => rfl, ?hyh60⟩) SA.out ?resth60
            case hyh60 => (intro w hSw; have q0 := hSw.1.a; have q1 := hSw.1.dn; have q2 := hSw.1.er; have q3 := hSw.1.pg; have q4 := hSw.1.rf; have q5 := j1; have q6 := j2; have q7 := t1; have q8 := t2; have q9 := t3; have q10 := t4; go_simp; try (with_reducible rfl))
            simp only [Act.put, sT, sZ, sS]
            refine tkH (i := 61) (oi := ⟨some 234, _, _, _, _, _⟩) (v := ?vh61) rfl (Or.inl ⟨by as_aux_lemma => rfl, ?hyh61⟩) SA.out ?resth61
            case hyh61 => (intro w hSw; go_simp; try (with_reducible rfl))
            simp only [Act.put, sT, sZ, sS]
            refine tkH (i := 62) (oi := ⟨some 235, _, _, _, _, _⟩) (v := ?vh62) rfl (Or.inl ⟨by as_aux_lemma => rfl, ?hyh62⟩) SA.out ?resth62
            case hyh62 => (intro w hSw; have q0 := hSw.1.a; have q1 := hSw.1.dn; have q2 := hSw.1.er; have q3 := hSw.1.pg; have q4 := hSw.1.rf; have q5 := j1; have q6 := j2; have q7 := t1; have q8 := t2; have q9 := t3; have q10 := t4; go_simp; try (with_reducible rfl))
            simp only [Act.put, sT, sZ, sS]
            refine tkH (i := 63) (oi := ⟨some 236, _, _, _, _, _⟩) (v := ?vh63) rfl (Or.inl ⟨by as_aux_lemma => rfl, ?hyh63⟩) SA.out ?resth63
            case hyh63 => (intro w hSw; have q0 := hSw.1.a; have q1 := hSw.1.dn; have q2 := hSw.1.er; have q3 := hSw.1.pg; have q4 := hSw.1.rf; have q5 := j1; have q6 := j2; have q7 := t1; have q8 := t2; have q9 := t3; have q10 := t4; go_simp; try (with_reducible rfl))
            simp only [Act.put, sT, sZ, sS]
            refine anyH_one (i := 56) (o := ⟨some 229, _, _, _, _, _⟩) (by as_aux_lemma => kernel_rfl) rfl (fun K hK => ?_)
            rw [if_pos (by as_aux_lemma => rfl)]
            go_simp
            refine (FP.out _ IA.out).mono ?_
            rintro ev wB ⟨vp, rfl, ho, hs⟩
            obtain ⟨va', vc', rfl, -, -⟩ := ho.lenN (n := tk) LP.out
            have SB := Lib.hid (show EndC wB ga gb cl p x.b true true 0 (.slice y.X.pa tk y.X.pc) (.slice (some ⟨lb, lo, none⟩) (t + 1) y.X.rc) cn ∧ wB.rangeAt lb (lo + t * 2) [.int .i64 (x.i.rf t).1, .int .i64 (x.i.rf t).2] from ⟨SA.out.1.step hs, rng_step SA.out.2 hs⟩)
            have BY := Lib.hid (BA.out.trans (hs.mono BA.out.size))
            clear hs ho
            refine hK.out _ _ SB.out ?_
            clear hK K
            try simp only [Act.put, sT, sZ, sS]
            refine tkH (i := 57) (oi := ⟨some 230, _, _, _, _, _⟩) (v := ?vh57) rfl (Or.inl ⟨by as_aux_lemma => rfl, ?hyh57⟩) SB.out ?resth57
            case hyh57 => (intro w hSw; have q0 := hSw.1.a; have q1 := hSw.1.dn; have q2 := hSw.1.er; have q3 := hSw.1.pg; have q4 := hSw.1.rf; have q5 := j1; have q6 := j2; have q7 := t1; have q8 := t2; have q9 := t3; have q10 := t4; go_simp; try (with_reducible rfl))
            simp only [Act.put, sT, sZ, sS]
            refine tkH (i := 64) (oi := ⟨some 237, _, _, _, _, _⟩) (v := ?vh64) rfl (Or.inl ⟨by as_aux_lemma => rfl, ?hyh64⟩) SB.out ?resth64
            case hyh64 => (intro w hSw; have q0 := hSw.1.a; have q1 := hSw.1.dn; have q2 := hSw.1.er; have q3 := hSw.1.pg; have q4 := hSw.1.rf; have q5 := j1; have q6 := j2; have q7 := t1; have q8 := t2; have q9 := t3; have q10 := t4; go_simp; try (with_reducible rfl))
            simp only [Act.put, sT, sZ, sS]
            refine tkH (i := 65) (oi := ⟨some 238, _, _, _, _, _⟩) (v := ?vh65) rfl (Or.inl ⟨by as_aux_lemma => rfl, ?hyh65⟩) SB.out ?resth65
            case hyh65 => (intro w hSw; go_simp; try (with_reducible rfl))
            simp only [Act.put, sT, sZ, sS]
            refine tkH (i := 66) (oi := ⟨some 239, _, _, _, _, _⟩) (v := ?vh66) rfl (Or.inl ⟨by as_aux_lemma => rfl, ?hyh66⟩) SB.out ?resth66
            case hyh66 => (intro w hSw; go_simp; try (with_reducible rfl))
            simp only [Act.put, sT, sZ, sS]
            refine tkH (i := 67) (oi := ⟨some 240, _, _, _, _, _⟩) (v := ?vh67) rfl (Or.inl ⟨by as_aux_lemma => rfl, ?hyh67⟩) SB.out ?resth67
            case hyh67 => (intro w hSw; go_simp; try (with_reducible rfl))
            simp only [Act.put, sT, sZ, sS]
            refine tkH (i := 68) (oi := ⟨some 241, _, _, _, _, _⟩) (v := ?vh68) rfl (Or.inl ⟨by as_aux_lemma => rfl, ?hyh68⟩) SB.out ?resth68
            case hyh68 => (intro w hSw; go_simp; try (with_reducible rfl))
            simp only [Act.put, sT, sZ, sS]
            refine tkH (i := 69) (oi := ⟨some 242, _, _, _, _, _⟩) (v := ?vh69) rfl (Or.inl ⟨by as_aux_lemma => rfl, ?hyh69⟩) SB.out ?resth69
            case hyh69 => (intro w hSw; go_simp; try (with_reducible rfl))
            simp only [Act.put, sT, sZ, sS]
            refine tkH (i := 70) (oi := ⟨some 243, _, _, _, _, _⟩) (v := ?vh70) rfl (Or.inl ⟨by as_aux_lemma => rfl, ?hyh70⟩) SB.out ?resth70
            case hyh70 => (intro w hSw; have q0 := hSw.1.a; have q1 := hSw.1.dn; have q2 := hSw.1.er; have q3 := hSw.1.pg; have q4 := hSw.1.rf; have q5 := j1; have q6 := j2; have q7 := t1; have q8 := t2; have q9 := t3; have q10 := t4; go_simp; try (with_reducible rfl))
            simp only [Act.put, sT, sZ, sS]
            refine tkH (i := 71) (oi := ⟨some 244, _, _, _, _, _⟩) (v := ?vh71) rfl (Or.inl ⟨by as_aux_lemma => rfl, ?hyh71⟩) SB.out ?resth71
            case hyh71 => (intro w hSw; go_simp; try (with_reducible rfl))
            simp only [Act.put, sT, sZ, sS]
            refine tkH (i := 72) (oi := ⟨some 245, _, _, _, _, _⟩) (v := undef) rfl (Or.inr ⟨by as_aux_lemma => rfl, rfl⟩) SB.out ?resth72
            simp only [Act.put, sT, sZ, sS]
            refine tkH (i := 73) (oi := ⟨some 246, _, _, _, _, _⟩) (v := undef) rfl (Or.inr ⟨by as_aux_lemma => rfl, rfl⟩) SB.out ?resth73
            simp only [Act.put, sT, sZ, sS]
            refine tkH (i := 74) (oi := ⟨some 247, _, _, _, _, _⟩) (v := undef) rfl (Or.inr ⟨by as_aux_lemma => rfl, rfl⟩) SB.out ?resth74
            simp only [Act.put, sT, sZ, sS]
            refine tkH (i := 75) (oi := ⟨some 248, _, _, _, _, _⟩) (v := undef) rfl (Or.inr ⟨by as_aux_lemma => rfl, rfl⟩) SB.out ?resth75
            simp only [Act.put, sT, sZ, sS]
            refine tkH (i := 76) (oi := ⟨some 249, _, _, _, _, _⟩) (v := undef) rfl (Or.inr ⟨by as_aux_lemma => rfl, rfl⟩) SB.out ?resth76
            simp only [Act.put, sT, sZ, sS]
            refine tkH (i := 77) (oi := ⟨some 250, _, _, _, _, _⟩) (v := undef) rfl (Or.inr ⟨by as_aux_lemma => rfl, rfl⟩) SB.out ?resth77
            simp only [Act.put, sT, sZ, sS]
            refine tkH (i := 78) (oi := ⟨some 251, _, _, _, _, _⟩) (v := undef) rfl (Or.inr ⟨by as_aux_lemma => rfl, rfl⟩) SB.out ?resth78
            simp only [Act.put, sT, sZ, sS]
            refine tkH (i := 79) (oi := ⟨some 252, _, _, _, _, _⟩) (v := ?vh79) rfl (Or.inl ⟨by as_aux_lemma => rfl, ?hyh79⟩) SB.out ?resth79
            case hyh79 => (intro w hSw; go_simp; try (with_reducible rfl))
            simp only [Act.put, sT, sZ, sS]
            refine tkH (i := 80) (oi := ⟨some 253, _, _, _, _, _⟩) (v := ?vh80) rfl (Or.inl ⟨by as_aux_lemma => rfl, ?hyh80⟩) SB.out ?resth80
            case hyh80 => (intro w hSw; go_simp; try (with_reducible rfl))
            simp only [Act.put, sT, sZ, sS]
            refine wpAnyH_done (by as_aux_lemma => kernel_rfl) ?_ _
            go_wp2_with fail
            go_roundg (k - (p + 1))
            case measure => have := P1'.out; omega
            case rel => exact ⟨p + 1, by omega, by go_num, BY.out⟩
          ·as_aux_lemma =>
            have hdone : y.D.done = false := hd1.trans hdn
            have hde : y.D.err = x.e := hd3 hdn
            have EF := Lib.hid (PX.out.er hdn (.inl hst))
            rw [hdone, hde] at EC
            have fd := Lib.hid (done_any wz x.b x.i PI.out hst)
            rw [hdn] at fd
            have FH := Lib.hid (fun w h => ihead_no w x.b x.i h hdn)
            unfold refV at FH
            obtain ⟨er, her⟩ : ∃ v, v = x.i.er := ⟨_, rfl⟩
            obtain ⟨ec, hec⟩ : ∃ v, v = x.e := ⟨_, rfl⟩
            rw [← her, ← hec] at EF
            rw [← hec] at EC
            rw [← her] at fd
            obtain ⟨b0, hq0, hz0, hg0⟩ := errF_nil EF.out
            have HQ := Lib.hid hq0
            have HZ := Lib.hid hz0
            have HG := Lib.hid hg0
            have y0 := EC.out.a
            clear hd1 hd2 hd3 hdone hde her hec hq0 hz0 hg0 hst hdn SI PX DY
            go_wp2_with fail
            refine fd.out.mono ?_
            rintro ev w5 ⟨rfl, hs⟩
            have EC5 := Lib.hid (EC.out.step hs)
            have B5 := Lib.hid (BZ.out.trans (hs.mono BZ.out.size))
            have PI5 := Lib.hid (PI.out.step hs)
            have EF5 := Lib.hid (EF.out.below hs)
            have G5 := Lib.hid (Fl.Glob.below hs GZ.out)
            clear hs y0 EC PI BZ EF fd
            have EFd := Lib.hid (EF5.out.below (Below.refl _ w5).drew)
            have Gd := Lib.hid (Fl.Glob.below (Below.refl _ w5).drew G5.out)
            have ECd := Lib.hid (EC5.out.step (Below.refl _ w5).drew)
            have Bd := Lib.hid (B5.out.drew)
            have PId := Lib.hid (PI5.out.step (Below.refl _ w5).drew)
            go_upto_region 29 with (fail)
            try simp only [Act.put]
            refine anyH_region (fun w' : World => EndC w' ga gb cl p x.b true false ec (.slice y.X.pa y.X.pn y.X.pc) (.slice y.X.ra y.X.rn y.X.rc) cn) (by kernel_rfl) ?_
            generalize w5.drew = wd at *
            refine tkH (i := 0) (oi := ⟨some 125, _, _, _, _, _⟩) (v := ?vi0) rfl (Or.inl ⟨by rfl, ?hyi0⟩) ECd.out ?resti0
            case hyi0 => (intro w hSw; go_simp; try (with_reducible rfl))
            simp only [Act.put, sT, sZ, sS]
            refine tkH (i := 1) (oi := ⟨some 126, _, _, _, _, _⟩) (v := ?vi1) rfl (Or.inl ⟨by rfl, ?hyi1⟩) ECd.out ?resti1
            case hyi1 => (intro w hSw; go_simp; try (with_reducible rfl))
            simp only [Act.put, sT, sZ, sS]
            refine tkH (i := 2) (oi := ⟨some 127, _, _, _, _, _⟩) (v := ?vi2) rfl (Or.inl ⟨by rfl, ?hyi2⟩) ECd.out ?resti2
            case hyi2 => (intro w hSw; have q0 := hSw.a; have q1 := hSw.ov; have q2 := hSw.ct; have q3 := j1; have q4 := j2; have q5 := jc; go_simp; try (with_reducible rfl))
            simp only [Act.put, sT, sZ, sS]
            refine tkH (i := 3) (oi := ⟨some 128, _, _, _, _, _⟩) (v := ?vi3) rfl (Or.inl ⟨by rfl, ?hyi3⟩) ECd.out ?resti3
            case hyi3 => (intro w hSw; have q0 := hSw.a; have q1 := hSw.ov; have q2 := hSw.ct; have q3 := j1; have q4 := j2; have q5 := jc; go_simp; try (with_reducible rfl))
            simp only [Act.put, sT, sZ, sS]
            refine tkH (i := 5) (oi := ⟨some 130, _, _, _, _, _⟩) (v := ?vi5) rfl (Or.inl ⟨by rfl, ?hyi5⟩) ECd.out ?resti5
            case hyi5 => (intro w hSw; go_simp; try (with_reducible rfl))
            simp only [Act.put, sT, sZ, sS]
            refine tkH (i := 6) (oi := ⟨some 131, _, _, _, _, _⟩) (v := ?vi6) rfl (Or.inl ⟨by rfl, ?hyi6⟩) ECd.out ?resti6
            case hyi6 => (intro w hSw; go_simp; try (with_reducible rfl))
            simp only [Act.put, sT, sZ, sS]
            refine tkH (i := 7) (oi := ⟨some 132, _, _, _, _, _⟩) (v := ?vi7) rfl (Or.inl ⟨by rfl, ?hyi7⟩) ECd.out ?resti7
            case hyi7 => (intro w hSw; have q0 := hSw.a; have q1 := hSw.ov; have q2 := hSw.ct; have q3 := j1; have q4 := j2; have q5 := jc; go_simp; try (with_reducible rfl))
            simp only [Act.put, sT, sZ, sS]
            refine tkH (i := 8) (oi := ⟨some 133, _, _, _, _, _⟩) (v := ?vi8) rfl (Or.inl ⟨by rfl, ?hyi8⟩) ECd.out ?resti8
            case hyi8 => (intro w hSw; go_simp; try (with_reducible rfl))
            simp only [Act.put, sT, sZ, sS]
            refine tkH (i := 9) (oi := ⟨some 134, _, _, _, _, _⟩) (v := ?vi9) rfl (Or.inl ⟨by rfl, ?hyi9⟩) ECd.out ?resti9
            case hyi9 => (intro w hSw; have q0 := hSw.a; have q1 := hSw.ov; have q2 := hSw.ct; have q3 := j1; have q4 := j2; have q5 := jc; go_simp; try (with_reducible rfl))
            simp only [Act.put, sT, sZ, sS]
            refine anyH_one (i := 4) (o := ⟨some 129, _, _, _, _, _⟩) (by kernel_rfl) rfl (fun K hK => ?_)
            rw [if_pos (by rfl)]
            go_simp
            refine (nOver_any _ x.b x.i PId.out).mono ?_
            rintro ev w6 ⟨rfl, rfl⟩
            rw [hsb]
            refine hK.out _ _ ECd.out ?_
            clear hK K
            try simp only [Act.put, sT, sZ, sS]
            refine tkH (i := 10) (oi := ⟨some 135, _, _, _, _, _⟩) (v := ?vi10) rfl (Or.inl ⟨by rfl, ?hyi10⟩) ECd.out ?resti10
            case hyi10 => (intro w hSw; have q0 := hSw.a; have q1 := hSw.ov; have q2 := hSw.ct; have q3 := j1; have q4 := j2; have q5 := jc; go_simp; try (with_reducible rfl))
            simp only [Act.put, sT, sZ, sS]
            refine tkH (i := 11) (oi := ⟨some 136, _, _, _, _, _⟩) (v := ?vi11) rfl (Or.inl ⟨by rfl, ?hyi11⟩) ECd.out ?resti11
            case hyi11 => (intro w hSw; go_simp; try (with_reducible rfl))
            simp only [Act.put, sT, sZ, sS]
            refine tkH (i := 12) (oi := ⟨some 137, _, _, _, _, _⟩) (v := ?vi12) rfl (Or.inl ⟨by rfl, ?hyi12⟩) ECd.out ?resti12
            case hyi12 => (intro w hSw; go_simp; try (with_reducible rfl))
            simp only [Act.put, sT, sZ, sS]
            refine tkH (i := 13) (oi := ⟨some 138, _, _, _, _, _⟩) (v := ?vi13) rfl (Or.inl ⟨by rfl, ?hyi13⟩) ECd.out ?resti13
            case hyi13 => (intro w hSw; go_simp; try (with_reducible rfl))
            simp only [Act.put, sT, sZ, sS]
            refine tkH (i := 14) (oi := ⟨some 139, _, _, _, _, _⟩) (v := ?vi14) rfl (Or.inl ⟨by rfl, ?hyi14⟩) ECd.out ?resti14
            case hyi14 => (intro w hSw; have q0 := hSw.a; have q1 := hSw.ov; have q2 := hSw.ct; have q3 := j1; have q4 := j2; have q5 := jc; go_simp; try (with_reducible rfl))
            simp only [Act.put, sT, sZ, sS]
            refine tkH (i := 15) (oi := ⟨some 140, _, _, _, _, _⟩) (v := ?vi15) rfl (Or.inl ⟨by rfl, ?hyi15⟩) ECd.out ?resti15
            case hyi15 => (intro w hSw; have q0 := hSw.a; have q1 := hSw.ov; have q2 := hSw.ct; have q3 := j1; have q4 := j2; have q5 := jc; go_simp; try (with_reducible rfl))
            simp only [Act.put, sT, sZ, sS]
            refine tkH (i := 16) (oi := ⟨some 141, _, _, _, _, _⟩) (v := ?vi16) rfl (Or.inl ⟨by rfl, ?hyi16⟩) ECd.out ?resti16
            case hyi16 => (intro w hSw; have q0 := hSw.a; have q1 := hSw.ov; have q2 := hSw.ct; have q3 := j1; have q4 := j2; have q5 := jc; go_simp; try (with_reducible rfl))
            simp only [Act.put, sT, sZ, sS]
            refine tkH (i := 17) (oi := ⟨some 142, _, _, _, _, _⟩) (v := ?vi17) rfl (Or.inl ⟨by rfl, ?hyi17⟩) ECd.out ?resti17
            case hyi17 => (intro w hSw; go_simp; try (with_reducible rfl))
            simp only [Act.put, sT, sZ, sS]
            refine wpAnyH_done (by kernel_rfl) ?_ _
            have y1 := ECd.out.ov
            clear EC5 B5 PI5 EF5 G5 hsb
            obtain ⟨wE, hwE⟩ : ∃ x, x = wd := ⟨_, rfl⟩
            rw [← hwE] at ECd Bd PId EFd Gd y1 ⊢
            clear hwE
            go_upto_region 34 with (fail)
            try simp only [Act.put]
            have S8 := Lib.hid (ECd.out.step (Below.refl _ wE).drew)
            have B8 := Lib.hid (Bd.out.drew)
            have I8 := Lib.hid (PId.out.step (Below.refl _ wE).drew)
            have E8 := Lib.hid (EFd.out.below (Below.refl _ wE).drew)
            have G8 := Lib.hid (Fl.Glob.below (Below.refl _ wE).drew Gd.out)
            clear ECd Bd PId EFd Gd y1
            have hq := HQ.out
            have hz := HZ.out
            have hgd := HG.out
            have ee : (ec != ec) = false := by simp
            have bb : (b0 != b0) = false := by simp
            refine anyH_region (fun w' : World => EndC w' ga gb cl p x.b true false ec (.slice y.X.pa y.X.pn y.X.pc) (.slice y.X.ra y.X.rn y.X.rc) cn) (by as_aux_lemma => kernel_rfl) ?_
            generalize wE.drew = wd at *
            refine tkH (i := 0) (oi := ⟨some 173, _, _, _, _, _⟩) (v := ?vm0) rfl (Or.inl ⟨by as_aux_lemma => rfl, ?hym0⟩) S8.out ?restm0
            case hym0 => (intro w hSw; go_simp; try (with_reducible rfl))
            simp only [Act.put, sT, sZ, sS]
            refine tkH (i := 1) (oi := ⟨some 174, _, _, _, _, _⟩) (v := ?vm1) rfl (Or.inl ⟨by as_aux_lemma => rfl, ?hym1⟩) S8.out ?restm1
            case hym1 => (intro w hSw; go_simp; try (with_reducible rfl))
            simp only [Act.put, sT, sZ, sS]
            refine tkH (i := 2) (oi := ⟨some 175, _, _, _, _, _⟩) (v := ?vm2) rfl (Or.inl ⟨by as_aux_lemma => rfl, ?hym2⟩) S8.out ?restm2
            case hym2 => (intro w hSw; go_simp; try (with_reducible rfl))
            simp only [Act.put, sT, sZ, sS]
            refine tkH (i := 3) (oi := ⟨some 176, _, _, _, _, _⟩) (v := ?vm3) rfl (Or.inl ⟨by as_aux_lemma => rfl, ?hym3⟩) S8.out ?restm3
            case hym3 => (intro w hSw; have q0 := hSw.a; have q1 := hSw.dn; have q2 := hSw.er; have q3 := j1; have q4 := j2; have q5 := hq; have q6 := hz; have q7 := ee; have q8 := bb; have q9 := hgd; go_simp; try (with_reducible rfl))
            simp only [Act.put, sT, sZ, sS]
            refine tkH (i := 4) (oi := ⟨some 177, _, _, _, _, _⟩) (v := ?vm4) rfl (Or.inl ⟨by as_aux_lemma => rfl, ?hym4⟩) S8.out ?restm4
            case hym4 => (intro w hSw; go_simp; try (with_reducible rfl))
            simp only [Act.put, sT, sZ, sS]
            refine tkH (i := 5) (oi := ⟨some 178, _, _, _, _, _⟩) (v := ?vm5) rfl (Or.inl ⟨by as_aux_lemma => rfl, ?hym5⟩) S8.out ?restm5
            case hym5 => (intro w hSw; have q0 := hSw.a; have q1 := hSw.dn; have q2 := hSw.er; have q3 := j1; have q4 := j2; have q5 := hq; have q6 := hz; have q7 := ee; have q8 := bb; have q9 := hgd; go_simp; try (with_reducible rfl))
            simp only [Act.put, sT, sZ, sS]
            refine tkH (i := 6) (oi := ⟨some 179, _, _, _, _, _⟩) (v := ?vm6) rfl (Or.inl ⟨by as_aux_lemma => rfl, ?hym6⟩) S8.out ?restm6
            case hym6 => (intro w hSw; have q0 := hSw.a; have q1 := hSw.dn; have q2 := hSw.er; have q3 := j1; have q4 := j2; have q5 := hq; have q6 := hz; have q7 := ee; have q8 := bb; have q9 := hgd; go_simp; try (with_reducible rfl))
            simp only [Act.put, sT, sZ, sS]
            refine tkH (i := 7) (oi := ⟨some 180, _, _, _, _, _⟩) (v := ?vm7) rfl (Or.inl ⟨by as_aux_lemma => rfl, ?hym7⟩) S8.out ?restm7
            case hym7 => (intro w hSw; go_simp; try (with_reducible rfl))
            simp only [Act.put, sT, sZ, sS]
            refine tkH (i := 8) (oi := ⟨some 181, _, _, _, _, _⟩) (v := ?vm8) rfl (Or.inl ⟨by as_aux_lemma => rfl, ?hym8⟩) S8.out ?restm8
            case hym8 => (intro w hSw; go_simp; try (with_reducible rfl))
            simp only [Act.put, sT, sZ, sS]
            refine tkH (i := 10) (oi := ⟨some 183, _, _, _, _, _⟩) (v := ?vm10) rfl (Or.inl ⟨by as_aux_lemma => rfl, ?hym10⟩) S8.out ?restm10
            case hym10 => (intro w hSw; go_simp; try (with_reducible rfl))
            simp only [Act.put, sT, sZ, sS]
            refine tkH (i := 11) (oi := ⟨some 184, _, _, _, _, _⟩) (v := ?vm11) rfl (Or.inl ⟨by as_aux_lemma => rfl, ?hym11⟩) S8.out ?restm11
            case hym11 => (intro w hSw; go_simp; try (with_reducible rfl))
            simp only [Act.put, sT, sZ, sS]
            refine tkH (i := 12) (oi := ⟨some 185, _, _, _, _, _⟩) (v := ?vm12) rfl (Or.inl ⟨by as_aux_lemma => rfl, ?hym12⟩) S8.out ?restm12
            case hym12 => (intro w hSw; have q0 := hSw.a; have q1 := hSw.dn; have q2 := hSw.er; have q3 := j1; have q4 := j2; have q5 := hq; have q6 := hz; have q7 := ee; have q8 := bb; have q9 := hgd; go_simp; try (with_reducible rfl))
            simp only [Act.put, sT, sZ, sS]
            refine tkH (i := 13) (oi := ⟨some 186, _, _, _, _, _⟩) (v := ?vm13) rfl (Or.inl ⟨by as_aux_lemma => rfl, ?hym13⟩) S8.out ?restm13
            case hym13 => (intro w hSw; go_simp; try (with_reducible rfl))
            simp only [Act.put, sT, sZ, sS]
            refine tkH (i := 14) (oi := ⟨some 187, _, _, _, _, _⟩) (v := ?vm14) rfl (Or.inl ⟨by as_aux_lemma => rfl, ?hym14⟩) S8.out ?restm14
            case hym14 => (intro w hSw; have q0 := hSw.a; have q1 := hSw.dn; have q2 := hSw.er; have q3 := j1; have q4 := j2; have q5 := hq; have q6 := hz; have q7 := ee; have q8 := bb; have q9 := hgd; go_simp; try (with_reducible rfl))
            simp only [Act.put, sT, sZ, sS]
            refine anyH_one (i := 9) (o := ⟨some 182, _, _, _, _, _⟩) (by as_aux_lemma => kernel_rfl) rfl (fun K hK => ?_)
            rw [if_pos (by as_aux_lemma => rfl)]
            go_simp
            refine (code_errF er ec _ E8.out G8.out).mono ?_
            rintro ev w9 ⟨rfl, hs⟩
            have S9 := Lib.hid (S8.out.step hs)
            have B9 := Lib.hid (B8.out.trans (hs.mono B8.out.size))
            have I9 := Lib.hid (I8.out.step hs)
            clear hs
            refine hK.out _ _ S9.out ?_
            clear hK K
            try simp only [Act.put, sT, sZ, sS]
            refine tkH (i := 15) (oi := ⟨some 188, _, _, _, _, _⟩) (v := ?vm15) rfl (Or.inl ⟨by as_aux_lemma => rfl, ?hym15⟩) S9.out ?restm15
            case hym15 => (intro w hSw; have q0 := hSw.a; have q1 := hSw.dn; have q2 := hSw.er; have q3 := j1; have q4 := j2; have q5 := hq; have q6 := hz; have q7 := ee; have q8 := bb; have q9 := hgd; go_simp; try (with_reducible rfl))
            simp only [Act.put, sT, sZ, sS]
            refine tkH (i := 16) (oi := ⟨some 189, _, _, _, _, _⟩) (v := ?vm16) rfl (Or.inl ⟨by as_aux_lemma => rfl, ?hym16⟩) S9.out ?restm16
            case hym16 => (intro w hSw; go_simp; try (with_reducible rfl))
            simp only [Act.put, sT, sZ, sS]
            refine tkH (i := 17) (oi := ⟨some 190, _, _, _, _, _⟩) (v := ?vm17) rfl (Or.inl ⟨by as_aux_lemma => rfl, ?hym17⟩) S9.out ?restm17
            case hym17 => (intro w hSw; go_simp; try (with_reducible rfl))
            simp only [Act.put, sT, sZ, sS]
            refine tkH (i := 18) (oi := ⟨some 191, _, _, _, _, _⟩) (v := ?vm18) rfl (Or.inl ⟨by as_aux_lemma => rfl, ?hym18⟩) S9.out ?restm18
            case hym18 => (intro w hSw; go_simp; try (with_reducible rfl))
            simp only [Act.put, sT, sZ, sS]
            refine tkH (i := 19) (oi := ⟨some 192, _, _, _, _, _⟩) (v := ?vm19) rfl (Or.inl ⟨by as_aux_lemma => rfl, ?hym19⟩) S9.out ?restm19
            case hym19 => (intro w hSw; have q0 := hSw.a; have q1 := hSw.dn; have q2 := hSw.er; have q3 := j1; have q4 := j2; have q5 := hq; have q6 := hz; have q7 := ee; have q8 := bb; have q9 := hgd; go_simp; try (with_reducible rfl))
            simp only [Act.put, sT, sZ, sS]
            refine tkH (i := 20) (oi := ⟨some 193, _, _, _, _, _⟩) (v := ?vm20) rfl (Or.inl ⟨by as_aux_lemma => rfl, ?hym20⟩) S9.out ?restm20
            case hym20 => (intro w hSw; go_simp; try (with_reducible rfl))
            simp only [Act.put, sT, sZ, sS]
            refine tkH (i := 21) (oi := ⟨some 194, _, _, _, _, _⟩) (v := ?vm21) rfl (Or.inl ⟨by as_aux_lemma => rfl, ?hym21⟩) S9.out ?restm21
            case hym21 => (intro w hSw; go_simp; try (with_reducible rfl))
            simp only [Act.put, sT, sZ, sS]
            refine tkH (i := 22) (oi := ⟨some 195, _, _, _, _, _⟩) (v := ?vm22) rfl (Or.inl ⟨by as_aux_lemma => rfl, ?hym22⟩) S9.out ?restm22
            case hym22 => (intro w hSw; have q0 := hSw.a; have q1 := hSw.dn; have q2 := hSw.er; have q3 := j1; have q4 := j2; have q5 := hq; have q6 := hz; have q7 := ee; have q8 := bb; have q9 := hgd; go_simp; try (with_reducible rfl))
            simp only [Act.put, sT, sZ, sS]
            refine tkH (i := 23) (oi := ⟨some 196, _, _, _, _, _⟩) (v := ?vm23) rfl (Or.inl ⟨by as_aux_lemma => rfl, ?hym23⟩) S9.out ?restm23
            case hym23 => (intro w hSw; go_simp; try (with_reducible rfl))
            simp only [Act.put, sT, sZ, sS]
            refine tkH (i := 24) (oi := ⟨some 197, _, _, _, _, _⟩) (v := ?vm24) rfl (Or.inl ⟨by as_aux_lemma => rfl, ?hym24⟩) S9.out ?restm24
            case hym24 => (intro w hSw; have q0 := hSw.a; have q1 := hSw.dn; have q2 := hSw.er; have q3 := j1; have q4 := j2; have q5 := hq; have q6 := hz; have q7 := ee; have q8 := bb; have q9 := hgd; go_simp; try (with_reducible rfl))
            simp only [Act.put, sT, sZ, sS]
            refine tkH (i := 25) (oi := ⟨some 198, _, _, _, _, _⟩) (v := ?vm25) rfl (Or.inl ⟨by as_aux_lemma => rfl, ?hym25⟩) S9.out ?restm25
            case hym25 => (intro w hSw; have q0 := hSw.a; have q1 := hSw.dn; have q2 := hSw.er; have q3 := j1; have q4 := j2; have q5 := hq; have q6 := hz; have q7 := ee; have q8 := bb; have q9 := hgd; go_simp; try (with_reducible rfl))
            simp only [Act.put, sT, sZ, sS]
            refine tkH (i := 26) (oi := ⟨some 199, _, _, _, _, _⟩) (v := ?vm26) rfl (Or.inl ⟨by as_aux_lemma => rfl, ?hym26⟩) S9.out ?restm26
            case hym26 => (intro w hSw; have q0 := hSw.a; have q1 := hSw.dn; have q2 := hSw.er; have q3 := j1; have q4 := j2; have q5 := hq; have q6 := hz; have q7 := ee; have q8 := bb; have q9 := hgd; go_simp; try (with_reducible rfl))
            simp only [Act.put, sT, sZ, sS]
            refine tkH (i := 27) (oi := ⟨some 200, _, _, _, _, _⟩) (v := ?vm27) rfl (Or.inl ⟨by as_aux_lemma => rfl, ?hym27⟩) S9.out ?restm27
            case hym27 => (intro w hSw; go_simp; try (with_reducible rfl))
            simp only [Act.put, sT, sZ, sS]
            refine tkH (i := 28) (oi := ⟨some 201, _, _, _, _, _⟩) (v := ?vm28) rfl (Or.inl ⟨by as_aux_lemma => rfl, ?hym28⟩) S9.out ?restm28
            case hym28 => (intro w hSw; go_simp; try (with_reducible rfl))
            simp only [Act.put, sT, sZ, sS]
            refine tkH (i := 29) (oi := ⟨some 202, _, _, _, _, _⟩) (v := ?vm29) rfl (Or.inl ⟨by as_aux_lemma => rfl, ?hym29⟩) S9.out ?restm29
            case hym29 => (intro w hSw; go_simp; try (with_reducible rfl))
            simp only [Act.put, sT, sZ, sS]
            refine tkH (i := 30) (oi := ⟨some 203, _, _, _, _, _⟩) (v := ?vm30) rfl (Or.inl ⟨by as_aux_lemma => rfl, ?hym30⟩) S9.out ?restm30
            case hym30 => (intro w hSw; go_simp; try (with_reducible rfl))
            simp only [Act.put, sT, sZ, sS]
            refine tkH (i := 31) (oi := ⟨some 204, _, _, _, _, _⟩) (v := undef) rfl (Or.inr ⟨by as_aux_lemma => rfl, rfl⟩) S9.out ?restm31
            simp only [Act.put, sT, sZ, sS]
            refine tkH (i := 32) (oi := ⟨some 205, _, _, _, _, _⟩) (v := undef) rfl (Or.inr ⟨by as_aux_lemma => rfl, rfl⟩) S9.out ?restm32
            simp only [Act.put, sT, sZ, sS]
            refine tkH (i := 33) (oi := ⟨some 206, _, _, _, _, _⟩) (v := undef) rfl (Or.inr ⟨by as_aux_lemma => rfl, rfl⟩) S9.out ?restm33
            simp only [Act.put, sT, sZ, sS]
            refine tkH (i := 34) (oi := ⟨some 207, _, _, _, _, _⟩) (v := undef) rfl (Or.inr ⟨by as_aux_lemma => rfl, rfl⟩) S9.out ?restm34
            simp only [Act.put, sT, sZ, sS]
            refine tkH (i := 35) (oi := ⟨some 208, _, _, _, _, _⟩) (v := undef) rfl (Or.inr ⟨by as_aux_lemma => rfl, rfl⟩) S9.out ?restm35
            simp only [Act.put, sT, sZ, sS]
            refine tkH (i := 36) (oi := ⟨some 209, _, _, _, _, _⟩) (v := undef) rfl (Or.inr ⟨by as_aux_lemma => rfl, rfl⟩) S9.out ?restm36
            simp only [Act.put, sT, sZ, sS]
            refine tkH (i := 37) (oi := ⟨some 210, _, _, _, _, _⟩) (v := undef) rfl (Or.inr ⟨by as_aux_lemma => rfl, rfl⟩) S9.out ?restm37
            simp only [Act.put, sT, sZ, sS]
            refine tkH (i := 38) (oi := ⟨some 211, _, _, _, _, _⟩) (v := undef) rfl (Or.inr ⟨by as_aux_lemma => rfl, rfl⟩) S9.out ?restm38
            simp only [Act.put, sT, sZ, sS]
            refine tkH (i := 39) (oi := ⟨some 212, _, _, _, _, _⟩) (v := undef) rfl (Or.inr ⟨by as_aux_lemma => rfl, rfl⟩) S9.out ?restm39
            simp only [Act.put, sT, sZ, sS]
            refine tkH (i := 40) (oi := ⟨some 213, _, _, _, _, _⟩) (v := undef) rfl (Or.inr ⟨by as_aux_lemma => rfl, rfl⟩) S9.out ?restm40
            simp only [Act.put, sT, sZ, sS]
            refine tkH (i := 41) (oi := ⟨some 214, _, _, _, _, _⟩) (v := undef) rfl (Or.inr ⟨by as_aux_lemma => rfl, rfl⟩) S9.out ?restm41
            simp only [Act.put, sT, sZ, sS]
            refine tkH (i := 42) (oi := ⟨some 215, _, _, _, _, _⟩) (v := undef) rfl (Or.inr ⟨by as_aux_lemma => rfl, rfl⟩) S9.out ?restm42
            simp only [Act.put, sT, sZ, sS]
            refine tkH (i := 43) (oi := ⟨some 216, _, _, _, _, _⟩) (v := undef) rfl (Or.inr ⟨by as_aux_lemma => rfl, rfl⟩) S9.out ?restm43
            simp only [Act.put, sT, sZ, sS]
            refine tkH (i := 44) (oi := ⟨some 217, _, _, _, _, _⟩) (v := undef) rfl (Or.inr ⟨by as_aux_lemma => rfl, rfl⟩) S9.out ?restm44
            simp only [Act.put, sT, sZ, sS]
            refine tkH (i := 45) (oi := ⟨some 218, _, _, _, _, _⟩) (v := undef) rfl (Or.inr ⟨by as_aux_lemma => rfl, rfl⟩) S9.out ?restm45
            simp only [Act.put, sT, sZ, sS]
            refine tkH (i := 46) (oi := ⟨some 219, _, _, _, _, _⟩) (v := undef) rfl (Or.inr ⟨by as_aux_lemma => rfl, rfl⟩) S9.out ?restm46
            simp only [Act.put, sT, sZ, sS]
            refine tkH (i := 47) (oi := ⟨some 220, _, _, _, _, _⟩) (v := undef) rfl (Or.inr ⟨by as_aux_lemma => rfl, rfl⟩) S9.out ?restm47
            simp only [Act.put, sT, sZ, sS]
            refine tkH (i := 48) (oi := ⟨some 221, _, _, _, _, _⟩) (v := undef) rfl (Or.inr ⟨by as_aux_lemma => rfl, rfl⟩) S9.out ?restm48
            simp only [Act.put, sT, sZ, sS]
            refine tkH (i := 49) (oi := ⟨some 222, _, _, _, _, _⟩) (v := undef) rfl (Or.inr ⟨by as_aux_lemma => rfl, rfl⟩) S9.out ?restm49
            simp only [Act.put, sT, sZ, sS]
            refine tkH (i := 50) (oi := ⟨some 223, _, _, _, _, _⟩) (v := undef) rfl (Or.inr ⟨by as_aux_lemma => rfl, rfl⟩) S9.out ?restm50
            simp only [Act.put, sT, sZ, sS]
            refine tkH (i := 51) (oi := ⟨some 224, _, _, _, _, _⟩) (v := undef) rfl (Or.inr ⟨by as_aux_lemma => rfl, rfl⟩) S9.out ?restm51
            simp only [Act.put, sT, sZ, sS]
            refine tkH (i := 52) (oi := ⟨some 225, _, _, _, _, _⟩) (v := undef) rfl (Or.inr ⟨by as_aux_lemma => rfl, rfl⟩) S9.out ?restm52
            simp only [Act.put, sT, sZ, sS]
            refine tkH (i := 53) (oi := ⟨some 226, _, _, _, _, _⟩) (v := undef) rfl (Or.inr ⟨by as_aux_lemma => rfl, rfl⟩) S9.out ?restm53
            simp only [Act.put, sT, sZ, sS]
            refine tkH (i := 54) (oi := ⟨some 227, _, _, _, _, _⟩) (v := undef) rfl (Or.inr ⟨by as_aux_lemma => rfl, rfl⟩) S9.out ?restm54
            simp only [Act.put, sT, sZ, sS]
            refine tkH (i := 55) (oi := ⟨some 228, _, _, _, _, _⟩) (v := undef) rfl (Or.inr ⟨by as_aux_lemma => rfl, rfl⟩) S9.out ?restm55
            simp only [Act.put, sT, sZ, sS]
            refine tkH (i := 56) (oi := ⟨some 229, _, _, _, _, _⟩) (v := undef) rfl (Or.inr ⟨by as_aux_lemma => rfl, rfl⟩) S9.out ?restm56
            simp only [Act.put, sT, sZ, sS]
            refine tkH (i := 57) (oi := ⟨some 230, _, _, _, _, _⟩) (v := undef) rfl (Or.inr ⟨by as_aux_lemma => rfl, rfl⟩) S9.out ?restm57
            simp only [Act.put, sT, sZ, sS]
            refine tkH (i := 58) (oi := ⟨some 231, _, _, _, _, _⟩) (v := undef) rfl (Or.inr ⟨by as_aux_lemma => rfl, rfl⟩) S9.out ?restm58
            simp only [Act.put, sT, sZ, sS]
            refine tkH (i := 59) (oi := ⟨some 232, _, _, _, _, _⟩) (v := undef) rfl (Or.inr ⟨by as_aux_lemma => rfl, rfl⟩) S9.out ?restm59
            simp only [Act.put, sT, sZ, sS]
            refine tkH (i := 60) (oi := ⟨some 233, _, _, _, _, _⟩) (v := undef) rfl (Or.inr ⟨by as_aux_lemma => rfl, rfl⟩) S9.out ?restm60
            simp only [Act.put, sT, sZ, sS]
            refine tkH (i := 61) (oi := ⟨some 234, _, _, _, _, _⟩) (v := undef) rfl (Or.inr ⟨by as_aux_lemma => rfl, rfl⟩) S9.out ?restm61
            simp only [Act.put, sT, sZ, sS]
            refine tkH (i := 62) (oi := ⟨some 235, _, _, _, _, _⟩) (v := undef) rfl (Or.inr ⟨by as_aux_lemma => rfl, rfl⟩) S9.out ?restm62
            simp only [Act.put, sT, sZ, sS]
            refine tkH (i := 63) (oi := ⟨some 236, _, _, _, _, _⟩) (v := undef) rfl (Or.inr ⟨by as_aux_lemma => rfl, rfl⟩) S9.out ?restm63
            simp only [Act.put, sT, sZ, sS]
            refine tkH (i := 64) (oi := ⟨some 237, _, _, _, _, _⟩) (v := undef) rfl (Or.inr ⟨by as_aux_lemma => rfl, rfl⟩) S9.out ?restm64
            simp only [Act.put, sT, sZ, sS]
            refine tkH (i := 65) (oi := ⟨some 238, _, _, _, _, _⟩) (v := undef) rfl (Or.inr ⟨by as_aux_lemma => rfl, rfl⟩) S9.out ?restm65
            simp only [Act.put, sT, sZ, sS]
            refine tkH (i := 66) (oi := ⟨some 239, _, _, _, _, _⟩) (v := ?vm66) rfl (Or.inl ⟨by as_aux_lemma => rfl, ?hym66⟩) S9.out ?restm66
            case hym66 => (intro w hSw; go_simp; try (with_reducible rfl))
            simp only [Act.put, sT, sZ, sS]
            refine tkH (i := 67) (oi := ⟨some 240, _, _, _, _, _⟩) (v := ?vm67) rfl (Or.inl ⟨by as_aux_lemma => rfl, ?hym67⟩) S9.out ?restm67
            case hym67 => (intro w hSw; go_simp; try (with_reducible rfl))
            simp only [Act.put, sT, sZ, sS]
            refine tkH (i := 68) (oi := ⟨some 241, _, _, _, _, _⟩) (v := ?vm68) rfl (Or.inl ⟨by as_aux_lemma => rfl, ?hym68⟩) S9.out ?restm68
            case hym68 => (intro w hSw; go_simp; try (with_reducible rfl))
            simp only [Act.put, sT, sZ, sS]
            refine tkH (i := 69) (oi := ⟨some 242, _, _, _, _, _⟩) (v := ?vm69) rfl (Or.inl ⟨by as_aux_lemma => rfl, ?hym69⟩) S9.out ?restm69
            case hym69 => (intro w hSw; go_simp; try (with_reducible rfl))
            simp only [Act.put, sT, sZ, sS]
            refine tkH (i := 70) (oi := ⟨some 243, _, _, _, _, _⟩) (v := ?vm70) rfl (Or.inl ⟨by as_aux_lemma => rfl, ?hym70⟩) S9.out ?restm70
            case hym70 => (intro w hSw; have q0 := hSw.a; have q1 := hSw.dn; have q2 := hSw.er; have q3 := j1; have q4 := j2; have q5 := hq; have q6 := hz; have q7 := ee; have q8 := bb; have q9 := hgd; go_simp; try (with_reducible rfl))
            simp only [Act.put, sT, sZ, sS]
            refine tkH (i := 71) (oi := ⟨some 244, _, _, _, _, _⟩) (v := ?vm71) rfl (Or.inl ⟨by as_aux_lemma => rfl, ?hym71⟩) S9.out ?restm71
            case hym71 => (intro w hSw; go_simp; try (with_reducible rfl))
            simp only [Act.put, sT, sZ, sS]
            refine tkH (i := 72) (oi := ⟨some 245, _, _, _, _, _⟩) (v := ?vm72) rfl (Or.inl ⟨by as_aux_lemma => rfl, ?hym72⟩) S9.out ?restm72
            case hym72 => (intro w hSw; go_simp; try (with_reducible rfl))
            simp only [Act.put, sT, sZ, sS]
            refine tkH (i := 73) (oi := ⟨some 246, _, _, _, _, _⟩) (v := ?vm73) rfl (Or.inl ⟨by as_aux_lemma => rfl, ?hym73⟩) S9.out ?restm73
            case hym73 => (intro w hSw; go_simp; try (with_reducible rfl))
            simp only [Act.put, sT, sZ, sS]
            refine tkH (i := 74) (oi := ⟨some 247, _, _, _, _, _⟩) (v := ?vm74) rfl (Or.inl ⟨by as_aux_lemma => rfl, ?hym74⟩) S9.out ?restm74
            case hym74 => (intro w hSw; have q0 := hSw.a; have q1 := hSw.dn; have q2 := hSw.er; have q3 := j1; have q4 := j2; have q5 := hq; have q6 := hz; have q7 := ee; have q8 := bb; have q9 := hgd; go_simp; try (with_reducible rfl))
            simp only [Act.put, sT, sZ, sS]
            refine tkH (i := 75) (oi := ⟨some 248, _, _, _, _, _⟩) (v := ?vm75) rfl (Or.inl ⟨by as_aux_lemma => rfl, ?hym75⟩) S9.out ?restm75
            case hym75 => (intro w hSw; have q0 := hSw.a; have q1 := hSw.dn; have q2 := hSw.er; have q3 := j1; have q4 := j2; have q5 := hq; have q6 := hz; have q7 := ee; have q8 := bb; have q9 := hgd; go_simp; try (with_reducible rfl))
            simp only [Act.put, sT, sZ, sS]
            refine tkH (i := 77) (oi := ⟨some 250, _, _, _, _, _⟩) (v := ?vm77) rfl (Or.inl ⟨by as_aux_lemma => rfl, ?hym77⟩) S9.out ?restm77
            case hym77 => (intro w hSw; go_simp; try (with_reducible rfl))
            simp only [Act.put, sT, sZ, sS]
            refine anyH_one (i := 76) (o := ⟨some 249, _, _, _, _, _⟩) (by as_aux_lemma => kernel_rfl) rfl (fun K hK => ?_)
            rw [if_pos (by as_aux_lemma => rfl)]
            go_simp
            refine (FH.out _ I9.out).mono ?_
            rintro ev wA ⟨rfl, hs⟩
            have SA := Lib.hid (S9.out.step hs)
            have BY := Lib.hid (B9.out.trans (hs.mono B9.out.size))
            clear hs
            refine hK.out _ _ SA.out ?_
            clear hK K
            try simp only [Act.put, sT, sZ, sS]
            refine tkH (i := 78) (oi := ⟨some 251, _, _, _, _, _⟩) (v := ?vm78) rfl (Or.inl ⟨by as_aux_lemma => rfl, ?hym78⟩) SA.out ?restm78
            case hym78 => (intro w hSw; have q0 := hSw.a; have q1 := hSw.dn; have q2 := hSw.er; have q3 := j1; have q4 := j2; have q5 := hq; have q6 := hz; have q7 := ee; have q8 := bb; have q9 := hgd; go_simp; try (with_reducible rfl))
            simp only [Act.put, sT, sZ, sS]
            refine tkH (i := 79) (oi := ⟨some 252, _, _, _, _, _⟩) (v := ?vm79) rfl (Or.inl ⟨by as_aux_lemma => rfl, ?hym79⟩) SA.out ?restm79
            case hym79 => (intro w hSw; go_simp; try (with_reducible rfl))
            simp only [Act.put, sT, sZ, sS]
            refine tkH (i := 80) (oi := ⟨some 253, _, _, _, _, _⟩) (v := ?vm80) rfl (Or.inl ⟨by as_aux_lemma => rfl, ?hym80⟩) SA.out ?restm80
            case hym80 => (intro w hSw; go_simp; try (with_reducible rfl))
            simp only [Act.put, sT, sZ, sS]
            refine wpAnyH_done (by as_aux_lemma => kernel_rfl) ?_ _
            go_wp2_with fail
            go_roundg (k - (p + 1))
            case measure => have := P1'.out; omega
            case rel => exact ⟨p + 1, by omega, by go_num, BY.out⟩
         ·as_aux_lemma =>
           have hov : y.D.over = false := by rw [SI.out.over]; exact decide_eq_false hst
           have hdn := Lib.hid (PX.out.ag.sh.dn0 hst)
           have PI := Lib.hid PX.out.ag.lies
           have hsb : ((x.i.st : Int) == 0) = false := by rw [beq_eq_false_iff_ne]; omega
           have HS := Lib.hid hst
           rw [hov] at EC
           have y0 := EC.out.a
           clear hov hst SI DY PX
           go_wp2_with fail
           refine (done_busy _ x.b x.i PI.out HS.out).mono ?_
           rintro ev w5 ⟨rfl, hs⟩
           have EC5 := Lib.hid (EC.out.step hs)
           have B5 := Lib.hid (BZ.out.trans (hs.mono BZ.out.size))
           have PI5 := Lib.hid (PI.out.step hs)
           clear hs y0 EC PI BZ
           have ECd := Lib.hid (EC5.out.step (Below.refl _ w5).drew)
           have Bd := Lib.hid (B5.out.drew)
           have PId := Lib.hid (PI5.out.step (Below.refl _ w5).drew)
           go_upto_region 29 with (fail)
           try simp only [Act.put]
           refine anyH_region (fun w' : World => EndC w' ga gb cl p x.b false y.D.done y.D.err (.slice y.X.pa y.X.pn y.X.pc) (.slice y.X.ra y.X.rn y.X.rc) cn) (by kernel_rfl) ?_
           generalize w5.drew = wd at *
           refine tkH (i := 0) (oi := ⟨some 125, _, _, _, _, _⟩) (v := ?vf0) rfl (Or.inl ⟨by rfl, ?hyf0⟩) ECd.out ?restf0
           case hyf0 => (intro w hSw; go_simp; try (with_reducible rfl))
           simp only [Act.put, sT, sZ, sS]
           refine tkH (i := 1) (oi := ⟨some 126, _, _, _, _, _⟩) (v := ?vf1) rfl (Or.inl ⟨by rfl, ?hyf1⟩) ECd.out ?restf1
           case hyf1 => (intro w hSw; go_simp; try (with_reducible rfl))
           simp only [Act.put, sT, sZ, sS]
           refine tkH (i := 2) (oi := ⟨some 127, _, _, _, _, _⟩) (v := ?vf2) rfl (Or.inl ⟨by rfl, ?hyf2⟩) ECd.out ?restf2
           case hyf2 => (intro w hSw; have q0 := hSw.a; have q1 := hSw.ov; have q2 := hSw.ct; have q3 := j1; have q4 := j2; have q5 := jc; go_simp; try (with_reducible rfl))
           simp only [Act.put, sT, sZ, sS]
           refine tkH (i := 3) (oi := ⟨some 128, _, _, _, _, _⟩) (v := ?vf3) rfl (Or.inl ⟨by rfl, ?hyf3⟩) ECd.out ?restf3
           case hyf3 => (intro w hSw; have q0 := hSw.a; have q1 := hSw.ov; have q2 := hSw.ct; have q3 := j1; have q4 := j2; have q5 := jc; go_simp; try (with_reducible rfl))
           simp only [Act.put, sT, sZ, sS]
           refine tkH (i := 5) (oi := ⟨some 130, _, _, _, _, _⟩) (v := ?vf5) rfl (Or.inl ⟨by rfl, ?hyf5⟩) ECd.out ?restf5
           case hyf5 => (intro w hSw; go_simp; try (with_reducible rfl))
           simp only [Act.put, sT, sZ, sS]
           refine tkH (i := 6) (oi := ⟨some 131, _, _, _, _, _⟩) (v := ?vf6) rfl (Or.inl ⟨by rfl, ?hyf6⟩) ECd.out ?restf6
           case hyf6 => (intro w hSw; go_simp; try (with_reducible rfl))
           simp only [Act.put, sT, sZ, sS]
           refine tkH (i := 7) (oi := ⟨some 132, _, _, _, _, _⟩) (v := ?vf7) rfl (Or.inl ⟨by rfl, ?hyf7⟩) ECd.out ?restf7
           case hyf7 => (intro w hSw; have q0 := hSw.a; have q1 := hSw.ov; have q2 := hSw.ct; have q3 := j1; have q4 := j2; have q5 := jc; go_simp; try (with_reducible rfl))
           simp only [Act.put, sT, sZ, sS]
           refine tkH (i := 8) (oi := ⟨some 133, _, _, _, _, _⟩) (v := ?vf8) rfl (Or.inl ⟨by rfl, ?hyf8⟩) ECd.out ?restf8
           case hyf8 => (intro w hSw; go_simp; try (with_reducible rfl))
           simp only [Act.put, sT, sZ, sS]
           refine tkH (i := 9) (oi := ⟨some 134, _, _, _, _, _⟩) (v := ?vf9) rfl (Or.inl ⟨by rfl, ?hyf9⟩) ECd.out ?restf9
           case hyf9 => (intro w hSw; have q0 := hSw.a; have q1 := hSw.ov; have q2 := hSw.ct; have q3 := j1; have q4 := j2; have q5 := jc; go_simp; try (with_reducible rfl))
           simp only [Act.put, sT, sZ, sS]
           refine anyH_one (i := 4) (o := ⟨some 129, _, _, _, _, _⟩) (by kernel_rfl) rfl (fun K hK => ?_)
           rw [if_pos (by rfl)]
           go_simp
           refine (nOver_any _ x.b x.i PId.out).mono ?_
           rintro ev w6 ⟨rfl, rfl⟩
           rw [hsb]
           refine hK.out _ _ ECd.out ?_
           clear hK K
           try simp only [Act.put, sT, sZ, sS]
           refine tkH (i := 10) (oi := ⟨some 135, _, _, _, _, _⟩) (v := ?vf10) rfl (Or.inl ⟨by rfl, ?hyf10⟩) ECd.out ?restf10
           case hyf10 => (intro w hSw; have q0 := hSw.a; have q1 := hSw.ov; have q2 := hSw.ct; have q3 := j1; have q4 := j2; have q5 := jc; go_simp; try (with_reducible rfl))
           simp only [Act.put, sT, sZ, sS]
           refine tkH (i := 11) (oi := ⟨some 136, _, _, _, _, _⟩) (v := ?vf11) rfl (Or.inl ⟨by rfl, ?hyf11⟩) ECd.out ?restf11
           case hyf11 => (intro w hSw; go_simp; try (with_reducible rfl))
           simp only [Act.put, sT, sZ, sS]
           refine tkH (i := 12) (oi := ⟨some 137, _, _, _, _, _⟩) (v := ?vf12) rfl (Or.inl ⟨by rfl, ?hyf12⟩) ECd.out ?restf12
           case hyf12 => (intro w hSw; go_simp; try (with_reducible rfl))
           simp only [Act.put, sT, sZ, sS]
           refine tkH (i := 13) (oi := ⟨some 138, _, _, _, _, _⟩) (v := ?vf13) rfl (Or.inl ⟨by rfl, ?hyf13⟩) ECd.out ?restf13
           case hyf13 => (intro w hSw; go_simp; try (with_reducible rfl))
           simp only [Act.put, sT, sZ, sS]
           refine tkH (i := 14) (oi := ⟨some 139, _, _, _, _, _⟩) (v := ?vf14) rfl (Or.inl ⟨by rfl, ?hyf14⟩) ECd.out ?restf14
           case hyf14 => (intro w hSw; have q0 := hSw.a; have q1 := hSw.ov; have q2 := hSw.ct; have q3 := j1; have q4 := j2; have q5 := jc; go_simp; try (with_reducible rfl))
           simp only [Act.put, sT, sZ, sS]
           refine tkH (i := 15) (oi := ⟨some 140, _, _, _, _, _⟩) (v := ?vf15) rfl (Or.inl ⟨by rfl, ?hyf15⟩) ECd.out ?restf15
           case hyf15 => (intro w hSw; have q0 := hSw.a; have q1 := hSw.ov; have q2 := hSw.ct; have q3 := j1; have q4 := j2; have q5 := jc; go_simp; try (with_reducible rfl))
           simp only [Act.put, sT, sZ, sS]
           refine tkH (i := 16) (oi := ⟨some 141, _, _, _, _, _⟩) (v := ?vf16) rfl (Or.inl ⟨by rfl, ?hyf16⟩) ECd.out ?restf16
           case hyf16 => (intro w hSw; have q0 := hSw.a; have q1 := hSw.ov; have q2 := hSw.ct; have q3 := j1; have q4 := j2; have q5 := jc; go_simp; try (with_reducible rfl))
           simp only [Act.put, sT, sZ, sS]
           refine tkH (i := 17) (oi := ⟨some 142, _, _, _, _, _⟩) (v := ?vf17) rfl (Or.inl ⟨by rfl, ?hyf17⟩) ECd.out ?restf17
           case hyf17 => (intro w hSw; go_simp; try (with_reducible rfl))
           simp only [Act.put, sT, sZ, sS]
           refine wpAnyH_done (by kernel_rfl) ?_ _
           have y1 := ECd.out.ov
           clear EC5 B5 PI5 hsb
           go_wp2_with fail
           refine (fIs_code 11 11 _).mono ?_
           rintro ev w7 ⟨rfl, hs⟩
           rw [show ((11 : Int) == 11) = true from rfl]
           have EC7 := Lib.hid (ECd.out.step hs)
           have B7 := Lib.hid (Bd.out.trans (hs.mono Bd.out.size))
           have PI7 := Lib.hid (PId.out.step hs)
           clear hs y1 ECd Bd PId
           have y0 := EC7.out.a
           go_wp2_with fail
           refine (ihead_no _ x.b x.i PI7.out hdn.out).mono ?_
           rintro ev w8 ⟨rfl, hs⟩
           unfold refV
           have EC8 := Lib.hid (EC7.out.step hs)
           have B8 := Lib.hid (B7.out.trans (hs.mono B7.out.size))
           have PI8 := Lib.hid (PI7.out.step hs)
           clear hs y0 EC7 B7 PI7
           have y0 := EC8.out.a
           go_wp2_with fail
           refine (ipages_no _ x.b x.i PI8.out hdn.out).mono ?_
           rintro ev w9 ⟨rfl, hs⟩
           have B9 := Lib.hid (B8.out.trans (hs.mono B8.out.size))
           clear hs y0 EC8 B8 PI8
           go_wp2_with fail
           go_roundg (k - (p + 1))
           case measure => have := P1'.out; omega
           case rel => exact ⟨p + 1, by omega, by go_num, B9.out⟩
        ·have hpe : p = k := by have := P1'.out; omega
         go_wp2_with fail
         refine (awakeN _).mono ?_
         rintro ev w9 ⟨rfl, hs⟩
         have BG := Lib.hid (B1.out.trans ((GW.out.trans ((BZ.out.trans (hs.mono BZ.out.size)).mono GW.out.size)).mono B1.out.size))
         clear hs
         go_wp2
         go_ret
         exact ⟨rfl, BG.out⟩
end Go.Proofs.YtejmdmaebkdjoaaGreatDoor
