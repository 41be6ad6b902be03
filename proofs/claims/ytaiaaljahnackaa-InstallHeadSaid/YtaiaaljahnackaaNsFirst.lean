/- Law InstallFirst: its walk. -/
import Derived.Test.YtaiaaljahnackaaNsLst
import Derived.Test.YtaiaaljahnackaaNsLaidJ
import Derived.Test.YtaiaaljahnackaaNsHead
namespace Go.Proofs.Ytaiaaljahnackaa
open Go.RowKit

theorem lim_z {l : Lim} (h : l.okB = true) : ∃ n : LimN, n.ok ∧ l = n.z := by
  unfold Lim.okB inB at h
  simp only [Bool.and_eq_true, decide_eq_true_eq] at h
  obtain ⟨s, p, t, r, hh, c⟩ := l
  refine ⟨⟨s.toNat, p.toNat, t.toNat, r.toNat, hh.toNat, c.toNat⟩, ?_, ?_⟩
  · constructor <;> simp only at h ⊢ <;> omega
  · simp only at h
    unfold LimN.z
    simp only [Lim.mk.injEq]
    omega
def jobT0 : JobT := ⟨⟨0, 0, 0, 0, none, 0, 0, ⟨Sc.zero, none, 0, 0, none, 0, 0⟩, 0⟩, [], [], ⟨Sc.zero, [], []⟩, 0, 0⟩
/-- a job with page 0's first head -/
def JbD.fst (d : JbD) : JbD := { d with page := 0, os := 1, og := 1 }
theorem job_set {w : World} {b : Nat} {d : JbD} {T : TypeId} (h : w.heap[b]? = some (.cells d.cells.toArray T (0, 0))) : ((w.setCell ⟨b, 0, none⟩ (.int .i64 0)).setCells b 1 [.int .i64 1, .int .i64 1]).heap[b]? = some (.cells d.fst.cells.toArray T (0, 0)) := by
  have h1 := blk_set h 0 (.int .i64 0)
  have h2 := blk_set h1 1 (.int .i64 1)
  have h3 := blk_set h2 2 (.int .i64 1)
  exact h3
theorem inv_start (p : Nat) (hp : 1 ≤ p) : InvM psB (pgs1 p) False := ⟨rfl, (1, 1), by unfold pgs1; cases p with | zero => omega | succ n => rfl, fun h => h.elim⟩
set_option maxRecDepth 100000 in
set_option maxHeartbeats 4000000 in
theorem lawFirst (l : Lim) (v : Value) (jt : List JobT) (ta : Option Addr) (tc : Nat) (zs : List Int) (w : World) (hv : SV lJob w v (jt.map JobT.d)) (hj : ∀ (q : Nat) (J : JobT), jt[q]? = some J → JobW w J.d J.bs J.ds J.hd) (ht : SV lU8 w (.slice ta zs.length tc) zs) (hz : ∀ z ∈ zs, 0 ≤ z ∧ z ≤ 255) :
    Calls Try.prog 3 #[limV l, v, .slice ta zs.length tc] w fun ev w' => ev = .returned (.bool true) ∧ Below w.heap.size w w' := by
  have B0 := Lib.hid (alloc_below0 w (limObj l))
  have V0 := Lib.hid (hv.below (alloc_below0 w (limObj l)))
  have U0 := Lib.hid (ht.below (alloc_below0 w (limObj l)))
  have UZ := Lib.hid hz
  have L0 := Lib.hid (LimAt.new w l)
  have J0 := Lib.hid (show ∀ (q : Nat) (J : JobT), jt[q]? = some J → JobW (w.alloc (limObj l)) J.d J.bs J.ds J.hd from fun q J h => (hj q J h).low (alloc_below0 w (limObj l)))
  have ff := Lib.hid (few_any l v (jt.map JobT.d) (fun k => ((jt[k]?).map JobT.bs).getD []) ta zs.length tc (w.alloc (limObj l)) V0.out (fun k j h => by
    rw [List.getElem?_map] at h
    obtain ⟨J, hJ, rfl⟩ := Option.map_eq_some_iff.1 h
    rw [hJ]
    exact (J0.out k J hJ).sv))
  obtain ⟨va, vc, rfl, -, -⟩ := hv.lenform
  obtain ⟨N, hN⟩ : ∃ N, N = (jt.map JobT.d).length := ⟨_, rfl⟩
  have NN := Lib.hid (show jt.length = N by rw [hN]; simp)
  obtain ⟨tn, htn⟩ : ∃ n, n = zs.length := ⟨_, rfl⟩
  have NT := Lib.hid (show zs.length = tn from htn.symm)
  rw [← hN] at ff V0 ⊢
  rw [← htn] at ff U0 ⊢
  have x0 := L0.out.c0
  have x1 := L0.out.c1
  have x2 := L0.out.c2
  have x3 := L0.out.c3
  have x4 := L0.out.c4
  have x5 := L0.out.c5
  clear hv hj ht hz hN htn
  unfold limV at ff ⊢
  unfold limObj at B0 V0 U0 L0 J0 ff x0 x1 x2 x3 x4 x5
  go_enter Try.func3, Try.ntmps3
  go_wp2_with fail
  refine ff.out.mono ?_
  rintro ev w1 ⟨bb, rfl, hs, hp⟩
  have B1 := Lib.hid (B0.out.trans (hs.mono B0.out.size))
  have P1 := Lib.hid hp
  have V1 := Lib.hid (V0.out.below hs)
  have U1 := Lib.hid (U0.out.below hs)
  have L1 := Lib.hid (L0.out.step hs)
  have J1 := Lib.hid (show ∀ (q : Nat) (J : JobT), jt[q]? = some J → JobW w1 J.d J.bs J.ds J.hd from fun q J h => (J0.out q J h).low hs)
  clear hs hp ff x0 x1 x2 x3 x4 x5
  cases bb with
  | false =>
    go_wp2_with fail
    refine (awakeN _).mono ?_
    rintro ev w2 ⟨rfl, hs⟩
    have B2 := Lib.hid (B1.out.trans (hs.mono B1.out.size))
    clear hs
    go_wp2
    go_ret
    exact ⟨rfl, B2.out⟩
  | true =>
    obtain ⟨f1, f2, f3, f4, f5, f6⟩ := P1.out rfl
    obtain ⟨n, hn, rfl⟩ := lim_z f3
    have NO := Lib.hid hn
    have JR := Lib.hid (show ∀ (q : Nat) (J : JobT), jt[q]? = some J → JobR w1 J.d J.bs J.ds J.hd from fun q J h => (J1.out q J h).right (by
      have h2 := f6 q J.d (by rw [List.getElem?_map, h]; rfl)
      rw [h] at h2
      exact h2))
    have F1 := Lib.hid (show N ≤ 6 ∧ tn ≤ 150 from ⟨by have := NN.out; simpa [this] using f1, f2⟩)
    clear f1 f2 f3 f4 f5 f6 P1
    have x0 := L1.out.c0
    have x1 := L1.out.c1
    have x2 := L1.out.c2
    have x3 := L1.out.c3
    have x4 := L1.out.c4
    have x5 := L1.out.c5
    unfold LimN.z at x0 x1 x2 x3 x4 x5
    simp only at x0 x1 x2 x3 x4 x5
    have fn := fun w => mem_new n NO.out w
    unfold limV LimN.z at fn
    go_wp2_with fail
    refine (fn _).mono ?_
    rintro ev w2 ⟨m, S, rfl, hM, hF, hs⟩
    have M2 := Lib.hid hM
    have F2 := Lib.hid hF
    have WB := Lib.hid hs
    clear hM hF hs fn x0 x1 x2 x3 x4 x5
    go_wp2_with fail
    have hd0 : headT (pgs1 n.p) 0 = (1, 1) := by
      have h2 : (pgs1 n.p)[0]? = some (some (1, 1)) := by
        obtain ⟨q, hq⟩ : ∃ q, n.p = q + 1 := ⟨n.p - 1, by have := NO.out.p1; omega⟩
        unfold pgs1
        rw [hq]
        rfl
      exact headT_at (i := 0) h2
    have fh := nHead_any w2 m S n 0 psB (pgs1 n.p) (Ck.new n.t n.c) 0 M2.out
    rw [hd0] at fh
    refine fh.mono ?_
    rintro ev w3 ⟨ve, rfl, he, hM, hk⟩
    clear fh hd0
    unfold refV
    have M3 := Lib.hid hM
    have BW := Lib.hid (show Below w1.heap.size w1 w3 from (show Below w1.heap.size w1 w2 from WB.out).trans (hk.below (n := w1.heap.size) F2.out WB.out.size))
    clear he hM hk
    go_upto_region 9 with (fail)
    obtain ⟨W4, hW4⟩ : ∃ W, W = (w3.alloc (.cells #[.int .i64 1, .int .i64 1] 34)).alloc (.cells #[.int .i64 0] 3) := ⟨_, rfl⟩
    rw [← hW4]
    have sz3 : (w3.alloc (.cells #[.int .i64 1, .int .i64 1] 34)).heap.size = w3.heap.size + 1 := by simp
    have B4 := Lib.hid (show Below w3.heap.size w3 W4 by rw [hW4]; exact (alloc_below0 w3 _).trans ((alloc_below0 _ _).mono (by omega)))
    have X4 := Lib.hid (show W4.heap[w3.heap.size]? = some (.cells #[.int .i64 1, .int .i64 1] 34 (0, 0)) by rw [hW4]; exact blk_step (blk_new w3 _) (alloc_below0 _ _))
    have C4 := Lib.hid (show W4.heap[w3.heap.size + 1]? = some (.cells #[.int .i64 0] 3 (0, 0)) by rw [hW4, ← sz3]; exact blk_new _ _)
    have S4 := Lib.hid (show W4.heap.size = w3.heap.size + 2 by rw [hW4]; simp)
    have BA := Lib.hid (show AgB w1 W4 (fun x => MS m S x ∨ x = w3.heap.size + 1) (w3.heap.size + 1) m S from
      ⟨BW.out.trans (B4.out.mono BW.out.size), ⟨0, C4.out⟩, fun k hk => hk.elim (fun q => ⟨F2.out k q, by have h1 := M3.out.lt k q; have h2 := S4.out; omega⟩) (fun e => by have h1 := BW.out.size; have h2 := S4.out; omega), fun k hk => .inl hk, .inr rfl, fun q => by have h1 := M3.out.lt _ q; omega⟩)
    have LS := Lib.hid (fun bk js is => Lst.start (bk := bk) (js := js) (is := is) (M3.out.low B4.out) (inv_start n.p (by have := NO.out.p1; omega)) BA.out)
    have NX := Lib.hid (show ¬ (MS m S w3.heap.size ∨ w3.heap.size = w3.heap.size + 1) from fun q => q.elim (fun q => by have h1 := M3.out.lt _ q; omega) (fun q => by omega))
    clear hW4 sz3
    go_wp2_with fail
    go_loopg [11, 46] N (fun g v11 v46 wr => ∃ (k : Nat) (T : Nat → Prop) (bk : Nat → Nat) (js : Nat → JobT) (is : Nat → Ins), k + g = N ∧ v46 = .int .i64 (k : Int) ∧ Lst w1 wr T k bk js is (w3.heap.size + 1) m S n psB (pgs1 n.p) (Ck.new n.t n.c) False v11 ∧ ¬ T w3.heap.size ∧ wr.heap[w3.heap.size]? = some (.cells #[.int .i64 1, .int .i64 1] 34 (0, 0)))
    case atStart => exact ⟨0, _, fun _ => 0, fun _ => jobT0, fun _ => Ins.zero .nilIface, by omega, rfl, LS.out _ _ _, NX.out, X4.out⟩
    case round =>
      obtain ⟨k, T, bk, js, is, hk, rfl, hL, hT, hX⟩ := hrel
      have K1 := Lib.hid hk
      have LA := Lib.hid hL
      have TA := Lib.hid (show ¬ T w3.heap.size ∧ wr.heap[w3.heap.size]? = some (.cells #[.int .i64 1, .int .i64 1] 34 (0, 0)) from ⟨hT, hX⟩)
      have GW := Lib.hid hL.base.below
      have i46 : IntKind.i64.wrap ((k : Int) + 1) = (k : Int) + 1 := Go.IntWalk.i64_in _ (by have := F1.out; omega)
      clear hk hL hT hX
      by_cases hlt : k < N
      · have VA := Lib.hid (V1.out.below GW.out)
        obtain ⟨b, off, hva⟩ := VA.out.addr (by have := NN.out; rw [List.length_map]; omega)
        subst hva
        obtain ⟨J, hJ⟩ : ∃ J, jt[k]? = some J := ⟨_, List.getElem?_eq_getElem (by have := NN.out; omega)⟩
        have JJ := Lib.hid hJ
        obtain ⟨cs, hcs⟩ : ∃ cs, cs = J.d.cells := ⟨_, rfl⟩
        obtain ⟨ds, hds⟩ : ∃ cs, cs = J.d.fst.cells := ⟨_, rfl⟩
        have RG := Lib.hid (show wr.rangeAt b (off + k * 21) cs from fun j v hj => VA.out.cellAt (j := j) (show (jt.map JobT.d)[k]? = some J.d by rw [List.getElem?_map, hJ]; rfl) (by rw [hcs] at hj; exact hj))
        have CO := Lib.hid (show cs.toArray.all (fun x => x.oneCell') = true from hcs ▸ all_oneCell_toArray J.d.cells_one)
        have CL := Lib.hid (show cs.length = 21 from hcs ▸ rfl)
        have DL := Lib.hid (show ds.length = 21 from hds ▸ rfl)
        have JI := Lib.hid (show (Try.prog.info? 46).map (·.size) = some cs.length from CL.out ▸ jobInfo21)
        have JD := Lib.hid (show (Try.prog.info? 46).map (·.size) = some ds.length from DL.out ▸ jobInfo21)
        have TZ := Lib.hid (show ∀ o, o = Obj.cells (zeroJob).toArray 46 (0, 0) → (wr.alloc o).there wr.heap.size 0 cs.length ∧ ((wr.alloc o).setCells wr.heap.size 0 cs).heap[wr.heap.size]? = some (.cells J.d.cells.toArray 46 (0, 0)) from fun o e => by
          subst e
          refine ⟨by rw [CL.out]; exact n_there_new wr _ _, ?_⟩
          rw [← hcs]
          exact list_laid cs (blk_new wr _) (by rw [CL.out]; rfl))
        have BZ := Lib.hid (show ∀ o, Below wr.heap.size wr ((wr.alloc o).setCells wr.heap.size 0 cs) from fun o => below_setCells (Nat.le_refl _) cs 0 _ (alloc_below0 wr o))
        have SC := Lib.hid (show ∀ W : World, W.heap[wr.heap.size]? = some (.cells J.d.cells.toArray 46 (0, 0)) → ((W.setCell ⟨wr.heap.size, 0, none⟩ (.int .i64 0)).setCells wr.heap.size 1 [.int .i64 1, .int .i64 1]).heap[wr.heap.size]? = some (.cells ds.toArray 46 (0, 0)) from fun W h => by rw [hds]; exact job_set h)
        have FJ := Lib.hid (show ∀ cl w, Calls Try.prog 11 #[.agg ds.toArray, .pointer (some ⟨cl, 0, none⟩)] w fun ev w' => ev = .returned (jobV 0 1 1 J.d.news (.func (.func 35) #[] #[.pointer (some ⟨w.heap.size + 1, 0, none⟩), .pointer (some ⟨w.heap.size, 0, none⟩)])) ∧ w'.heap[w.heap.size]? = some (.cells J.d.fst.cells.toArray 46 (0, 0)) ∧ w'.heap[w.heap.size + 1]? = some (.cells #[.pointer (some ⟨cl, 0, none⟩)] 53 (0, 0)) ∧ Below w.heap.size w w' from fun cl w => by rw [hds]; exact job_any J.d.fst cl w)
        clear hJ hcs hds
        go_upto_region 12 with (first
          | (refine wpList_load_mid rfl 46 (.tmp 48) rfl b (off + k * 21) rfl cs _ ?_ Try.underlying46 rfl JI.out ?_; exact RG.out)
          | (refine wpList_store_to rfl 46 (.tmp 14) (.tmp 49) rfl wr.heap.size 0 cs rfl rfl ?_ JI.out CO.out ?_
             · exact (TZ.out _ rfl).1
             intro W5 hW5
             have L5 := Lib.hid (show W5.heap[wr.heap.size]? = some (.cells J.d.cells.toArray 46 (0, 0)) by rw [hW5]; exact (TZ.out _ rfl).2)
             have B5 := Lib.hid (show Below wr.heap.size wr W5 by rw [hW5]; exact BZ.out _)
             clear hW5))
        have LD := Lib.hid (blk_step L5.out (Below.refl _ W5).drew)
        have BD := Lib.hid (B5.out.drew)
        have XD := Lib.hid (blk_step TA.out.2 BD.out)
        clear CO JI TZ BZ RG L5 B5 VA
        refine AnyBut.region (fun w' => w'.heap[w3.heap.size]? = some (.cells #[.int .i64 1, .int .i64 1] 34 (0, 0))) 4 (by kernel_rfl) ?_
        generalize W5.drew = W6 at *
        refine AnyBut.take (i := 0) (oi := ⟨some 50, _, _, _, _, _⟩) (v := ?va0) rfl (by kernel_rfl) (by kernel_rfl) (by kernel_rfl) (by kernel_rfl) (fun _ _ _ h => h) (Or.inl ⟨by rfl, ?hya0⟩) XD.out ?resta0
        case hya0 => (intro w hSw; have q0 := blk_cell hSw 0; have q1 := blk_cell hSw 1; go_simp; try (with_reducible rfl))
        simp only [Act.put, List.setIfInBounds_toArray, List.set_cons_zero, List.set_cons_succ]
        refine AnyBut.take (i := 1) (oi := ⟨some 51, _, _, _, _, _⟩) (v := ?va1) rfl (by kernel_rfl) (by kernel_rfl) (by kernel_rfl) (by kernel_rfl) (fun _ _ _ h => h) (Or.inl ⟨by rfl, ?hya1⟩) XD.out ?resta1
        case hya1 => (intro w hSw; have q0 := blk_cell hSw 0; have q1 := blk_cell hSw 1; go_simp; try (with_reducible rfl))
        simp only [Act.put, List.setIfInBounds_toArray, List.set_cons_zero, List.set_cons_succ]
        have y0 := blk_cell LD.out 0
        have y1 := blk_free LD.out 0
        refine AnyBut.one (i := 2) (o := ⟨none, _, _, _, _, _⟩) (by kernel_rfl) rfl (fun K hK => ?_)
        rw [if_pos (by rfl)]
        go_simp
        refine hK.out _ _ (fun _ => (blk_off XD.out (by have h1 := (Array.getElem?_eq_some_iff.1 TA.out.2).1; omega) _ _)) ?_
        clear hK K
        try simp only [Act.put]
        have XE := Lib.hid (show (W6.setCell ⟨wr.heap.size, 0, none⟩ (.int .i64 0)).heap[w3.heap.size]? = some (.cells #[.int .i64 1, .int .i64 1] 34 (0, 0)) from blk_off XD.out (by have h1 := (Array.getElem?_eq_some_iff.1 TA.out.2).1; omega) _ _)
        have LE := Lib.hid (blk_set LD.out 0 (.int .i64 0))
        have BE := Lib.hid (show Below wr.heap.size wr (W6.setCell ⟨wr.heap.size, 0, none⟩ (.int .i64 0)) from below_set BD.out (Nat.le_refl _) 0 _)
        have SC2 := Lib.hid (SC.out W6 LD.out)
        clear y0 y1 LD BD XD SC
        generalize W6.setCell ⟨wr.heap.size, 0, none⟩ (.int .i64 0) = W7 at *
        refine AnyBut.take (i := 3) (oi := ⟨some 52, _, _, _, _, _⟩) (v := ?va3) rfl (by kernel_rfl) (by kernel_rfl) (by kernel_rfl) (by kernel_rfl) (fun _ _ _ h => h) (Or.inl ⟨by rfl, ?hya3⟩) XE.out ?resta3
        case hya3 => (intro w hSw; have q0 := blk_cell hSw 0; have q1 := blk_cell hSw 1; go_simp; try (with_reducible rfl))
        simp only [Act.put, List.setIfInBounds_toArray, List.set_cons_zero, List.set_cons_succ]
        refine AnyBut.one (i := 4) (o := ⟨none, _, _, _, _, _⟩) (by kernel_rfl) rfl (fun K hK => ?_)
        rw [if_pos (by rfl)]
        refine wp_store_to 34 (.tmp 52) (.tmp 50) rfl wr.heap.size 1 [.int .i64 1, .int .i64 1] rfl rfl ?_ refInfoS (by kernel_rfl) ?_
        · exact blk_thereN LE.out 1 2 (by rw [Array.size_setIfInBounds]; show 1 + 2 ≤ 21; decide)
        intro W8 hW8
        have L8 := Lib.hid (show W8.heap[wr.heap.size]? = some (.cells ds.toArray 46 (0, 0)) by rw [hW8]; exact SC2.out)
        have B8 := Lib.hid (show Below wr.heap.size wr W8 by rw [hW8]; exact below_setCells (Nat.le_refl _) _ 1 _ BE.out)
        have X8 := Lib.hid (show W8.heap[w3.heap.size]? = some (.cells #[.int .i64 1, .int .i64 1] 34 (0, 0)) by rw [hW8]; exact (Kept.setCells _ _ _ (Kept.refl (fun k => k = wr.heap.size) W7)).block _ (Array.getElem?_eq_some_iff.1 XE.out).1 (by have h1 := (Array.getElem?_eq_some_iff.1 TA.out.2).1; omega) ▸ XE.out)
        clear hW8
        refine hK.out _ _ (fun h => absurd rfl h) ?_
        clear hK K
        try simp only [Act.put]
        refine AnyBut.done (by kernel_rfl) ?_ _
        clear LE BE XE SC2
        have RD := Lib.hid (blk_rng L8.out)
        go_wp2_with (refine wpList_load_mid rfl 46 (.tmp 14) rfl wr.heap.size 0 rfl ds _ ?_ Try.underlying46 rfl JD.out ?_; exact RD.out)
        refine (FJ.out _ _).mono ?_
        rintro ev w9 ⟨rfl, hj1, hj2, hs⟩
        have B9 := Lib.hid (B8.out.trans (hs.mono B8.out.size))
        have X9 := Lib.hid (blk_step X8.out hs)
        have J9 := Lib.hid hj1
        have C9 := Lib.hid hj2
        have Z9 := Lib.hid (show wr.heap.size ≤ W8.heap.size ∧ W8.heap.size + 1 < w9.heap.size from ⟨B8.out.size, (Array.getElem?_eq_some_iff.1 hj2).1⟩)
        clear hj1 hj2 hs L8 B8 X8 RD FJ
        have fb := Lib.hid (begin_fst J.d.fst J.ds J.hd W8.heap.size (W8.heap.size + 1) (w3.heap.size + 1) w9 J9.out C9.out)
        go_wp2_with fail
        refine fb.out.mono ?_
        rintro ev w10 ⟨bn, i, rfl, h1, h2, hs, hF, hd, hA⟩
        have Z10 := Lib.hid (show w9.heap.size ≤ bn ∧ bn < w10.heap.size from ⟨h1, h2⟩)
        have B10 := Lib.hid (B9.out.trans (hs.mono B9.out.size))
        have b11 := alloc_below0 w10 (.cells #[.pointer (some ⟨bn, 0, none⟩)] 47)
        have B11 := Lib.hid (B10.out.trans (b11.mono B10.out.size))
        have X11 := Lib.hid (blk_step (blk_step X9.out hs) b11)
        have G11 := Lib.hid (show InvF i ∧ i.dn = false from ⟨hF, hd⟩)
        have A10 := hA (fun x => T x ∨ x = bn) (fun q => q.elim (fun q => by have h3 := (LA.out.base.tin _ q).2; have h4 := Z9.out; omega) (fun e => by have h4 := Z9.out; omega)) (fun q => q.elim (fun q => by have h3 := (LA.out.base.tin _ q).2; have h4 := Z9.out; omega) (fun e => by have h4 := Z9.out; omega))
        have A11 := Lib.hid ((A10.low b11 (Nat.le_refl _)).subT (T' := fun x => T x ∨ x = bn) (fun x q => .inl q))
        have S11 := Lib.hid (show OwnS lPtr 0 (w10.alloc (.cells #[.pointer (some ⟨bn, 0, none⟩)] 47)) (.slice (some ⟨w10.heap.size, 0, none⟩) 1 1) [bn] from OwnS.lit lPtr 0 w10 w10.heap.size rfl [bn] (Nat.zero_le _) (by unfold maxLen; simp))
        have O11 := Lib.hid (LA.out.own.below B11.out)
        have Q11 := Lib.hid (show bn < (w10.alloc (.cells #[.pointer (some ⟨bn, 0, none⟩)] 47)).heap.size ∧ w1.heap.size ≤ (w10.alloc (.cells #[.pointer (some ⟨bn, 0, none⟩)] 47)).heap.size from ⟨Nat.lt_of_lt_of_le h2 b11.size, by have h3 := GW.out.size; have h4 := B11.out.size; omega⟩)
        have JR1 := Lib.hid ((JR.out k J JJ.out).at0 0 1 1)
        clear h1 h2 hs hF hd hA A10 b11 fb
        go_wp2_with (refine wpList_appL lPtr 37 Try.underlying37 lPtr_known (by decide) (by decide) rfl (.tmp 53) (.tmp 57) rfl w1.heap.size rfl rfl O11.out S11.out.sv (by have h3 := F1.out.1; have h4 := hlt; simp; omega) Q11.out.2 ?_; intro v12 w12 ho hg hl; have O12 := Lib.hid ho; have G12 := Lib.hid hg; have L12 := Lib.hid hl; clear ho hg hl)
        have LN := Lib.hid (LA.out.add (J := { J with d := J.d.fst, jb := W8.heap.size, cb := W8.heap.size + 1 }) (b := bn) B11.out (by have h3 := Z10.out.1; have h4 := Z9.out; omega) Q11.out.1 JR1.out A11.out G11.out.1 G11.out.2 O12.out G12.out L12.out)
        have X12 := Lib.hid (show w12.heap[w3.heap.size]? = some (.cells #[.int .i64 1, .int .i64 1] 34 (0, 0)) from (G12.out.block _ (Array.getElem?_eq_some_iff.1 X11.out).1 (fun e => TA.out.1 (LA.out.vt _ e.symm).1)).trans X11.out)
        have T12 := Lib.hid (show ¬ ((T w3.heap.size ∨ w3.heap.size = bn) ∨ some w3.heap.size = v12.ownBlock) from fun q => by
          have h5 := (Array.getElem?_eq_some_iff.1 TA.out.2).1
          rcases q with (q | e) | e
          · exact TA.out.1 q
          · have h3 := Z10.out.1; have h4 := Z9.out; omega
          · rcases L12.out with e2 | e2
            · exact TA.out.1 (LA.out.vt _ (e2 ▸ e.symm)).1
            · rw [e2] at e; have := Option.some.inj e; have h6 := B11.out.size; omega)
        go_roundg (N - (k + 1))
        case measure => have := K1.out; omega
        case rel => exact ⟨k + 1, _, _, _, _, by omega, by go_num, LN.out, T12.out, X12.out⟩
      · have hkN : k = N := by have := K1.out; omega
        subst hkN
        have LV := Lib.hid (show ∃ T is S' ps L D, Lst w1 wr T k bk js is (w3.heap.size + 1) m S' n ps L (Ck.new n.t n.c) D u11 from ⟨T, is, S, _, _, _, LA.out⟩)
        clear LA K1 TA GW i46 hlt X4 C4 S4 BA LS NX B4 M3 F2 WB M2 BW
        obtain ⟨la, lc, hu⟩ : ∃ la lc, u11 = .slice la k lc := by obtain ⟨_, _, _, _, _, _, h⟩ := LV.out; exact h.form
        subst hu
        go_wp2_with fail
        go_loopg [62] tn (fun g v62 wx => ∃ (q : Nat) (T : Nat → Prop) (is : Nat → Ins) (S' : Nat → Prop) (ps : List Pt) (L : List Pg) (D : Prop), q + g = tn ∧ v62 = .int .i64 (q : Int) ∧ Lst w1 wx T k bk js is (w3.heap.size + 1) m S' n ps L (Ck.new n.t n.c) D (.slice la k lc))
        case atStart => obtain ⟨T, is, S', ps, L, D, h⟩ := LV.out; exact ⟨0, T, is, S', ps, L, D, by omega, rfl, h⟩
        case round =>
          obtain ⟨q, T, is, S', ps, L, D, hq, rfl, hL⟩ := hrel
          have Q1 := Lib.hid hq
          have LA := Lib.hid hL
          have i62 : IntKind.i64.wrap ((q : Int) + 1) = (q : Int) + 1 := Go.IntWalk.i64_in _ (by have := F1.out; omega)
          clear hq hL LV
          by_cases hlt : q < tn
          · have UA := Lib.hid (U1.out.below LA.out.base.below)
            obtain ⟨b, off, hta⟩ := UA.out.addr (by have := NT.out; omega)
            subst hta
            obtain ⟨z, hz⟩ : ∃ z, zs[q]? = some z := ⟨_, List.getElem?_eq_getElem (by have := NT.out; omega)⟩
            obtain ⟨z0, z1⟩ := UZ.out z (List.mem_of_getElem? hz)
            have y0 : wr.cell? ⟨b, off + q, none⟩ = some (.int .u8 z) := by have := UA.out.cellAt (j := 0) hz rfl; simpa [lU8] using this
            by_cases hk0 : 0 < k
            · obtain ⟨j, hj, hjk⟩ : ∃ j : Nat, z % (k : Int) = (j : Int) ∧ j < k := ⟨(z % (k : Int)).toNat, by have := Int.emod_nonneg z (b := (k : Int)) (by omega); omega, by have := Int.emod_lt_of_pos z (b := (k : Int)) (by omega); have := Int.emod_nonneg z (b := (k : Int)) (by omega); omega⟩
              obtain ⟨g, cap, e, y1⟩ := LA.out.at hjk
              obtain ⟨e1, -, e2⟩ := Value.slice.inj e
              subst e1 e2
              clear e
              obtain ⟨kk, hM⟩ := LA.out.crew.mem
              have fs := Lib.hid (step_any w1 wr T (bk j) (is j) (js j).d (js j).bs (js j).ds (js j).hd (js j).jb (js j).cb (w3.heap.size + 1) m S' n kk ps L (Ck.new n.t n.c) (LA.out.crew.ag j hjk) (LA.out.crew.aw j hjk) hM)
              clear hM UA
              go_wp2_with fail
              refine fs.out.mono ?_
              rintro ev w5 ⟨vb, i', rfl, hR⟩
              obtain ⟨T', S'', ps', L', D', hL'⟩ := LA.out.go hjk hR
              have LN := Lib.hid hL'
              clear hR hL' fs
              go_wp2_with fail
              go_roundg (tn - (q + 1))
              case measure => have := Q1.out; omega
              case rel => exact ⟨q + 1, T', _, S'', ps', L', D', by omega, by go_num, LN.out⟩
            · have hk1 : k = 0 := by omega
              go_wp2_with fail
              go_roundg (tn - (q + 1))
              case measure => have := Q1.out; omega
              case rel => exact ⟨q + 1, T, is, S', ps, L, D, by omega, by go_num, LA.out⟩
          · have LV := Lib.hid (show ∃ T is S' ps L D, Lst w1 wr T k bk js is (w3.heap.size + 1) m S' n ps L (Ck.new n.t n.c) D (.slice la k lc) from ⟨T, is, S', ps, L, D, LA.out⟩)
            have hqe : q = tn := by have := Q1.out; omega
            subst hqe
            clear LA Q1 i62 hlt
            go_wp2_with fail
            go_loopg [17, 82] k (fun g v17 v82 wx => ∃ (q : Nat) (d : Int) (T : Nat → Prop) (is : Nat → Ins) (S' : Nat → Prop) (ps : List Pt) (L : List Pg) (D : Prop), q + g = k ∧ v82 = .int .i64 (q : Int) ∧ v17 = .int .i64 d ∧ Lst w1 wx T k bk js is (w3.heap.size + 1) m S' n ps L (Ck.new n.t n.c) D (.slice la k lc) ∧ Cnt1 is q d)
            case atStart => obtain ⟨T, is, S', ps, L, D, h⟩ := LV.out; exact ⟨0, 0, T, is, S', ps, L, D, by omega, rfl, rfl, h, .inl rfl⟩
            case round =>
              obtain ⟨q, d, T, is, S', ps, L, D, hq, rfl, rfl, hL, hC⟩ := hrel
              have Q1 := Lib.hid hq
              have LA := Lib.hid hL
              have CA := Lib.hid hC
              have i82 : IntKind.i64.wrap ((q : Int) + 1) = (q : Int) + 1 := Go.IntWalk.i64_in _ (by have := F1.out; omega)
              have i17 : IntKind.i64.wrap (d + 1) = d + 1 := Go.IntWalk.i64_in _ (by rcases hC with h | ⟨h, -⟩ <;> omega)
              clear hq hL hC LV
              by_cases hlt : q < k
              · obtain ⟨g, cap, e, y1⟩ := LA.out.at hlt
                obtain ⟨e1, -, e2⟩ := Value.slice.inj e
                subst e1 e2
                clear e
                obtain ⟨kk, hM⟩ := LA.out.crew.mem
                have fr := Lib.hid (runs_any w1 wr T (bk q) (is q) (js q).d (js q).bs (js q).ds (js q).hd (js q).jb (js q).cb (w3.heap.size + 1) m S' n kk ps L (Ck.new n.t n.c) (LA.out.crew.ag q hlt) (LA.out.crew.aw q hlt) hM)
                clear hM
                go_wp2_with fail
                refine fr.out.mono ?_
                rintro ev w5 ⟨nn, i', rfl, h0, hR⟩
                obtain ⟨T', S'', ps', L', D', hL'⟩ := LA.out.go hlt hR
                have LN := Lib.hid hL'
                have IA := Lib.hid (show InsAt w5 (bk q) i' by have h5 := (hL'.crew.ag q hlt).lies; rw [updI_at] at h5; exact h5)
                have fd := Lib.hid (done_any w5 (bk q) i' IA.out h0)
                have CM := Lib.hid (CA.out.more hL'.crew hlt)
                clear hR hL' fr h0
                go_wp2_with fail
                refine fd.out.mono ?_
                rintro ev w6 ⟨rfl, hs⟩
                have LM := Lib.hid (LN.out.low hs)
                clear hs fd
                cases hdn : i'.dn with
                | false =>
                  have CN := Lib.hid (CM.out.1 hdn)
                  clear hdn
                  go_wp2_with fail
                  go_roundg (k - (q + 1))
                  case measure => have := Q1.out; omega
                  case rel => exact ⟨q + 1, d, T', _, S'', ps', L', D', by omega, by go_num, rfl, LM.out, CN.out⟩
                | true =>
                  have CN := Lib.hid (CM.out.2 hdn)
                  clear hdn
                  go_wp2_with fail
                  go_roundg (k - (q + 1))
                  case measure => have := Q1.out; omega
                  case rel => exact ⟨q + 1, d + 1, T', _, S'', ps', L', D', by omega, by go_num, by go_num, LM.out, CN.out⟩
              · have BE := Lib.hid (show Below w.heap.size w wr from B1.out.trans (LA.out.base.below.mono B1.out.size))
                have hd1 : d ≤ 1 := by rcases CA.out with h | ⟨h, -⟩ <;> omega
                go_wp2_with fail
                refine (awakeN _).mono ?_
                rintro ev w7 ⟨rfl, hs⟩
                have BF := Lib.hid (BE.out.trans (hs.mono BE.out.size))
                clear hs
                go_wp2
                go_ret
                exact ⟨rfl, BF.out⟩
end Go.Proofs.Ytaiaaljahnackaa
