/- Law InstallHead: its walk. -/
import Derived.Test.YtaiaaljahnackaaNsTwice
import Derived.Test.YtaiaaljahnackaaNsHdP
import Derived.Test.YtaiaaljahnackaaNsLoad
namespace Go.Proofs.Ytaiaaljahnackaa
open Go.RowKit

theorem wpList_load_midW {P : Program} {ops : Array Oper} {rest : List Oper} {op : Oper} {a : Act} {w : World} {Q : Exit → Act → World → Prop} (hgw : Region.wanted op (yielded ops a.tmps) = true) (ty : TypeId) (x : Operand) (ho : op.op = .load ty x)
    (b o : Nat) (hx : a.eval x = .pointer (some ⟨b, o, none⟩)) (cs : List Value) (d : TypeDesc) (hc : w.rangeAt b o cs)
    (hu : P.underlying ty = some d) (hd : d.isRow = true) (hi : (P.info? ty).map (·.size) = some cs.length)
    (h : wpList P ops Q rest (a.put op.dst (.agg cs.toArray)) w) : wpList P ops Q (op :: rest) a w :=
  BigFrame.wpList_want hgw fun _ hK => wp_load_mid ty x ho b o hx cs d hc hu hd hi (hK _ _ h)
set_option maxRecDepth 100000 in
set_option maxHeartbeats 4000000 in
theorem lawHead (l : Lim) (d : JbD) (bs : List RcL) (ds : List RecD) (hd : RecD) (w : World) (hj0 : JobW w d bs ds hd) :
    Calls Try.prog 4 #[limV l, .agg d.cells.toArray] w fun ev w' => ev = .returned (.bool true) ∧ Below w.heap.size w w' := by
  obtain ⟨cs, hcs⟩ : ∃ cs, cs = d.cells := ⟨_, rfl⟩
  have HC := Lib.hid hcs
  have CO := Lib.hid (show cs.toArray.all (fun x => x.oneCell') = true from hcs ▸ all_oneCell_toArray d.cells_one)
  have CL := Lib.hid (show cs.length = 21 from hcs ▸ rfl)
  have JI := Lib.hid (show (Try.prog.info? 46).map (·.size) = some cs.length from CL.out ▸ jobInfo21)
  have LJ := Lib.hid (show lJob.flat [d] = cs by rw [hcs]; simp [Lay.flat, lJob])
  rw [← hcs]
  obtain ⟨W0, hW0⟩ : ∃ W, W = (w.alloc (limObj l)).alloc (.cells cs.toArray 46) := ⟨_, rfl⟩
  have b1 := alloc_below0 w (limObj l)
  have b2 := alloc_below0 (w.alloc (limObj l)) (.cells cs.toArray 46)
  have sz : (w.alloc (limObj l)).heap.size = w.heap.size + 1 := by simp
  have B0 := Lib.hid (show Below w.heap.size w W0 by rw [hW0]; exact b1.trans (b2.mono b1.size))
  have L0 := Lib.hid (show LimAt W0 w.heap.size l by rw [hW0]; exact (LimAt.new w l).step b2)
  have X0 := Lib.hid (show W0.heap[w.heap.size + 1]? = some (.cells cs.toArray 46 (0, 0)) by rw [hW0, ← sz]; exact blk_new _ _)
  have J0 := Lib.hid (hj0.low B0.out)
  have R0 := Lib.hid (blk_rng X0.out)
  have x0 := L0.out.c0
  have x1 := L0.out.c1
  have x2 := L0.out.c2
  have x3 := L0.out.c3
  have x4 := L0.out.c4
  have x5 := L0.out.c5
  clear b1 b2 sz hcs
  unfold limObj at hW0
  unfold limV
  go_enter Try.func4, Try.ntmps4
  go_upto_region 1 with (fail)
  rw [← hW0]
  clear hW0
  have cl21 := CL.out
  go_wp2_with (refine wpList_load_mid rfl 46 (.tmp 3) rfl (w.heap.size + 1) 0 rfl cs _ ?_ Try.underlying46 rfl JI.out ?_; exact R0.out)
  rw [fold_zip0 cs _ (by rw [cl21]; rfl)]
  have b1 := alloc_below0 W0 (.cells cs.toArray 46)
  have V1 := Lib.hid (show OwnS lJob 0 (W0.alloc (.cells cs.toArray 46)) (.slice (some ⟨W0.heap.size, 0, none⟩) 1 1) [d] by
    have h := OwnS.lit lJob 0 W0 W0.heap.size rfl [d] (Nat.zero_le _) (by unfold maxLen; simp)
    rw [LJ.out] at h
    exact h)
  have J1 := Lib.hid (J0.out.low b1)
  have B1 := Lib.hid (B0.out.trans (b1.mono B0.out.size))
  have L1 := Lib.hid (L0.out.step b1)
  have X1 := Lib.hid (blk_step X0.out b1)
  have ff := Lib.hid (few_any l (.slice (some ⟨W0.heap.size, 0, none⟩) 1 1) [d] (fun _ => bs) none 0 0 (W0.alloc (.cells cs.toArray 46)) V1.out.sv (fun k j h => by
    cases k with
    | zero =>
      obtain rfl : d = j := by simpa using h
      exact J1.out.sv
    | succ k => simp at h))
  clear x0 x1 x2 x3 x4 x5 b1 cl21 R0 V1
  unfold limV at ff
  refine ff.out.mono ?_
  rintro ev w1 ⟨bb, rfl, hs, hp⟩
  have B2 := Lib.hid (B1.out.trans (hs.mono B1.out.size))
  have P1 := Lib.hid hp
  have L2 := Lib.hid (L1.out.step hs)
  have X2 := Lib.hid (blk_step X1.out hs)
  have J2 := Lib.hid (J1.out.low hs)
  clear hs hp ff J0 B0 L0 X0 J1 B1 L1 X1
  cases bb with
  | false =>
    go_wp2_with fail
    refine (awakeN _).mono ?_
    rintro ev w2 ⟨rfl, hs⟩
    have BE := Lib.hid (B2.out.trans (hs.mono B2.out.size))
    clear hs
    go_wp2
    go_ret
    exact ⟨rfl, BE.out⟩
  | true =>
    obtain ⟨f1, f2, f3, f4, f5, f6⟩ := P1.out rfl
    obtain ⟨n, hn, rfl⟩ := lim_z f3
    have NO := Lib.hid hn
    have FW := Lib.hid (show d.few bs from f6 0 d rfl)
    clear f1 f2 f3 f4 f5 f6 P1
    have x0 := L2.out.c0
    have x1 := L2.out.c1
    have x2 := L2.out.c2
    have x3 := L2.out.c3
    have x4 := L2.out.c4
    have x5 := L2.out.c5
    unfold LimN.z at x0 x1 x2 x3 x4 x5
    simp only at x0 x1 x2 x3 x4 x5
    have fn := fun w => mem_new n NO.out w
    unfold limV LimN.z at fn
    go_wp2_with fail
    refine (fn _).mono ?_
    rintro ev w2 ⟨m, S, rfl, hM, hF, hs⟩
    have M2 := Lib.hid hM
    have F2 := Lib.hid hF
    have WB2 := Lib.hid hs
    have N1 := Lib.hid (show w.heap.size + 1 < w1.heap.size from (Array.getElem?_eq_some_iff.1 X2.out).1)
    have X3 := Lib.hid (blk_step X2.out hs)
    have y0 : w2.cell? ⟨w.heap.size + 1, 0, none⟩ = some (.int .i64 d.page) := by rw [blk_cell X3.out, HC.out]; rfl
    have y1 := blk_free X3.out 0
    clear hM hF hs fn x0 x1 x2 x3 x4 x5
    go_upto_region 7 with (fail)
    have M3 := Lib.hid (M2.out.keep ((Kept.refl (fun k => k = w.heap.size + 1) w2).setCell 0 (.int .i64 0)) (fun k hk e => by have h1 := F2.out k hk; have h2 := N1.out; omega))
    have B3 := Lib.hid (below_both (n := w1.heap.size) WB2.out ⟨w.heap.size + 1, 0, none⟩ (.int .i64 0))
    have X4 := Lib.hid (show (w2.setCell ⟨w.heap.size + 1, 0, none⟩ (.int .i64 0)).heap[w.heap.size + 1]? = some (.cells ({ d with page := 0 } : JbD).cells.toArray 46 (0, 0)) from job_set0 (by rw [X3.out, HC.out]))
    have XB := Lib.hid (show ((w1.setCell ⟨w.heap.size + 1, 0, none⟩ (.int .i64 0)).setCells (w.heap.size + 1) 1 [.int .i64 1, .int .i64 1]).heap[w.heap.size + 1]? = some (.cells d.fst.cells.toArray 46 (0, 0)) from job_set1 (job_set0 (by rw [X2.out, HC.out])))
    have SB := Lib.hid (show ((w1.setCell ⟨w.heap.size + 1, 0, none⟩ (.int .i64 0)).setCells (w.heap.size + 1) 1 [.int .i64 1, .int .i64 1]).heap.size = w1.heap.size by simp [World.setCells, World.setCell])
    have JB := Lib.hid (show JobR ((w1.setCell ⟨w.heap.size + 1, 0, none⟩ (.int .i64 0)).setCells (w.heap.size + 1) 1 [.int .i64 1, .int .i64 1]) d.fst bs ds hd from
      ((hj0.low (below_setCells (by omega) [.int .i64 1, .int .i64 1] 1 _ (below_set B2.out (by omega) 0 _))).right FW.out).at0 0 1 1)
    have BB := Lib.hid (show Below w.heap.size w ((w1.setCell ⟨w.heap.size + 1, 0, none⟩ (.int .i64 0)).setCells (w.heap.size + 1) 1 [.int .i64 1, .int .i64 1]) from below_setCells (by omega) [.int .i64 1, .int .i64 1] 1 _ (below_set B2.out (by omega) 0 _))
    have BH := Lib.hid (show ∀ W, Below w1.heap.size (w1.setCell ⟨w.heap.size + 1, 0, none⟩ (.int .i64 0)) W → Below w1.heap.size ((w1.setCell ⟨w.heap.size + 1, 0, none⟩ (.int .i64 0)).setCells (w.heap.size + 1) 1 [.int .i64 1, .int .i64 1]) (W.setCells (w.heap.size + 1) 1 [.int .i64 1, .int .i64 1]) from fun W h => below_both (below_both h _ _) _ _)
    have SW := Lib.hid (size_setCell w1 ⟨w.heap.size + 1, 0, none⟩ (.int .i64 0))
    generalize hWB : (w1.setCell ⟨w.heap.size + 1, 0, none⟩ (.int .i64 0)).setCells (w.heap.size + 1) 1 [.int .i64 1, .int .i64 1] = WB at *
    generalize hw1 : w1.setCell ⟨w.heap.size + 1, 0, none⟩ (.int .i64 0) = w1' at *
    clear hWB hw1
    generalize hw3 : w2.setCell ⟨w.heap.size + 1, 0, none⟩ (.int .i64 0) = w3 at *
    clear hw3 y0 y1
    have hd0 : headT (pgs1 n.p) 0 = (1, 1) := by
      have h2 : (pgs1 n.p)[0]? = some (some (1, 1)) := by
        obtain ⟨q, hq⟩ : ∃ q, n.p = q + 1 := ⟨n.p - 1, by have := NO.out.p1; omega⟩
        unfold pgs1
        rw [hq]
        rfl
      exact headT_at (i := 0) h2
    have fh := nHead_any w3 m S n 0 psB (pgs1 n.p) (Ck.new n.t n.c) 0 M3.out
    rw [hd0] at fh
    go_wp2_with fail
    refine fh.mono ?_
    rintro ev w4 ⟨ve, rfl, he, hM, hk⟩
    clear fh hd0
    unfold refV
    have M4 := Lib.hid hM
    have B4 := Lib.hid (show Below w1.heap.size w1' w4 from B3.out.trans (hk.below (n := w1.heap.size) F2.out (by have h1 := SW.out; have h2 := B3.out.size; omega)))
    have X5 := Lib.hid ((hk.block _ (Array.getElem?_eq_some_iff.1 X4.out).1 (fun h => by have h1 := F2.out _ h; have h2 := N1.out; omega)).trans X4.out)
    clear he hM hk
    go_upto_region 8 with (refine wpList_store_to rfl 34 (.tmp 47) (.tmp 45) rfl (w.heap.size + 1) 1 [.int .i64 1, .int .i64 1] rfl rfl ?_ refInfoS (by kernel_rfl) ?_
                           · exact blk_thereN X5.out 1 2 (by show 1 + 2 ≤ 21; decide)
                           intro W5 hW5
                           have B6 := Lib.hid (show Below WB.heap.size WB W5 by rw [hW5, SB.out]; exact BH.out _ B4.out)
                           have M6 := Lib.hid (show MemAt W5 m S n (inc 0) psB (pgs1 n.p) (Ck.new n.t n.c) by rw [hW5]; exact M4.out.keep (Kept.setCells _ _ _ (Kept.refl (fun k => k = w.heap.size + 1) _)) (fun k hk e => by have h1 := F2.out k hk; have h2 := N1.out; omega))
                           clear hW5)
    go_upto_region 9 with (fail)
    have b7 := alloc_below0 W5 (.cells #[.int .i64 0] 3)
    have O7 := Lib.hid (show One WB (W5.alloc (.cells #[.int .i64 0] 3)) (fun x => MS m S x ∨ x = W5.heap.size) W5.heap.size m S n psB (pgs1 n.p) (Ck.new n.t n.c) from
      ⟨⟨_, M6.out.low b7⟩, B6.out.trans (b7.mono B6.out.size), ⟨0, blk_new W5 _⟩, fun k hk => hk.elim (fun q => ⟨by rw [SB.out]; exact F2.out k q, Nat.lt_of_lt_of_le (M6.out.lt k q) b7.size⟩) (fun e => by have h1 := B6.out.size; rw [e]; exact ⟨h1, by simp⟩), fun k hk => .inl hk, .inr rfl, fun q => absurd (M6.out.lt _ q) (Nat.lt_irrefl _)⟩)
    have I0 := Lib.hid (inv_start n.p (by have := NO.out.p1; omega))
    have VB := Lib.hid (show Valid n.s psB from (Valid.nil n.s).put (i := 1) (g := 1) (d := baseD) ⟨Nat.le_refl 1, by have h1 := NO.out.s1; omega⟩ rfl)
    obtain ⟨es, hes⟩ : ∃ cs, cs = d.fst.cells := ⟨_, rfl⟩
    have EC := Lib.hid (show es[1]? = some (.int .i64 1) ∧ es[2]? = some (.int .i64 1) by rw [hes]; exact ⟨rfl, rfl⟩)
    have EL := Lib.hid (show es.length = 21 from hes ▸ rfl)
    have EI := Lib.hid (show (Try.prog.info? 46).map (·.size) = some es.length from EL.out ▸ jobInfo21)
    have XE := Lib.hid (show ∀ W, Below WB.heap.size WB W → W.heap[w.heap.size + 1]? = some (.cells es.toArray 46 (0, 0)) from fun W h => by rw [hes]; exact (h.block _ (by have h1 := SB.out; have h2 := N1.out; omega)).trans XB.out)
    have XF := Lib.hid (show ∀ W, Below WB.heap.size WB W → W.heap[w.heap.size + 1]? = some (.cells d.fst.cells.toArray 46 (0, 0)) from fun W h => (h.block _ (by have h1 := SB.out; have h2 := N1.out; omega)).trans XB.out)
    have FJ := Lib.hid (show ∀ cl w, Calls Try.prog 11 #[.agg es.toArray, .pointer (some ⟨cl, 0, none⟩)] w fun ev w' => ev = .returned (jobV 0 1 1 d.fst.news (.func (.func 35) #[] #[.pointer (some ⟨w.heap.size + 1, 0, none⟩), .pointer (some ⟨w.heap.size, 0, none⟩)])) ∧ w'.heap[w.heap.size]? = some (.cells d.fst.cells.toArray 46 (0, 0)) ∧ w'.heap[w.heap.size + 1]? = some (.cells #[.pointer (some ⟨cl, 0, none⟩)] 53 (0, 0)) ∧ Below w.heap.size w w' from fun cl w => by rw [hes]; exact job_any d.fst cl w)
    obtain ⟨W7, hW7⟩ : ∃ W, W = W5.alloc (.cells #[.int .i64 0] 3) := ⟨_, rfl⟩
    rw [← hW7] at O7 ⊢
    obtain ⟨cl, hcl⟩ : ∃ x, x = W5.heap.size := ⟨_, rfl⟩
    rw [← hcl] at O7 ⊢
    obtain ⟨T7, hT7⟩ : ∃ T, T = (fun x => MS m S x ∨ x = cl) := ⟨_, rfl⟩
    rw [← hT7] at O7
    clear b7 hW7 hcl hT7 hes M6 B6 M4 B4 X5 X4 BH SW M3 B3 XB FW hj0 B2 X2 L2 J2 WB2 X3 M2
    have R8 := Lib.hid (blk_rng (XE.out W7 O7.out.base.below))
    go_wp2_with (refine wpList_load_mid rfl 46 (.tmp 3) rfl (w.heap.size + 1) 0 rfl es _ ?_ Try.underlying46 rfl EI.out ?_; exact R8.out)
    refine (FJ.out _ _).mono ?_
    rintro ev w8 ⟨rfl, hj1, hj2, hs⟩
    have O8 := Lib.hid (O7.out.low hs)
    have C8 := Lib.hid (show w8.heap[W7.heap.size]? = some (.cells d.fst.cells.toArray 46 (0, 0)) ∧ w8.heap[W7.heap.size + 1]? = some (.cells #[.pointer (some ⟨cl, 0, none⟩)] 53 (0, 0)) from ⟨hj1, hj2⟩)
    have Z8 := Lib.hid (show W7.heap.size + 1 < w8.heap.size ∧ ¬ T7 W7.heap.size ∧ ¬ T7 (W7.heap.size + 1) from ⟨(Array.getElem?_eq_some_iff.1 hj2).1, O7.out.not (Nat.le_refl _), O7.out.not (Nat.le_succ _)⟩)
    have K8 := Lib.hid (show Below W7.heap.size W7 w8 from hs)
    clear hj1 hj2 hs R8
    have fb := Lib.hid (begin_one d.fst ds hd W7.heap.size (W7.heap.size + 1) cl w8 C8.out.1 C8.out.2)
    go_wp2_with fail
    refine fb.out.mono ?_
    rintro ev w9 ⟨b9, i9, rfl, h1, h2, hs, hF, hd, hp, hA⟩
    have G9 := Lib.hid (show InvF i9 ∧ i9.dn = false ∧ (i9.pt = 0 ∧ i9.tk = 0 ∧ i9.sw = 0 ∧ (i9.st = 0 ∨ ((i9.news : Int) = d.fst.news ∧ (i9.st = 1 ∨ i9.st = 2)))) from ⟨hF, hd, hp⟩)
    have RD9 := Lib.hid (O8.out.ready JB.out hs h1 h2 ⟨by have h5 := Z8.out.1; omega, Z8.out.2.1⟩ ⟨by have h5 := Z8.out.1; omega, Z8.out.2.2⟩ hA)
    have K9 := Lib.hid (show Below W7.heap.size W7 w9 ∧ w8.heap.size ≤ b9 from ⟨K8.out.trans (hs.mono K8.out.size), h1⟩)
    clear h1 h2 hs hF hd hp hA fb
    obtain ⟨T9, hT9⟩ : ∃ T, T = (fun x => T7 x ∨ x = b9) := ⟨_, rfl⟩
    have TT9 := Lib.hid (show ∀ x, T9 x ↔ T7 x ∨ x = b9 from fun x => by rw [hT9])
    rw [← hT9] at RD9
    clear hT9
    go_upto_region 10 with (fail)
    obtain ⟨k9, hM⟩ := RD9.out.1.mem
    have fr := Lib.hid (runs_any WB w9 T9 b9 i9 d.fst bs ds hd _ _ cl m S n k9 psB (pgs1 n.p) (Ck.new n.t n.c) RD9.out.2.1 RD9.out.2.2 hM)
    clear hM
    go_wp2_with fail
    refine fr.out.mono ?_
    rintro ev w10 ⟨nn10, i10, rfl, h0, hR⟩
    obtain ⟨S10, ps10, L10, hO, hr, hI, hsh, hnb, hk, hS⟩ := One.after2 hR RD9.out.2.2.tm RD9.out.2.2.tb RD9.out.2.2.tc
    have SH10 := Lib.hid (show Shape i10 ∧ ¬ MS m S10 b9 from ⟨hsh, hnb⟩)
    clear hsh hnb
    have RN10 := Lib.hid hr
    have I10 := Lib.hid hI
    have H10 := Lib.hid h0
    have K10 := Lib.hid hk
    have Q10 := Lib.hid hS
    have O10 := Lib.hid hO
    obtain ⟨T10, hT10⟩ : ∃ T, T = (fun x => T9 x ∨ MS m S10 x) := ⟨_, rfl⟩
    have TT10 := Lib.hid (show ∀ x, T10 x ↔ T9 x ∨ MS m S10 x from fun x => by rw [hT10])
    rw [← hT10] at O10
    clear hr hI h0 hk hS hO hR fr hT10
    have hHs : InvH n d.fst ds hd i9 psB (pgs1 n.p) := by
      obtain ⟨-, g1, -, -, -, g2⟩ := G9.out
      rcases g2 with g2 | ⟨g2, g3⟩
      · exact .late (.inl g2) g1
      · exact .early g3 g1 g2
    have hOs : InvO n.s psB (pgs1 n.p) i9.pt i9.tk i9.rf i9.pg psB (pgs1 n.p) := by
      rw [G9.out.2.2.1, G9.out.2.2.2.1]
      exact InvO.start VB.out _ _
    have E10 := Lib.hid (run_head RN10.out G9.out.1 ⟨_, I0.out⟩ hOs hHs)
    have fd := Lib.hid (done_any w10 b9 i10 I10.out H10.out)
    have BE10 := Lib.hid (show Below w.heap.size w w10 from BB.out.trans (O10.out.base.below.mono BB.out.size))
    clear hHs hOs
    go_wp2_with fail
    refine fd.out.mono ?_
    rintro ev w11 ⟨rfl, hs⟩
    have O11 := Lib.hid (O10.out.low hs)
    have I11 := Lib.hid (I10.out.step hs)
    have BE11 := Lib.hid (BE10.out.trans (hs.mono BE10.out.size))
    clear hs fd
    cases hdn : i10.dn with
    | false =>
      go_wp2_with fail
      refine (awakeN _).mono ?_
      rintro ev w12 ⟨rfl, hs⟩
      have BF := Lib.hid (BE11.out.trans (hs.mono BE11.out.size))
      clear hs
      go_wp2
      go_ret
      exact ⟨rfl, BF.out⟩
    | true =>
      have DN := Lib.hid hdn
      obtain ⟨d1, d2, d3, d4, d5⟩ := E10.out.2.2.2.done hdn
      have PT := Lib.hid d1
      have TK := Lib.hid (show (i10.tk : Int) = d.news ∧ i10.tk ≤ 4 ∧ i10.pt ≤ 5 ∧ 0 < i10.pt from ⟨d2, SH10.out.1.2.1, SH10.out.1.2.2.1, by omega⟩)
      have HL := Lib.hid d3
      have HP := Lib.hid d4
      have H0 := Lib.hid (show headT L10 0 = i10.rf i10.tk from headT_at (i := 0) d5)
      clear d1 d2 d3 d4 d5 hdn
      obtain ⟨k11, hM⟩ := O11.out.mem
      have fh := Lib.hid (nHead_any w11 m S10 n k11 ps10 L10 (Ck.new n.t n.c) 0 hM)
      clear hM
      rw [H0.out] at fh
      obtain ⟨rs, rg, hrf⟩ : ∃ a b, i10.rf i10.tk = (a, b) := ⟨_, _, rfl⟩
      have RF := Lib.hid hrf
      rw [hrf] at fh
      clear hrf
      go_wp2_with fail
      refine fh.out.mono ?_
      rintro ev w12 ⟨ve2, rfl, he, hM, hk⟩
      have O12 := Lib.hid (O11.out.access hM hk)
      have I12 := Lib.hid (I11.out.keep hk SH10.out.2)
      clear he hM hk fh
      unfold refV
      go_upto_region 15 with (fail)
      obtain ⟨W13, hW13⟩ : ∃ W, W = w12.alloc (.cells #[.int .i64 rs, .int .i64 rg] 34) := ⟨_, rfl⟩
      rw [← hW13]
      have b13 : Below w12.heap.size w12 W13 := by rw [hW13]; exact alloc_below0 w12 _
      have O13 := Lib.hid (O12.out.low b13)
      have I13 := Lib.hid (I12.out.step b13)
      have X13 := Lib.hid (show W13.heap[w12.heap.size]? = some (.cells #[.int .i64 rs, .int .i64 rg] 34 (0, 0)) by rw [hW13]; exact blk_new _ _)
      have N13 := Lib.hid (show ¬ T10 w12.heap.size from O12.out.not (Nat.le_refl _))
      clear hW13 b13
      have fi := Lib.hid (show ∀ w, InsAt w b9 i10 → Calls Try.prog 16 #[.pointer (some ⟨b9, 0, none⟩)] w fun ev w' => ev = .returned (refV rs rg) ∧ Below w.heap.size w w' from fun w h => by
        have h1 := ihead_any w b9 i10 h DN.out TK.out.2.2.2 TK.out.2.2.1
        rw [show i10.pt - 1 = i10.tk by have := PT.out; omega, RF.out] at h1
        exact h1)
      go_wp2_with fail
      refine (fi.out _ I13.out).mono ?_
      rintro ev w14 ⟨rfl, hs⟩
      have O14 := Lib.hid (O13.out.low hs)
      have I14 := Lib.hid (I13.out.step hs)
      have X14 := Lib.hid (blk_step X13.out hs)
      clear hs
      obtain ⟨k14, hM⟩ := O14.out.mem
      have fl := Lib.hid (mLoad_any w14 m S10 n k14 ps10 L10 (Ck.new n.t n.c) rs rg hM)
      have hld : codeM n.s ps10 rs rg = 0 ∧ loadM n.s ps10 rs rg = mkHd hd d.fst.fresh i10.pgsL := by
        have h1 := HL.out i10.tk (Nat.le_refl _)
        rw [RF.out] at h1
        unfold recsM at h1
        rw [if_pos rfl] at h1
        exact h1
      rw [hld.1, hld.2] at fl
      clear hM hld
      obtain ⟨RH, hRH⟩ : ∃ e, e = mkHd hd d.fst.fresh i10.pgsL := ⟨_, rfl⟩
      have RE := Lib.hid hRH
      rw [← hRH] at fl
      clear hRH
      go_wp2_with fail
      refine fl.out.mono ?_
      rintro ev w15 ⟨rv, en, ve3, rfl, he, ho1, ho2, hM, hk⟩
      obtain rfl := he.nil rfl
      obtain ⟨qa, qc, rfl, -, -⟩ := ho1.sv.lenform
      obtain ⟨pa, pc, rfl, -, -⟩ := ho2.sv.lenform
      have O15 := Lib.hid (O14.out.access hM hk)
      have X15 := Lib.hid ((hk.block _ (Array.getElem?_eq_some_iff.1 X14.out).1 (fun q => N13.out (O14.out.base.tm _ q))).trans X14.out)
      have I15 := Lib.hid (I14.out.keep hk SH10.out.2)
      have R15 := Lib.hid (show SV lRow w15 (.slice qa RH.rows.length qc) RH.rows ∧ SV lEnt w15 (.slice pa RH.ents.length pc) RH.ents from ⟨ho1.sv, ho2.sv⟩)
      clear he ho1 ho2 hM hk fl
      unfold recVal
      have T15 := Lib.hid (show (w15.alloc (.cells #[.int .i64 0, .string ⟨#[]⟩, .string ⟨#[]⟩, .bool false, .int .i64 0, .slice none 0 0, .slice none 0 0, .string ⟨#[]⟩, .string ⟨#[]⟩, .int .i64 0, .int .i64 0, .int .i64 0, .string ⟨#[]⟩, .int .i64 0, .int .i64 0] 44)).there w15.heap.size 0 15 from n_there_new w15 _ _)
      have L15 := Lib.hid (show ((w15.alloc (.cells #[.int .i64 0, .string ⟨#[]⟩, .string ⟨#[]⟩, .bool false, .int .i64 0, .slice none 0 0, .slice none 0 0, .string ⟨#[]⟩, .string ⟨#[]⟩, .int .i64 0, .int .i64 0, .int .i64 0, .string ⟨#[]⟩, .int .i64 0, .int .i64 0] 44)).setCells w15.heap.size 0 (recCells RH.sc (.slice qa RH.rows.length qc) (.slice pa RH.ents.length pc))).heap[w15.heap.size]? = some (recObj RH.sc (.slice qa RH.rows.length qc) (.slice pa RH.ents.length pc)) from list_laid (recCells RH.sc (.slice qa RH.rows.length qc) (.slice pa RH.ents.length pc)) (blk_new w15 _) rfl)
      have Q15 := Lib.hid (show Below w15.heap.size w15 ((w15.alloc (.cells #[.int .i64 0, .string ⟨#[]⟩, .string ⟨#[]⟩, .bool false, .int .i64 0, .slice none 0 0, .slice none 0 0, .string ⟨#[]⟩, .string ⟨#[]⟩, .int .i64 0, .int .i64 0, .int .i64 0, .string ⟨#[]⟩, .int .i64 0, .int .i64 0] 44)).setCells w15.heap.size 0 (recCells RH.sc (.slice qa RH.rows.length qc) (.slice pa RH.ents.length pc))) from below_setCells (Nat.le_refl w15.heap.size) (recCells RH.sc (.slice qa RH.rows.length qc) (.slice pa RH.ents.length pc)) 0 _ (alloc_below0 w15 _))
      go_upto_region 16 with (refine wpList_store_to rfl 44 (.tmp 13) (.tmp 72) rfl w15.heap.size 0 (recCells RH.sc (.slice qa RH.rows.length qc) (.slice pa RH.ents.length pc)) rfl rfl ?_ recInfoS (rec_one ..) ?_; exact T15.out; intro W16 hW16; have L16 := Lib.hid (show W16.heap[w15.heap.size]? = some (recObj RH.sc (.slice qa RH.rows.length qc) (.slice pa RH.ents.length pc)) by rw [hW16]; exact L15.out); have B16 := Lib.hid (show Below w15.heap.size w15 W16 by rw [hW16]; exact Q15.out); clear hW16)
      have O16 := Lib.hid (O15.out.low B16.out)
      have X16 := Lib.hid (blk_step X15.out B16.out)
      have I16 := Lib.hid (I15.out.step B16.out)
      have R16 := Lib.hid (show SV lRow W16 (.slice qa RH.rows.length qc) RH.rows ∧ SV lEnt W16 (.slice pa RH.ents.length pc) RH.ents from ⟨R15.out.1.below B16.out, R15.out.2.below B16.out⟩)
      clear T15 L15 Q15 B16
      obtain ⟨hsc, hrv, hev, hl1, hl2⟩ := JB.out.head
      obtain ⟨⟨sc0, ra, rn, rc, ea, en, ec⟩, hxx⟩ : ∃ x, x = d.fst.hd := ⟨_, rfl⟩
      rw [← hxx] at hsc hrv hev
      simp only at hsc hrv hev
      subst hsc
      obtain ⟨_, _, e1, -⟩ := hrv.lenform
      obtain rfl : rn = hd.rows.length := (Value.slice.inj e1).2.1
      obtain ⟨_, _, e2, -⟩ := hev.lenform
      obtain rfl : en = hd.ents.length := (Value.slice.inj e2).2.1
      have HV := Lib.hid (show SV lRow WB (.slice ra hd.rows.length rc) hd.rows ∧ SV lEnt WB (.slice ea hd.ents.length ec) hd.ents from ⟨hrv, hev⟩)
      have HLm := Lib.hid (show hd.rows.length ≤ 1000 ∧ hd.ents.length ≤ 1000 from ⟨hl1, hl2⟩)
      have HR := Lib.hid (show ∀ W, Below WB.heap.size WB W → W.rangeAt (w.heap.size + 1) 5 (recCells hd.sc (.slice ra hd.rows.length rc) (.slice ea hd.ents.length ec)) from fun W h => by
        have h1 := job_head (XF.out W h)
        rw [← hxx] at h1
        exact h1)
      clear e1 e2 hrv hev hl1 hl2 hxx
      have R0 := Lib.hid (HR.out W16 O16.out.base.below)
      have T16 := Lib.hid (show (W16.alloc (.cells #[.int .i64 0, .string ⟨#[]⟩, .string ⟨#[]⟩, .bool false, .int .i64 0, .slice none 0 0, .slice none 0 0, .string ⟨#[]⟩, .string ⟨#[]⟩, .int .i64 0, .int .i64 0, .int .i64 0, .string ⟨#[]⟩, .int .i64 0, .int .i64 0] 44)).there W16.heap.size 0 15 from n_there_new W16 _ _)
      have L0 := Lib.hid (show ((W16.alloc (.cells #[.int .i64 0, .string ⟨#[]⟩, .string ⟨#[]⟩, .bool false, .int .i64 0, .slice none 0 0, .slice none 0 0, .string ⟨#[]⟩, .string ⟨#[]⟩, .int .i64 0, .int .i64 0, .int .i64 0, .string ⟨#[]⟩, .int .i64 0, .int .i64 0] 44)).setCells W16.heap.size 0 (recCells hd.sc (.slice ra hd.rows.length rc) (.slice ea hd.ents.length ec))).heap[W16.heap.size]? = some (recObj hd.sc (.slice ra hd.rows.length rc) (.slice ea hd.ents.length ec)) from list_laid (recCells hd.sc (.slice ra hd.rows.length rc) (.slice ea hd.ents.length ec)) (blk_new W16 _) rfl)
      have Q16 := Lib.hid (show Below W16.heap.size W16 ((W16.alloc (.cells #[.int .i64 0, .string ⟨#[]⟩, .string ⟨#[]⟩, .bool false, .int .i64 0, .slice none 0 0, .slice none 0 0, .string ⟨#[]⟩, .string ⟨#[]⟩, .int .i64 0, .int .i64 0, .int .i64 0, .string ⟨#[]⟩, .int .i64 0, .int .i64 0] 44)).setCells W16.heap.size 0 (recCells hd.sc (.slice ra hd.rows.length rc) (.slice ea hd.ents.length ec))) from below_setCells (Nat.le_refl W16.heap.size) (recCells hd.sc (.slice ra hd.rows.length rc) (.slice ea hd.ents.length ec)) 0 _ (alloc_below0 W16 _))
      go_upto_region 17 with (first
        | (refine wpList_load_mid rfl 44 (.tmp 74) rfl (w.heap.size + 1) 5 rfl (recCells hd.sc (.slice ra hd.rows.length rc) (.slice ea hd.ents.length ec)) _ ?_ Try.underlying44 rfl recInfoS ?_; exact R0.out)
        | (refine wpList_store_to rfl 44 (.tmp 15) (.tmp 75) rfl W16.heap.size 0 (recCells hd.sc (.slice ra hd.rows.length rc) (.slice ea hd.ents.length ec)) rfl rfl ?_ recInfoS (rec_one ..) ?_; exact T16.out; intro W17 hW17; have L17 := Lib.hid (show W17.heap[W16.heap.size]? = some (recObj hd.sc (.slice ra hd.rows.length rc) (.slice ea hd.ents.length ec)) by rw [hW17]; exact L0.out); have B17 := Lib.hid (show Below W16.heap.size W16 W17 by rw [hW17]; exact Q16.out); clear hW17))
      have O17 := Lib.hid (O16.out.low B17.out)
      have X17 := Lib.hid (blk_step X16.out B17.out)
      have K17 := Lib.hid (blk_step L16.out B17.out)
      have I17 := Lib.hid (I16.out.step B17.out)
      have R17 := Lib.hid (show SV lRow W17 (.slice qa RH.rows.length qc) RH.rows ∧ SV lEnt W17 (.slice pa RH.ents.length pc) RH.ents from ⟨R16.out.1.below B17.out, R16.out.2.below B17.out⟩)
      clear R0 T16 L0 Q16
      have fp := Lib.hid (ipages_any W17 b9 i10 I17.out DN.out TK.out.2.1)
      go_wp2_with fail
      refine fp.out.mono ?_
      rintro ev w18 ⟨pv, rfl, ho, hs⟩
      have O18 := Lib.hid (O17.out.low hs)
      have BW18 := Lib.hid (B17.out.trans (hs.mono B17.out.size))
      have X18 := Lib.hid (blk_step X17.out hs)
      have K18 := Lib.hid (blk_step K17.out hs)
      have L18 := Lib.hid (blk_step L17.out hs)
      have I18 := Lib.hid (I17.out.step hs)
      have R18 := Lib.hid (show SV lRow w18 (.slice qa RH.rows.length qc) RH.rows ∧ SV lEnt w18 (.slice pa RH.ents.length pc) RH.ents from ⟨R17.out.1.below hs, R17.out.2.below hs⟩)
      obtain ⟨ga, gc, rfl, -, -⟩ := ho.lenN (n := i10.tk) (by simp [Ins.pgsL])
      have P18 := Lib.hid ho
      have NP := Lib.hid (show ∀ k, (Value.slice ga i10.tk gc).ownBlock = some k → ¬ T10 k ∧ k ≠ W16.heap.size ∧ k < w18.heap.size from fun k hk => ⟨O17.out.not (ho.bounds k hk).1, by have h1 := (ho.bounds k hk).1; have h2 := (Array.getElem?_eq_some_iff.1 L17.out).1; omega, (ho.bounds k hk).2⟩)
      clear ho hs fp
      go_upto_region 18 with (fail)
      obtain ⟨bb, hbb⟩ : ∃ bb, bb = decide (1 ≤ d.fresh ∧ d.fresh ≤ (i10.tk : Int)) := ⟨_, rfl⟩
      have BV := Lib.hid hbb
      clear hbb
      have XW := Lib.hid (XF.out w18 O18.out.base.below)
      go_cut [87] from 78 to 87 (fun s87 wc => s87 = .bool bb ∧ wc = w18)
      case first =>
        have y20 : w18.cell? ⟨w.heap.size + 1, 20, none⟩ = some (.int .i64 d.fresh) := blk_cell XW.out 20
        by_cases f1 : 1 ≤ d.fresh
        · by_cases f2 : d.fresh ≤ (i10.tk : Int)
          · obtain rfl : bb = true := by rw [BV.out]; exact decide_eq_true ⟨f1, f2⟩
            go_wp2_with fail
            go_meet
            case rel => first | exact ⟨trivial, rfl⟩ | exact ⟨rfl, rfl⟩ | trivial | (simp; done)
          · obtain rfl : bb = false := by rw [BV.out]; exact decide_eq_false (fun h => f2 h.2)
            go_wp2_with fail
            go_meet
            case rel => first | exact ⟨trivial, rfl⟩ | exact ⟨rfl, rfl⟩ | trivial | (simp; done)
        · obtain rfl : bb = false := by rw [BV.out]; exact decide_eq_false (fun h => f1 h.1)
          go_wp2_with fail
          go_meet
          case rel => first | exact ⟨trivial, rfl⟩ | exact ⟨rfl, rfl⟩ | trivial | (simp; done)
      case rest =>
        obtain ⟨h87, hW9⟩ := hcut
        subst hW9 h87
        obtain ⟨wu, hwu⟩ : ∃ x, x = wc := ⟨_, rfl⟩
        subst hwu
        go_upto_if 87 with (fail)
        go_cut [] from 88 to 95 (fun wx => wx.heap[W16.heap.size]? = some (recObj (mkHd hd d.fresh i10.pgsL).sc (.slice ra hd.rows.length rc) (.slice ea hd.ents.length ec)) ∧ Kept (fun k => k = W16.heap.size) wu wx)
        case first =>
          have y20 : wu.cell? ⟨w.heap.size + 1, 20, none⟩ = some (.int .i64 d.fresh) := blk_cell XW.out 20
          cases bb with
          | true =>
            obtain ⟨f1, f2⟩ := of_decide_eq_true BV.out.symm
            obtain ⟨f, hf⟩ : ∃ f : Nat, d.fresh = (f : Int) + 1 := ⟨(d.fresh - 1).toNat, by omega⟩
            obtain ⟨fr, hfr⟩ : ∃ x, x = d.fresh := ⟨_, rfl⟩
            rw [← hfr] at y20 f1 f2 hf
            have NF := Lib.hid hfr
            clear hfr
            subst hf
            have sp := P18.out.sv
            have PN := Lib.hid (show i10.pgsL.length = i10.tk by simp [Ins.pgsL])
            obtain ⟨lb, lo, hpa⟩ := sp.addr (by rw [PN.out]; omega)
            subst hpa
            have hfp : f < i10.tk := by omega
            obtain ⟨x, hx⟩ : ∃ x, i10.pgsL[f]? = some x := ⟨_, List.getElem?_eq_getElem (by rw [PN.out]; exact hfp)⟩
            have y21 : wu.cell? ⟨lb, lo + f, none⟩ = some (.int .i64 x) := by simpa [lInt] using sp.cellAt (j := 0) hx rfl
            have HX := Lib.hid hx
            have L5 := Lib.hid (show (wu.setCell ⟨W16.heap.size, 9, none⟩ (.int .i64 x)).heap[W16.heap.size]? = some (recObj { hd.sc with page := x } (.slice ra hd.rows.length rc) (.slice ea hd.ents.length ec)) from blk_set (cs := (recCells hd.sc (.slice ra hd.rows.length rc) (.slice ea hd.ents.length ec)).toArray) L18.out 9 (.int .i64 x))
            have MK := Lib.hid (show (mkHd hd ((f : Int) + 1) i10.pgsL).sc = { hd.sc with page := x } by unfold mkHd; rw [if_pos ⟨by omega, by rw [PN.out]; omega⟩, show ((f : Int) + 1 - 1).toNat = f by omega, List.getD_eq_getElem?_getD, HX.out]; rfl)
            have fz : wu.frozen? ⟨W16.heap.size, 9, none⟩ = false := blk_free (cs := (recCells hd.sc (.slice ra hd.rows.length rc) (.slice ea hd.ents.length ec)).toArray) L18.out 9
            have wz : wu.cell? ⟨W16.heap.size, 9, none⟩ = some (.int .i64 hd.sc.page) := blk_cell (cs := (recCells hd.sc (.slice ra hd.rows.length rc) (.slice ea hd.ents.length ec)).toArray) L18.out 9
            have i1 : IntKind.i64.wrap ((f : Int) + 1 - 1) = (f : Int) := by rw [show (f : Int) + 1 - 1 = f by omega]; exact Go.IntWalk.i64_in _ (by have h1 := TK.out.2.1; omega)
            have i2' : IntKind.i64.wrap (f : Int) = (f : Int) := Go.IntWalk.i64_in _ (by have h1 := TK.out.2.1; omega)
            have fi' : (f : Int) < (i10.tk : Int) := by omega
            clear sp hx
            go_wp2_with fail
            go_meet
            case rel =>
              rw [← NF.out, MK.out]
              first | exact ⟨trivial, L5.out, (Kept.refl _ _).setCell _ _⟩ | exact ⟨L5.out, (Kept.refl _ _).setCell _ _⟩
          | false =>
            have f9 := of_decide_eq_false BV.out.symm
            have MK := Lib.hid (show mkHd hd d.fresh i10.pgsL = hd by unfold mkHd; rw [if_neg (by rw [show i10.pgsL.length = i10.tk by simp [Ins.pgsL]]; exact f9)])
            clear f9
            go_wp2_with fail
            go_meet
            case rel => rw [MK.out]; exact ⟨L18.out, Kept.refl _ _⟩
        case rest =>
          obtain ⟨hm, hk⟩ := hcut
          obtain ⟨wv, hwv⟩ : ∃ x, x = wc := ⟨_, rfl⟩
          subst hwv
          have BX := Lib.hid (show Below W16.heap.size W16 wv from BW18.out.trans (hk.below (n := W16.heap.size) (fun k (e : k = W16.heap.size) => Nat.le_of_eq e.symm) BW18.out.size))
          have O19 := Lib.hid (O16.out.low BX.out)
          have X19 := Lib.hid (RfB.mk (blk_step X16.out BX.out))
          have K19 := Lib.hid (blk_step L16.out BX.out)
          have I19 := Lib.hid (I16.out.step BX.out)
          have R19 := Lib.hid (show SV lRow wv (.slice qa RH.rows.length qc) RH.rows ∧ SV lEnt wv (.slice pa RH.ents.length pc) RH.ents from ⟨R16.out.1.below BX.out, R16.out.2.below BX.out⟩)
          have L19 := Lib.hid (show wv.heap[W16.heap.size]? = some (recObj RH.sc (.slice ra hd.rows.length rc) (.slice ea hd.ents.length ec)) by rw [RE.out]; exact hm)
          have P19 := Lib.hid (P18.out.kept hk (fun a n2 c2 e (q : a.block = W16.heap.size) => (NP.out a.block (by rw [e]; rfl)).2.1 q))
          have D19 := Lib.hid (show ∀ k, (Value.slice ga i10.tk gc).ownBlock = some k → ¬ T10 k from fun k hk => (NP.out k hk).1)
          have H19 := Lib.hid (show SV lRow wv (.slice ra hd.rows.length rc) hd.rows ∧ SV lEnt wv (.slice ea hd.ents.length ec) hd.ents from ⟨HV.out.1.below O19.out.base.below, HV.out.2.below O19.out.base.below⟩)
          have XN := Lib.hid (show ∀ W, Below wv.heap.size wv W → W.cell? ⟨w.heap.size + 1, 3, none⟩ = some (.int .i64 (i10.tk : Int)) from fun W h => by
            rw [blk_cell (XF.out W (O19.out.low h).base.below) 3, TK.out.1]
            rfl)
          clear hm hk X18 K18 L18 I18 R18 P18 NP XW O18 X17 K17 I17 R17 O17 B17 L17 X16 I16 R16 O16 L16 BW18
          go_upto_region 20 with (fail)
          have BD := Lib.hid (Below.refl wv.heap.size wv).drew
          have RHE := Lib.hid (show RH.rows = hd.rows ∧ RH.ents = hd.ents from RE.out ▸ mkHd_rows hd d.fst.fresh i10.pgsL)
          have RHL := Lib.hid (show RH.rows.length ≤ 1000 ∧ RH.ents.length ≤ 1000 by rw [RHE.out.1, RHE.out.2]; exact HLm.out)
          refine anyH_region (fun w' => Below wv.heap.size wv w') (by kernel_rfl) ?_
          generalize wv.drew = wd at *
          refine wpAnyH_take (i := 0) (oi := ⟨some 95, _, _, _, _, _⟩) (v := ?va0) rfl (by kernel_rfl) (by kernel_rfl) (by kernel_rfl) (fun _ _ _ h => h) (Or.inl ⟨by rfl, ?hya0⟩) BD.out ?resta0
          case hya0 => (intro w hSw; have q0 := (X19.out.step hSw).c0; have q1 := (X19.out.step hSw).c1; have q2 := XN.out _ hSw; go_simp; try (with_reducible rfl))
          simp only [Act.put, List.setIfInBounds_toArray, List.set_cons_zero, List.set_cons_succ]
          refine wpAnyH_take (i := 1) (oi := ⟨some 96, _, _, _, _, _⟩) (v := ?va1) rfl (by kernel_rfl) (by kernel_rfl) (by kernel_rfl) (fun _ _ _ h => h) (Or.inl ⟨by rfl, ?hya1⟩) BD.out ?resta1
          case hya1 => (intro w hSw; have q0 := (X19.out.step hSw).c0; have q1 := (X19.out.step hSw).c1; have q2 := XN.out _ hSw; go_simp; try (with_reducible rfl))
          simp only [Act.put, List.setIfInBounds_toArray, List.set_cons_zero, List.set_cons_succ]
          refine anyH_one (i := 2) (o := ⟨some 97, _, _, _, _, _⟩) (by kernel_rfl) rfl (fun K hK => ?_)
          rw [if_pos (by rfl)]
          go_simp
          refine (fi.out _ (I19.out.step BD.out)).mono ?_
          rintro e2 w20 ⟨rfl, hs⟩
          have B20 := Lib.hid (BD.out.trans (hs.mono BD.out.size))
          clear hs
          unfold refV
          refine hK.out _ _ B20.out ?_
          clear hK K
          try simp only [Act.put, List.setIfInBounds_toArray, List.set_cons_zero, List.set_cons_succ]
          refine wpAnyH_take (i := 3) (oi := ⟨some 98, _, _, _, _, _⟩) (v := ?va3) rfl (by kernel_rfl) (by kernel_rfl) (by kernel_rfl) (fun _ _ _ h => h) (Or.inl ⟨by rfl, ?hya3⟩) B20.out ?resta3
          case hya3 => (intro w hSw; have q0 := (X19.out.step hSw).c0; have q1 := (X19.out.step hSw).c1; have q2 := XN.out _ hSw; go_simp; try (with_reducible rfl))
          simp only [Act.put, List.setIfInBounds_toArray, List.set_cons_zero, List.set_cons_succ]
          refine wpAnyH_take (i := 4) (oi := ⟨some 99, _, _, _, _, _⟩) (v := ?va4) rfl (by kernel_rfl) (by kernel_rfl) (by kernel_rfl) (fun _ _ _ h => h) (Or.inl ⟨by rfl, ?hya4⟩) B20.out ?resta4
          case hya4 => (intro w hSw; have q0 := (X19.out.step hSw).c0; have q1 := (X19.out.step hSw).c1; have q2 := XN.out _ hSw; go_simp; try (with_reducible rfl))
          simp only [Act.put, List.setIfInBounds_toArray, List.set_cons_zero, List.set_cons_succ]
          refine wpAnyH_take (i := 5) (oi := ⟨some 100, _, _, _, _, _⟩) (v := ?va5) rfl (by kernel_rfl) (by kernel_rfl) (by kernel_rfl) (fun _ _ _ h => h) (Or.inl ⟨by rfl, ?hya5⟩) B20.out ?resta5
          case hya5 => (intro w hSw; have q0 := (X19.out.step hSw).c0; have q1 := (X19.out.step hSw).c1; have q2 := XN.out _ hSw; go_simp; try (with_reducible rfl))
          simp only [Act.put, List.setIfInBounds_toArray, List.set_cons_zero, List.set_cons_succ]
          refine wpAnyH_take (i := 6) (oi := ⟨some 101, _, _, _, _, _⟩) (v := ?va6) rfl (by kernel_rfl) (by kernel_rfl) (by kernel_rfl) (fun _ _ _ h => h) (Or.inl ⟨by rfl, ?hya6⟩) B20.out ?resta6
          case hya6 => (intro w hSw; have q0 := (X19.out.step hSw).c0; have q1 := (X19.out.step hSw).c1; have q2 := XN.out _ hSw; go_simp; try (with_reducible rfl))
          simp only [Act.put, List.setIfInBounds_toArray, List.set_cons_zero, List.set_cons_succ]
          refine wpAnyH_take (i := 7) (oi := ⟨some 102, _, _, _, _, _⟩) (v := ?va7) rfl (by kernel_rfl) (by kernel_rfl) (by kernel_rfl) (fun _ _ _ h => h) (Or.inl ⟨by rfl, ?hya7⟩) B20.out ?resta7
          case hya7 => (intro w hSw; have q0 := (X19.out.step hSw).c0; have q1 := (X19.out.step hSw).c1; have q2 := XN.out _ hSw; go_simp; try (with_reducible rfl))
          simp only [Act.put, List.setIfInBounds_toArray, List.set_cons_zero, List.set_cons_succ]
          refine wpAnyH_take (i := 8) (oi := ⟨some 103, _, _, _, _, _⟩) (v := ?va8) rfl (by kernel_rfl) (by kernel_rfl) (by kernel_rfl) (fun _ _ _ h => h) (Or.inl ⟨by rfl, ?hya8⟩) B20.out ?resta8
          case hya8 => (intro w hSw; have q0 := (X19.out.step hSw).c0; have q1 := (X19.out.step hSw).c1; have q2 := XN.out _ hSw; go_simp; try (with_reducible rfl))
          simp only [Act.put, List.setIfInBounds_toArray, List.set_cons_zero, List.set_cons_succ]
          refine wpAnyH_take (i := 9) (oi := ⟨some 104, _, _, _, _, _⟩) (v := .agg (recCells RH.sc (.slice qa RH.rows.length qc) (.slice pa RH.ents.length pc)).toArray) rfl (by kernel_rfl) (by kernel_rfl) (by kernel_rfl) (fun _ _ _ h => h) (yieldsIf_load_mid (by rfl) 44 (.tmp 13) rfl w15.heap.size 0 rfl (recCells RH.sc (.slice qa RH.rows.length qc) (.slice pa RH.ents.length pc)) _ (fun w h => rec_range (blk_step K19.out h)) Try.underlying44 rfl recInfoS) B20.out ?resta9
          simp only [Act.put, List.setIfInBounds_toArray, List.set_cons_zero, List.set_cons_succ]
          refine wpAnyH_take (i := 10) (oi := ⟨some 105, _, _, _, _, _⟩) (v := .agg (recCells RH.sc (.slice ra hd.rows.length rc) (.slice ea hd.ents.length ec)).toArray) rfl (by kernel_rfl) (by kernel_rfl) (by kernel_rfl) (fun _ _ _ h => h) (yieldsIf_load_mid (by rfl) 44 (.tmp 15) rfl W16.heap.size 0 rfl (recCells RH.sc (.slice ra hd.rows.length rc) (.slice ea hd.ents.length ec)) _ (fun w h => rec_range (blk_step L19.out h)) Try.underlying44 rfl recInfoS) B20.out ?resta10
          simp only [Act.put, List.setIfInBounds_toArray, List.set_cons_zero, List.set_cons_succ]
          refine anyH_one (i := 11) (o := ⟨some 106, _, _, _, _, _⟩) (by kernel_rfl) rfl (fun K hK => ?_)
          rw [if_pos (by rfl)]
          go_simp
          refine (same_rec _ _ RH _ ⟨_, _, rfl, R19.out.1.below B20.out, R19.out.2.below B20.out⟩ ⟨_, _, rfl, RHE.out.1 ▸ H19.out.1.below B20.out, RHE.out.2 ▸ H19.out.2.below B20.out⟩ RHL.out.1 RHL.out.2).mono ?_
          rintro e2 w21 ⟨rfl, hs⟩
          have B21 := Lib.hid (B20.out.trans (hs.mono B20.out.size))
          clear hs
          refine hK.out _ _ B21.out ?_
          clear hK K
          try simp only [Act.put, List.setIfInBounds_toArray, List.set_cons_zero, List.set_cons_succ]
          refine wpAnyH_take (i := 12) (oi := ⟨some 107, _, _, _, _, _⟩) (v := ?va12) rfl (by kernel_rfl) (by kernel_rfl) (by kernel_rfl) (fun _ _ _ h => h) (Or.inl ⟨by rfl, ?hya12⟩) B21.out ?resta12
          case hya12 => (intro w hSw; have q0 := (X19.out.step hSw).c0; have q1 := (X19.out.step hSw).c1; have q2 := XN.out _ hSw; go_simp; try (with_reducible rfl))
          simp only [Act.put, List.setIfInBounds_toArray, List.set_cons_zero, List.set_cons_succ]
          refine wpAnyH_take (i := 13) (oi := ⟨some 108, _, _, _, _, _⟩) (v := ?va13) rfl (by kernel_rfl) (by kernel_rfl) (by kernel_rfl) (fun _ _ _ h => h) (Or.inl ⟨by rfl, ?hya13⟩) B21.out ?resta13
          case hya13 => (intro w hSw; have q0 := (X19.out.step hSw).c0; have q1 := (X19.out.step hSw).c1; have q2 := XN.out _ hSw; go_simp; try (with_reducible rfl))
          simp only [Act.put, List.setIfInBounds_toArray, List.set_cons_zero, List.set_cons_succ]
          refine wpAnyH_take (i := 14) (oi := ⟨some 109, _, _, _, _, _⟩) (v := ?va14) rfl (by kernel_rfl) (by kernel_rfl) (by kernel_rfl) (fun _ _ _ h => h) (Or.inl ⟨by rfl, ?hya14⟩) B21.out ?resta14
          case hya14 => (intro w hSw; have q0 := (X19.out.step hSw).c0; have q1 := (X19.out.step hSw).c1; have q2 := XN.out _ hSw; go_simp; try (with_reducible rfl))
          simp only [Act.put, List.setIfInBounds_toArray, List.set_cons_zero, List.set_cons_succ]
          refine wpAnyH_take (i := 15) (oi := ⟨some 110, _, _, _, _, _⟩) (v := ?va15) rfl (by kernel_rfl) (by kernel_rfl) (by kernel_rfl) (fun _ _ _ h => h) (Or.inl ⟨by rfl, ?hya15⟩) B21.out ?resta15
          case hya15 => (intro w hSw; have q0 := (X19.out.step hSw).c0; have q1 := (X19.out.step hSw).c1; have q2 := XN.out _ hSw; go_simp; try (with_reducible rfl))
          simp only [Act.put, List.setIfInBounds_toArray, List.set_cons_zero, List.set_cons_succ]
          refine wpAnyH_take (i := 16) (oi := ⟨some 111, _, _, _, _, _⟩) (v := ?va16) rfl (by kernel_rfl) (by kernel_rfl) (by kernel_rfl) (fun _ _ _ h => h) (Or.inl ⟨by rfl, ?hya16⟩) B21.out ?resta16
          case hya16 => (intro w hSw; have q0 := (X19.out.step hSw).c0; have q1 := (X19.out.step hSw).c1; have q2 := XN.out _ hSw; go_simp; try (with_reducible rfl))
          simp only [Act.put, List.setIfInBounds_toArray, List.set_cons_zero, List.set_cons_succ]
          refine wpAnyH_take (i := 17) (oi := ⟨some 112, _, _, _, _, _⟩) (v := ?va17) rfl (by kernel_rfl) (by kernel_rfl) (by kernel_rfl) (fun _ _ _ h => h) (Or.inl ⟨by rfl, ?hya17⟩) B21.out ?resta17
          case hya17 => (intro w hSw; have q0 := (X19.out.step hSw).c0; have q1 := (X19.out.step hSw).c1; have q2 := XN.out _ hSw; go_simp; try (with_reducible rfl))
          simp only [Act.put, List.setIfInBounds_toArray, List.set_cons_zero, List.set_cons_succ]
          refine wpAnyH_take (i := 18) (oi := ⟨some 113, _, _, _, _, _⟩) (v := ?va18) rfl (by kernel_rfl) (by kernel_rfl) (by kernel_rfl) (fun _ _ _ h => h) (Or.inl ⟨by rfl, ?hya18⟩) B21.out ?resta18
          case hya18 => (intro w hSw; have q0 := (X19.out.step hSw).c0; have q1 := (X19.out.step hSw).c1; have q2 := XN.out _ hSw; go_simp; try (with_reducible rfl))
          simp only [Act.put, List.setIfInBounds_toArray, List.set_cons_zero, List.set_cons_succ]
          refine wpAnyH_take (i := 19) (oi := ⟨some 114, _, _, _, _, _⟩) (v := ?va19) rfl (by kernel_rfl) (by kernel_rfl) (by kernel_rfl) (fun _ _ _ h => h) (Or.inl ⟨by rfl, ?hya19⟩) B21.out ?resta19
          case hya19 => (intro w hSw; have q0 := (X19.out.step hSw).c0; have q1 := (X19.out.step hSw).c1; have q2 := XN.out _ hSw; go_simp; try (with_reducible rfl))
          simp only [Act.put, List.setIfInBounds_toArray, List.set_cons_zero, List.set_cons_succ]
          refine wpAnyH_take (i := 20) (oi := ⟨some 115, _, _, _, _, _⟩) (v := ?va20) rfl (by kernel_rfl) (by kernel_rfl) (by kernel_rfl) (fun _ _ _ h => h) (Or.inl ⟨by rfl, ?hya20⟩) B21.out ?resta20
          case hya20 => (intro w hSw; have q0 := (X19.out.step hSw).c0; have q1 := (X19.out.step hSw).c1; have q2 := XN.out _ hSw; go_simp; try (with_reducible rfl))
          simp only [Act.put, List.setIfInBounds_toArray, List.set_cons_zero, List.set_cons_succ]
          refine wpAnyH_done (by kernel_rfl) ?_ _
          have O22 := Lib.hid (O19.out.low B21.out)
          have P22 := Lib.hid (P19.out.below B21.out)
          clear X19 K19 I19 R19 L19 H19 P19 XN RHE RHL fi RE BD B20 B21 O19 BX HR HV HLm BV X15 I15 R15 X14 I14 X13 I13 I12 I11 I10
          go_wp2_with fail
          go_loopg [118] i10.tk (fun g v118 wx => ∃ (q : Nat), q + g = i10.tk ∧ v118 = .int .i64 (q : Int) ∧ One WB wx T10 cl m S10 n ps10 L10 (Ck.new n.t n.c) ∧ OwnS lInt W17.heap.size wx (.slice ga i10.tk gc) i10.pgsL)
          case atStart => exact ⟨0, by omega, rfl, O22.out, P22.out⟩
          case round =>
            obtain ⟨q, hq, rfl, hO, hP⟩ := hrel
            have Q1 := Lib.hid hq
            have O1 := Lib.hid hO
            have P1 := Lib.hid hP
            have i118 : IntKind.i64.wrap ((q : Int) + 1) = (q : Int) + 1 := Go.IntWalk.i64_in _ (by have := TK.out.2.1; omega)
            clear hq hO hP O22 P22
            by_cases hlt : q < i10.tk
            · have sp := P1.out.sv
              obtain ⟨lb, lo, hga⟩ := sp.addr (by simp [Ins.pgsL]; omega)
              subst hga
              have hx : i10.pgsL[q]? = some (i10.pg q) := by simp [Ins.pgsL, hlt]
              have y21 : wr.cell? ⟨lb, lo + q, none⟩ = some (.int .i64 (i10.pg q)) := by simpa [lInt] using sp.cellAt (j := 0) hx rfl
              clear sp hx
              have hhd : headT L10 (i10.pg q) = i10.rf q := by
                obtain ⟨x, ex, hLx⟩ := HP.out q hlt
                rw [ex]; exact headT_at hLx
              obtain ⟨k1, hM⟩ := O1.out.mem
              have fh := Lib.hid (nHead_any wr m S10 n k1 ps10 L10 (Ck.new n.t n.c) (i10.pg q) hM)
              rw [hhd] at fh
              obtain ⟨rs1, rg1, hrf⟩ : ∃ a b, i10.rf q = (a, b) := ⟨_, _, rfl⟩
              have RF1 := Lib.hid hrf
              rw [hrf] at fh
              clear hM hrf hhd
              go_wp2_with fail
              refine fh.out.mono ?_
              rintro ev w22 ⟨ve4, rfl, he, hM, hk⟩
              have O2 := Lib.hid (O1.out.access hM hk)
              have P2 := Lib.hid (P1.out.kept hk (fun a n2 c2 e q => D19.out a.block (by rw [e]; rfl) (O1.out.base.tm _ q)))
              clear he hM hk fh y21
              unfold refV
              go_upto_region 26 with (fail)
              obtain ⟨W23, hW23⟩ : ∃ W, W = w22.alloc (.cells #[.int .i64 rs1, .int .i64 rg1] 34) := ⟨_, rfl⟩
              rw [← hW23]
              have b23 : Below w22.heap.size w22 W23 := by rw [hW23]; exact alloc_below0 w22 _
              have O23 := Lib.hid (O2.out.low b23)
              have P23 := Lib.hid (P2.out.below b23)
              have X23 : RfB W23 w22.heap.size rs1 rg1 := RfB.mk (by rw [hW23]; exact blk_new _ _)
              have x0 := X23.c0
              have x1 := X23.c1
              clear hW23 b23 X23
              obtain ⟨k23, hM⟩ := O23.out.mem
              have fl := Lib.hid (mLoad_any W23 m S10 n k23 ps10 L10 (Ck.new n.t n.c) rs1 rg1 hM)
              have hld : codeM n.s ps10 rs1 rg1 = 0 ∧ loadM n.s ps10 rs1 rg1 = ((ds[q]?).map RecD.bare).getD RecD.zero := by
                have h1 := HL.out q (Nat.le_of_lt hlt)
                rw [RF1.out] at h1
                unfold recsM at h1
                rw [if_neg (by omega)] at h1
                exact h1
              rw [hld.1, hld.2] at fl
              clear hM hld
              obtain ⟨RB, hRB⟩ : ∃ e, e = ((ds[q]?).map RecD.bare).getD RecD.zero := ⟨_, rfl⟩
              have RBE := Lib.hid hRB
              rw [← hRB] at fl
              clear hRB
              go_wp2_with fail
              clear x0 x1
              refine fl.out.mono ?_
              rintro ev w24 ⟨rv, en, ve5, rfl, he, ho1, ho2, hM, hk⟩
              obtain rfl := he.nil rfl
              obtain ⟨ra1, rc1, rfl, -, -⟩ := ho1.sv.lenform
              obtain ⟨ea1, ec1, rfl, -, -⟩ := ho2.sv.lenform
              have O24 := Lib.hid (O23.out.access hM hk)
              have P24 := Lib.hid (P23.out.kept hk (fun a n2 c2 e q => D19.out a.block (by rw [e]; rfl) (O23.out.base.tm _ q)))
              have V24 := Lib.hid (show SV lRow w24 (.slice ra1 RB.rows.length rc1) RB.rows ∧ SV lEnt w24 (.slice ea1 RB.ents.length ec1) RB.ents from ⟨ho1.sv, ho2.sv⟩)
              clear he ho1 ho2 hM hk fl
              unfold recVal
              have T24 := Lib.hid (show (w24.alloc (.cells #[.int .i64 0, .string ⟨#[]⟩, .string ⟨#[]⟩, .bool false, .int .i64 0, .slice none 0 0, .slice none 0 0, .string ⟨#[]⟩, .string ⟨#[]⟩, .int .i64 0, .int .i64 0, .int .i64 0, .string ⟨#[]⟩, .int .i64 0, .int .i64 0] 44)).there w24.heap.size 0 15 from n_there_new w24 _ _)
              have L24 := Lib.hid (show ((w24.alloc (.cells #[.int .i64 0, .string ⟨#[]⟩, .string ⟨#[]⟩, .bool false, .int .i64 0, .slice none 0 0, .slice none 0 0, .string ⟨#[]⟩, .string ⟨#[]⟩, .int .i64 0, .int .i64 0, .int .i64 0, .string ⟨#[]⟩, .int .i64 0, .int .i64 0] 44)).setCells w24.heap.size 0 (recCells RB.sc (.slice ra1 RB.rows.length rc1) (.slice ea1 RB.ents.length ec1))).heap[w24.heap.size]? = some (recObj RB.sc (.slice ra1 RB.rows.length rc1) (.slice ea1 RB.ents.length ec1)) from list_laid (recCells RB.sc (.slice ra1 RB.rows.length rc1) (.slice ea1 RB.ents.length ec1)) (blk_new w24 _) rfl)
              have Q24 := Lib.hid (show Below w24.heap.size w24 ((w24.alloc (.cells #[.int .i64 0, .string ⟨#[]⟩, .string ⟨#[]⟩, .bool false, .int .i64 0, .slice none 0 0, .slice none 0 0, .string ⟨#[]⟩, .string ⟨#[]⟩, .int .i64 0, .int .i64 0, .int .i64 0, .string ⟨#[]⟩, .int .i64 0, .int .i64 0] 44)).setCells w24.heap.size 0 (recCells RB.sc (.slice ra1 RB.rows.length rc1) (.slice ea1 RB.ents.length ec1))) from below_setCells (Nat.le_refl w24.heap.size) (recCells RB.sc (.slice ra1 RB.rows.length rc1) (.slice ea1 RB.ents.length ec1)) 0 _ (alloc_below0 w24 _))
              go_upto_region 27 with (refine wpList_store_to rfl 44 (.tmp 21) (.tmp 133) rfl w24.heap.size 0 (recCells RB.sc (.slice ra1 RB.rows.length rc1) (.slice ea1 RB.ents.length ec1)) rfl rfl ?_ recInfoS (rec_one ..) ?_; exact T24.out; intro W25 hW25; have L25 := Lib.hid (show W25.heap[w24.heap.size]? = some (recObj RB.sc (.slice ra1 RB.rows.length rc1) (.slice ea1 RB.ents.length ec1)) by rw [hW25]; exact L24.out); have B25 := Lib.hid (show Below w24.heap.size w24 W25 by rw [hW25]; exact Q24.out); clear hW25)
              clear T24 L24 Q24
              go_upto_region 28 with (fail)
              obtain ⟨W26, hW26⟩ : ∃ W, W = W25.alloc (.cells #[.int .i64 0, .string ⟨#[]⟩, .string ⟨#[]⟩, .bool false, .int .i64 0, .slice none 0 0, .slice none 0 0, .string ⟨#[]⟩, .string ⟨#[]⟩, .int .i64 0, .int .i64 0, .int .i64 0, .string ⟨#[]⟩, .int .i64 0, .int .i64 0] 44) := ⟨_, rfl⟩
              rw [← hW26]
              have b26 : Below W25.heap.size W25 W26 := by rw [hW26]; exact alloc_below0 W25 _
              have BQ := Lib.hid (B25.out.trans (b26.mono B25.out.size))
              have Z26 := Lib.hid (show W26.heap[W25.heap.size]? = some (recObj Sc.zero (.slice none 0 0) (.slice none 0 0)) by rw [hW26]; exact blk_new W25 _)
              have K26 := Lib.hid (blk_step L25.out b26)
              have O26 := Lib.hid (O24.out.low BQ.out)
              have P26 := Lib.hid (P24.out.below BQ.out)
              have V26 := Lib.hid (show SV lRow W26 (.slice ra1 RB.rows.length rc1) RB.rows ∧ SV lEnt W26 (.slice ea1 RB.ents.length ec1) RB.ents from ⟨V24.out.1.below BQ.out, V24.out.2.below BQ.out⟩)
              have NE := Lib.hid (show w24.heap.size < W25.heap.size from (Array.getElem?_eq_some_iff.1 L25.out).1)
              clear hW26 b26 L25 B25
              obtain ⟨ba, hba⟩ : ∃ x, x = d.ba := ⟨_, rfl⟩
              have y4 : W26.cell? ⟨w.heap.size + 1, 4, none⟩ = some (.slice ba d.bn d.bc) := by rw [hba]; exact blk_cell (XF.out W26 O26.out.base.below) 4
              have JS := Lib.hid (show SV lRec W26 (.slice ba d.bn d.bc) bs by rw [hba]; exact JB.out.sv.below O26.out.base.below)
              have JN := Lib.hid (show bs.length = d.bn ∧ ds.length = d.bn by
                obtain ⟨_, _, e, -⟩ := JS.out.lenform
                have h1 := (Value.slice.inj e).2.1
                exact ⟨h1.symm, JB.out.len.symm.trans h1.symm⟩)
              clear hba
              by_cases hb : q < d.bn
              · obtain ⟨lb2, lo2, hba2⟩ := JS.out.addr (by rw [JN.out.1]; omega)
                subst hba2
                obtain ⟨x, hx⟩ : ∃ x, bs[q]? = some x := ⟨_, List.getElem?_eq_getElem (by rw [JN.out.1]; exact hb)⟩
                obtain ⟨e, he⟩ : ∃ e, ds[q]? = some e := ⟨_, List.getElem?_eq_getElem (by rw [JN.out.2]; exact hb)⟩
                obtain rfl : RB = e.bare := by rw [RBE.out, he]; rfl
                obtain ⟨gsc, grv, gev, gl1, gl2⟩ := JB.out.each q x e hx he
                have RG := JS.out.range hx
                obtain ⟨sc0, ra2, rn2, rc2, ea2, en2, ec2⟩ := x
                simp only at gsc grv gev
                subst gsc
                obtain ⟨_, _, e1, -⟩ := grv.lenform
                obtain rfl : rn2 = e.rows.length := (Value.slice.inj e1).2.1
                obtain ⟨_, _, e2, -⟩ := gev.lenform
                obtain rfl : en2 = e.ents.length := (Value.slice.inj e2).2.1
                have UW := Lib.hid (show SV lRow WB (.slice ra2 e.rows.length rc2) e.rows ∧ SV lEnt WB (.slice ea2 e.ents.length ec2) e.ents from ⟨grv, gev⟩)
                have LM := Lib.hid (show e.bare.rows.length ≤ 1000 ∧ e.bare.ents.length ≤ 1000 from ⟨gl1, gl2⟩)
                have R3 := Lib.hid (show W26.rangeAt lb2 (lo2 + q * 15) (recCells e.sc (.slice ra2 e.rows.length rc2) (.slice ea2 e.ents.length ec2)) from RG)
                clear e1 e2 grv gev gl1 gl2 hx he RG
                have T27 := Lib.hid (show W26.there W25.heap.size 0 15 from blk_there (cs := (recCells Sc.zero (.slice none 0 0) (.slice none 0 0)).toArray) Z26.out 15 (by decide))
                have L26 := Lib.hid (show (W26.setCells W25.heap.size 0 (recCells e.sc (.slice ra2 e.rows.length rc2) (.slice ea2 e.ents.length ec2))).heap[W25.heap.size]? = some (recObj e.sc (.slice ra2 e.rows.length rc2) (.slice ea2 e.ents.length ec2)) from list_laid (recCells e.sc (.slice ra2 e.rows.length rc2) (.slice ea2 e.ents.length ec2)) (cs := (recCells Sc.zero (.slice none 0 0) (.slice none 0 0)).toArray) Z26.out rfl)
                go_upto_region 30 with (first
                  | (refine wpList_load_mid rfl 44 (.tmp 143) rfl lb2 (lo2 + q * 15) rfl (recCells e.sc (.slice ra2 e.rows.length rc2) (.slice ea2 e.ents.length ec2)) _ ?_ Try.underlying44 rfl recInfoS ?_; exact R3.out)
                  | (refine wpList_store_to rfl 44 (.tmp 23) (.tmp 144) rfl W25.heap.size 0 (recCells e.sc (.slice ra2 e.rows.length rc2) (.slice ea2 e.ents.length ec2)) rfl rfl ?_ recInfoS (rec_one ..) ?_; exact T27.out; intro W29 hW29; have L29 := Lib.hid (show W29.heap[W25.heap.size]? = some (recObj e.sc (.slice ra2 e.rows.length rc2) (.slice ea2 e.ents.length ec2)) by rw [hW29]; exact L26.out); have KB := Lib.hid (show Kept (fun k => k = W25.heap.size) W26 W29 by rw [hW29]; exact Kept.setCells _ _ _ (Kept.refl _ _)); clear hW29))
                clear y4
                go_upto_region 31 with (refine wpList_store_to rfl 34 (.tmp 146) (.tmp 145) rfl W25.heap.size 13 [.int .i64 0, .int .i64 0] rfl rfl ?_ refInfoS (by kernel_rfl) ?_; exact blk_thereN L29.out 13 2 (by show 13 + 2 ≤ 15; decide); intro w27 hw27; have L27 := Lib.hid (show w27.heap[W25.heap.size]? = some (recObj e.bare.sc (.slice ra2 e.bare.rows.length rc2) (.slice ea2 e.bare.ents.length ec2)) by rw [hw27]; exact blk_set (blk_set L29.out 13 (.int .i64 0)) 14 (.int .i64 0)); have KC := Lib.hid (show Kept (fun k => k = W25.heap.size) W26 w27 by rw [hw27]; exact Kept.setCells _ _ _ KB.out); clear hw27)
                have B27 := Lib.hid (BQ.out.trans (KC.out.below (n := w24.heap.size) (fun k (e : k = W25.heap.size) => by have := NE.out; omega) BQ.out.size))
                have O27 := Lib.hid (O24.out.low B27.out)
                have P27 := Lib.hid (P24.out.below B27.out)
                have V27 := Lib.hid (show SV lRow w27 _ _ ∧ SV lEnt w27 _ _ from ⟨V24.out.1.below B27.out, V24.out.2.below B27.out⟩)
                have K27 := Lib.hid ((KC.out.block _ (Array.getElem?_eq_some_iff.1 K26.out).1 (show ¬ w24.heap.size = W25.heap.size by have := NE.out; omega)).trans K26.out)
                have U27 := Lib.hid (show SV lRow w27 _ _ ∧ SV lEnt w27 _ _ from ⟨UW.out.1.below O27.out.base.below, UW.out.2.below O27.out.base.below⟩)
                have K28 := Lib.hid (rec_range K27.out)
                have L28 := Lib.hid (rec_range L27.out)
                go_wp2_with (first
                  | (refine wpList_load_midW (by rfl) 44 (.tmp 21) rfl w24.heap.size 0 rfl (recCells e.bare.sc (.slice ra1 e.bare.rows.length rc1) (.slice ea1 e.bare.ents.length ec1)) _ ?_ Try.underlying44 rfl recInfoS ?_; exact K28.out)
                  | (refine wpList_load_midW (by rfl) 44 (.tmp 23) rfl W25.heap.size 0 rfl (recCells e.bare.sc (.slice ra2 e.bare.rows.length rc2) (.slice ea2 e.bare.ents.length ec2)) _ ?_ Try.underlying44 rfl recInfoS ?_; exact L28.out))
                refine (same_rec _ _ e.bare _ ⟨_, _, rfl, V27.out.1, V27.out.2⟩ ⟨_, _, rfl, U27.out.1, U27.out.2⟩ LM.out.1 LM.out.2).mono ?_
                rintro ev w28 ⟨rfl, hs⟩
                have O28 := Lib.hid (O27.out.low hs)
                have P28 := Lib.hid (P27.out.below hs)
                clear hs
                go_wp2_with fail
                go_roundg (i10.tk - (q + 1))
                case measure => have := Q1.out; omega
                case rel => exact ⟨q + 1, by omega, by go_num, O28.out, P28.out⟩
              · obtain rfl : RB = RecD.zero := by rw [RBE.out, List.getElem?_eq_none (by rw [JN.out.2]; omega)]; rfl
                have LM := Lib.hid (show RecD.zero.rows.length ≤ 1000 ∧ RecD.zero.ents.length ≤ 1000 from ⟨Nat.zero_le _, Nat.zero_le _⟩)
                go_upto_region 31 with (refine wpList_store_to rfl 34 (.tmp 146) (.tmp 145) rfl W25.heap.size 13 [.int .i64 0, .int .i64 0] rfl rfl ?_ refInfoS (by kernel_rfl) ?_; exact blk_thereN Z26.out 13 2 (by show 13 + 2 ≤ 15; decide); intro w27 hw27; have L27 := Lib.hid (show w27.heap[W25.heap.size]? = some (recObj RecD.zero.sc (.slice none RecD.zero.rows.length 0) (.slice none RecD.zero.ents.length 0)) by rw [hw27]; exact blk_set (blk_set Z26.out 13 (.int .i64 0)) 14 (.int .i64 0)); have KC := Lib.hid (show Kept (fun k => k = W25.heap.size) W26 w27 by rw [hw27]; exact Kept.setCells _ _ _ (Kept.refl _ _)); clear hw27)
                clear y4
                have B27 := Lib.hid (BQ.out.trans (KC.out.below (n := w24.heap.size) (fun k (e : k = W25.heap.size) => by have := NE.out; omega) BQ.out.size))
                have O27 := Lib.hid (O24.out.low B27.out)
                have P27 := Lib.hid (P24.out.below B27.out)
                have V27 := Lib.hid (show SV lRow w27 _ _ ∧ SV lEnt w27 _ _ from ⟨V24.out.1.below B27.out, V24.out.2.below B27.out⟩)
                have K27 := Lib.hid ((KC.out.block _ (Array.getElem?_eq_some_iff.1 K26.out).1 (show ¬ w24.heap.size = W25.heap.size by have := NE.out; omega)).trans K26.out)
                have U27 := Lib.hid (show SV lRow w27 _ _ ∧ SV lEnt w27 _ _ from ⟨SV.nil lRow w27, SV.nil lEnt w27⟩)
                have K28 := Lib.hid (rec_range K27.out)
                have L28 := Lib.hid (rec_range L27.out)
                go_wp2_with (first
                  | (refine wpList_load_midW (by rfl) 44 (.tmp 21) rfl w24.heap.size 0 rfl (recCells RecD.zero.sc (.slice ra1 RecD.zero.rows.length rc1) (.slice ea1 RecD.zero.ents.length ec1)) _ ?_ Try.underlying44 rfl recInfoS ?_; exact K28.out)
                  | (refine wpList_load_midW (by rfl) 44 (.tmp 23) rfl W25.heap.size 0 rfl (recCells RecD.zero.sc (.slice none RecD.zero.rows.length 0) (.slice none RecD.zero.ents.length 0)) _ ?_ Try.underlying44 rfl recInfoS ?_; exact L28.out))
                refine (same_rec _ _ RecD.zero _ ⟨_, _, rfl, V27.out.1, V27.out.2⟩ ⟨_, _, rfl, U27.out.1, U27.out.2⟩ LM.out.1 LM.out.2).mono ?_
                rintro ev w28 ⟨rfl, hs⟩
                have O28 := Lib.hid (O27.out.low hs)
                have P28 := Lib.hid (P27.out.below hs)
                clear hs
                go_wp2_with fail
                go_roundg (i10.tk - (q + 1))
                case measure => have := Q1.out; omega
                case rel => exact ⟨q + 1, by omega, by go_num, O28.out, P28.out⟩
            · go_wp2_with fail
              refine (awakeN _).mono ?_
              rintro ev w29 ⟨rfl, hs⟩
              have BF := Lib.hid ((BB.out.trans (O1.out.base.below.mono BB.out.size)).trans (hs.mono (BB.out.trans (O1.out.base.below.mono BB.out.size)).size))
              clear hs
              go_wp2
              go_ret
              exact ⟨rfl, BF.out⟩
end Go.Proofs.Ytaiaaljahnackaa
