/- Law InstallTwice: its walk. -/
import Derived.Test.YtaiaaljahnackaaNsCrew
import Derived.Test.YtaiaaljahnackaaNsOne
import Derived.Test.YtaiaaljahnackaaNsFirst
namespace Go.Proofs.Ytaiaaljahnackaa
open Go.RowKit

set_option maxRecDepth 100000 in
set_option maxHeartbeats 4000000 in
theorem rf_same (v u : Value) (xs : List Rf) (w : World) (hv : SV lRef w v xs) (hu : SV lRef w u xs) :
    Calls Try.prog 21 #[v, u] w fun ev w' => ev = .returned (.bool true) ∧ Below w.heap.size w w' := by
  obtain ⟨va, vc, rfl, hlc, hcm⟩ := hv.lenform
  obtain ⟨ua, uc, rfl, hlc2, hcm2⟩ := hu.lenform
  obtain ⟨N, hN⟩ : ∃ N, xs.length = N := ⟨_, rfl⟩
  have LN := Lib.hid hN
  have V := Lib.hid hv
  have U := Lib.hid hu
  unfold maxLen at hcm
  rw [hN] at V U hlc ⊢
  clear hv hu hN hlc2 hcm2
  go_enter Try.func21, Try.ntmps21
  go_wp2
  go_loopg [5] N (fun r i wr => ∃ k : Nat, k + r = N ∧ i = .int .i64 k ∧ Below w.heap.size w wr)
  case atStart => exact ⟨0, by omega, rfl, Below.refl _ _⟩
  case round =>
    obtain ⟨k, hk, rfl, hB⟩ := hrel
    have A := Lib.hid (show Below w.heap.size w wr ∧ k + gk = N from ⟨hB, hk⟩)
    have V := Lib.hid (V.out.below hB)
    have U := Lib.hid (U.out.below hB)
    clear hB hk
    by_cases hlt : k < N
    · obtain ⟨⟨p, q⟩, hx⟩ : ∃ d, xs[k]? = some d := ⟨_, List.getElem?_eq_getElem (by rw [LN.out]; exact hlt)⟩
      obtain ⟨b, off, ha⟩ := V.out.addr (by rw [LN.out]; omega)
      subst ha
      obtain ⟨b2, off2, ha⟩ := U.out.addr (by rw [LN.out]; omega)
      subst ha
      have x0 := V.out.cellAt (j := 0) hx rfl
      have x1 := V.out.cellAt (j := 1) hx rfl
      have y0 := U.out.cellAt (j := 0) hx rfl
      have y1 := U.out.cellAt (j := 1) hx rfl
      simp only [lRef, Nat.add_zero] at x0 x1 y0 y1
      have j3 : (0 : Int) ≤ (k : Int) := by omega
      have j4 : (k : Int) < (N : Int) := by omega
      have e1 : (p == p) = true := by simp
      have e2 : (q == q) = true := by simp
      clear hx
      go_wp2
      go_quiet (fail)
      go_wp2
      go_roundg (N - (k + 1))
      case measure => have := A.out.2; omega
      case rel => exact ⟨k + 1, by omega, by go_num, below_drewN A.out.1 _⟩
    · obtain rfl : k = N := by have := A.out.2; omega
      go_wp2
      go_ret
      exact ⟨rfl, A.out.1⟩

open Go.RowKit

theorem job_set0 {w : World} {b : Nat} {d : JbD} {T : TypeId} (h : w.heap[b]? = some (.cells d.cells.toArray T (0, 0))) : (w.setCell ⟨b, 0, none⟩ (.int .i64 0)).heap[b]? = some (.cells ({ d with page := 0 } : JbD).cells.toArray T (0, 0)) := blk_set h 0 (.int .i64 0)
theorem job_set1 {w : World} {b : Nat} {d : JbD} {T : TypeId} (h : w.heap[b]? = some (.cells ({ d with page := 0 } : JbD).cells.toArray T (0, 0))) : (w.setCells b 1 [.int .i64 1, .int .i64 1]).heap[b]? = some (.cells d.fst.cells.toArray T (0, 0)) := blk_set (blk_set h 1 (.int .i64 1)) 2 (.int .i64 1)
theorem fold_zip : ∀ (cs : List Value) (k : Nat) (zs : Array Value), k + cs.length ≤ zs.size → ∀ i : Nat, (List.foldl (fun (cs : Array Value) (x : Value × Nat) => cs.setIfInBounds x.2 x.1) zs (cs.zipIdx k))[i]? = if k ≤ i ∧ i < k + cs.length then cs[i - k]? else zs[i]?
  | [], k, zs, _, i => by simp; omega
  | c :: cs, k, zs, h, i => by
    simp only [List.zipIdx_cons, List.foldl_cons]
    have h2 : k + (cs.length + 1) ≤ zs.size := h
    rw [fold_zip cs (k + 1) (zs.setIfInBounds k c) (by rw [Array.size_setIfInBounds]; omega) i]
    by_cases e : i = k
    · subst e
      rw [if_neg (by omega), if_pos (by simp), Array.getElem?_setIfInBounds, if_pos rfl, if_pos (by omega)]
      simp
    · by_cases e2 : k + 1 ≤ i ∧ i < k + 1 + cs.length
      · rw [if_pos e2, if_pos (by simp; omega), show i - k = (i - (k + 1)) + 1 by omega, List.getElem?_cons_succ]
      · rw [if_neg e2, if_neg (by simp; omega), Array.getElem?_setIfInBounds, if_neg (fun h => e h.symm)]
theorem fold_zip0 (cs : List Value) (zs : Array Value) (h : cs.length = zs.size) : List.foldl (fun (cs : Array Value) (x : Value × Nat) => cs.setIfInBounds x.2 x.1) zs cs.zipIdx = cs.toArray := by
  apply Array.ext_getElem?
  intro i
  rw [fold_zip cs 0 zs (by omega) i]
  by_cases hi : i < cs.length
  · rw [if_pos (by omega)]; simp
  · rw [if_neg (by omega), Array.getElem?_eq_none (by omega)]; simp; omega
set_option maxRecDepth 100000 in
set_option maxHeartbeats 4000000 in
theorem lawTwice (l : Lim) (d : JbD) (bs : List RcL) (ds : List RecD) (hd : RecD) (w : World) (hj0 : JobW w d bs ds hd) :
    Calls Try.prog 5 #[limV l, .agg d.cells.toArray] w fun ev w' => ev = .returned (.bool true) ∧ Below w.heap.size w w' := by
  obtain ⟨cs, hcs⟩ : ∃ cs, cs = d.cells := ⟨_, rfl⟩
  have HC := Lib.hid hcs
  have CO := Lib.hid (show cs.toArray.all (fun x => x.oneCell') = true from hcs ▸ all_oneCell_toArray d.cells_one)
  have CL := Lib.hid (show cs.length = 21 from hcs ▸ rfl)
  have JI := Lib.hid (show (Try.prog.info? 46).map (·.size) = some cs.length from CL.out ▸ jobInfo21)
  have LJ := Lib.hid (show lJob.flat [d] = cs by rw [hcs]; simp [Lay.flat, lJob])
  rw [← hcs]
  obtain ⟨W0, hW0⟩ : ∃ W, W = (w.alloc (limObj l)).alloc (.cells cs.toArray 46) := ⟨_, rfl⟩
  have b1 := alloc_below0 w (limObj l)
  have b2 := alloc_below0 (w.alloc (limObj l)) (.cells cs.toArray 46)
  have sz : (w.alloc (limObj l)).heap.size = w.heap.size + 1 := by simp
  have B0 := Lib.hid (show Below w.heap.size w W0 by rw [hW0]; exact b1.trans (b2.mono b1.size))
  have L0 := Lib.hid (show LimAt W0 w.heap.size l by rw [hW0]; exact (LimAt.new w l).step b2)
  have X0 := Lib.hid (show W0.heap[w.heap.size + 1]? = some (.cells cs.toArray 46 (0, 0)) by rw [hW0, ← sz]; exact blk_new _ _)
  have J0 := Lib.hid (hj0.low B0.out)
  have R0 := Lib.hid (blk_rng X0.out)
  have x0 := L0.out.c0
  have x1 := L0.out.c1
  have x2 := L0.out.c2
  have x3 := L0.out.c3
  have x4 := L0.out.c4
  have x5 := L0.out.c5
  clear b1 b2 sz hcs
  unfold limObj at hW0
  unfold limV
  go_enter Try.func5, Try.ntmps5
  go_upto_region 1 with (fail)
  rw [← hW0]
  clear hW0
  have cl21 := CL.out
  go_wp2_with (refine wpList_load_mid rfl 46 (.tmp 3) rfl (w.heap.size + 1) 0 rfl cs _ ?_ Try.underlying46 rfl JI.out ?_; exact R0.out)
  rw [fold_zip0 cs _ (by rw [cl21]; rfl)]
  have b1 := alloc_below0 W0 (.cells cs.toArray 46)
  have V1 := Lib.hid (show OwnS lJob 0 (W0.alloc (.cells cs.toArray 46)) (.slice (some ⟨W0.heap.size, 0, none⟩) 1 1) [d] by
    have h := OwnS.lit lJob 0 W0 W0.heap.size rfl [d] (Nat.zero_le _) (by unfold maxLen; simp)
    rw [LJ.out] at h
    exact h)
  have J1 := Lib.hid (J0.out.low b1)
  have B1 := Lib.hid (B0.out.trans (b1.mono B0.out.size))
  have L1 := Lib.hid (L0.out.step b1)
  have X1 := Lib.hid (blk_step X0.out b1)
  have ff := Lib.hid (few_any l (.slice (some ⟨W0.heap.size, 0, none⟩) 1 1) [d] (fun _ => bs) none 0 0 (W0.alloc (.cells cs.toArray 46)) V1.out.sv (fun k j h => by
    cases k with
    | zero =>
      obtain rfl : d = j := by simpa using h
      exact J1.out.sv
    | succ k => simp at h))
  clear x0 x1 x2 x3 x4 x5 b1 cl21 R0 V1
  unfold limV at ff
  refine ff.out.mono ?_
  rintro ev w1 ⟨bb, rfl, hs, hp⟩
  have B2 := Lib.hid (B1.out.trans (hs.mono B1.out.size))
  have P1 := Lib.hid hp
  have L2 := Lib.hid (L1.out.step hs)
  have X2 := Lib.hid (blk_step X1.out hs)
  have J2 := Lib.hid (J1.out.low hs)
  clear hs hp ff J0 B0 L0 X0 J1 B1 L1 X1
  cases bb with
  | false =>
    go_wp2_with fail
    refine (awakeN _).mono ?_
    rintro ev w2 ⟨rfl, hs⟩
    have BE := Lib.hid (B2.out.trans (hs.mono B2.out.size))
    clear hs
    go_wp2
    go_ret
    exact ⟨rfl, BE.out⟩
  | true =>
    obtain ⟨f1, f2, f3, f4, f5, f6⟩ := P1.out rfl
    obtain ⟨n, hn, rfl⟩ := lim_z f3
    have NO := Lib.hid hn
    have FW := Lib.hid (show d.few bs from f6 0 d rfl)
    clear f1 f2 f3 f4 f5 f6 P1
    have x0 := L2.out.c0
    have x1 := L2.out.c1
    have x2 := L2.out.c2
    have x3 := L2.out.c3
    have x4 := L2.out.c4
    have x5 := L2.out.c5
    unfold LimN.z at x0 x1 x2 x3 x4 x5
    simp only at x0 x1 x2 x3 x4 x5
    have fn := fun w => mem_new n NO.out w
    unfold limV LimN.z at fn
    go_wp2_with fail
    refine (fn _).mono ?_
    rintro ev w2 ⟨m, S, rfl, hM, hF, hs⟩
    have M2 := Lib.hid hM
    have F2 := Lib.hid hF
    have WB2 := Lib.hid hs
    have N1 := Lib.hid (show w.heap.size + 1 < w1.heap.size from (Array.getElem?_eq_some_iff.1 X2.out).1)
    have X3 := Lib.hid (blk_step X2.out hs)
    have y0 : w2.cell? ⟨w.heap.size + 1, 0, none⟩ = some (.int .i64 d.page) := by rw [blk_cell X3.out, HC.out]; rfl
    have y1 := blk_free X3.out 0
    clear hM hF hs fn x0 x1 x2 x3 x4 x5
    go_upto_region 7 with (fail)
    have M3 := Lib.hid (M2.out.keep ((Kept.refl (fun k => k = w.heap.size + 1) w2).setCell 0 (.int .i64 0)) (fun k hk e => by have h1 := F2.out k hk; have h2 := N1.out; omega))
    have B3 := Lib.hid (below_both (n := w1.heap.size) WB2.out ⟨w.heap.size + 1, 0, none⟩ (.int .i64 0))
    have X4 := Lib.hid (show (w2.setCell ⟨w.heap.size + 1, 0, none⟩ (.int .i64 0)).heap[w.heap.size + 1]? = some (.cells ({ d with page := 0 } : JbD).cells.toArray 46 (0, 0)) from job_set0 (by rw [X3.out, HC.out]))
    have XB := Lib.hid (show ((w1.setCell ⟨w.heap.size + 1, 0, none⟩ (.int .i64 0)).setCells (w.heap.size + 1) 1 [.int .i64 1, .int .i64 1]).heap[w.heap.size + 1]? = some (.cells d.fst.cells.toArray 46 (0, 0)) from job_set1 (job_set0 (by rw [X2.out, HC.out])))
    have SB := Lib.hid (show ((w1.setCell ⟨w.heap.size + 1, 0, none⟩ (.int .i64 0)).setCells (w.heap.size + 1) 1 [.int .i64 1, .int .i64 1]).heap.size = w1.heap.size by simp [World.setCells, World.setCell])
    have JB := Lib.hid (show JobR ((w1.setCell ⟨w.heap.size + 1, 0, none⟩ (.int .i64 0)).setCells (w.heap.size + 1) 1 [.int .i64 1, .int .i64 1]) d.fst bs ds hd from
      ((hj0.low (below_setCells (by omega) [.int .i64 1, .int .i64 1] 1 _ (below_set B2.out (by omega) 0 _))).right FW.out).at0 0 1 1)
    have BB := Lib.hid (show Below w.heap.size w ((w1.setCell ⟨w.heap.size + 1, 0, none⟩ (.int .i64 0)).setCells (w.heap.size + 1) 1 [.int .i64 1, .int .i64 1]) from below_setCells (by omega) [.int .i64 1, .int .i64 1] 1 _ (below_set B2.out (by omega) 0 _))
    have BH := Lib.hid (show ∀ W, Below w1.heap.size (w1.setCell ⟨w.heap.size + 1, 0, none⟩ (.int .i64 0)) W → Below w1.heap.size ((w1.setCell ⟨w.heap.size + 1, 0, none⟩ (.int .i64 0)).setCells (w.heap.size + 1) 1 [.int .i64 1, .int .i64 1]) (W.setCells (w.heap.size + 1) 1 [.int .i64 1, .int .i64 1]) from fun W h => below_both (below_both h _ _) _ _)
    have SW := Lib.hid (size_setCell w1 ⟨w.heap.size + 1, 0, none⟩ (.int .i64 0))
    generalize hWB : (w1.setCell ⟨w.heap.size + 1, 0, none⟩ (.int .i64 0)).setCells (w.heap.size + 1) 1 [.int .i64 1, .int .i64 1] = WB at *
    generalize hw1 : w1.setCell ⟨w.heap.size + 1, 0, none⟩ (.int .i64 0) = w1' at *
    clear hWB hw1
    generalize hw3 : w2.setCell ⟨w.heap.size + 1, 0, none⟩ (.int .i64 0) = w3 at *
    clear hw3 y0 y1
    have hd0 : headT (pgs1 n.p) 0 = (1, 1) := by
      have h2 : (pgs1 n.p)[0]? = some (some (1, 1)) := by
        obtain ⟨q, hq⟩ : ∃ q, n.p = q + 1 := ⟨n.p - 1, by have := NO.out.p1; omega⟩
        unfold pgs1
        rw [hq]
        rfl
      exact headT_at (i := 0) h2
    have fh := nHead_any w3 m S n 0 psB (pgs1 n.p) (Ck.new n.t n.c) 0 M3.out
    rw [hd0] at fh
    go_wp2_with fail
    refine fh.mono ?_
    rintro ev w4 ⟨ve, rfl, he, hM, hk⟩
    clear fh hd0
    unfold refV
    have M4 := Lib.hid hM
    have B4 := Lib.hid (show Below w1.heap.size w1' w4 from B3.out.trans (hk.below (n := w1.heap.size) F2.out (by have h1 := SW.out; have h2 := B3.out.size; omega)))
    have X5 := Lib.hid ((hk.block _ (Array.getElem?_eq_some_iff.1 X4.out).1 (fun h => by have h1 := F2.out _ h; have h2 := N1.out; omega)).trans X4.out)
    clear he hM hk
    go_upto_region 8 with (refine wpList_store_to rfl 34 (.tmp 40) (.tmp 38) rfl (w.heap.size + 1) 1 [.int .i64 1, .int .i64 1] rfl rfl ?_ refInfoS (by kernel_rfl) ?_
                           · exact blk_thereN X5.out 1 2 (by show 1 + 2 ≤ 21; decide)
                           intro W5 hW5
                           have B6 := Lib.hid (show Below WB.heap.size WB W5 by rw [hW5, SB.out]; exact BH.out _ B4.out)
                           have M6 := Lib.hid (show MemAt W5 m S n (inc 0) psB (pgs1 n.p) (Ck.new n.t n.c) by rw [hW5]; exact M4.out.keep (Kept.setCells _ _ _ (Kept.refl (fun k => k = w.heap.size + 1) _)) (fun k hk e => by have h1 := F2.out k hk; have h2 := N1.out; omega))
                           clear hW5)
    go_upto_region 9 with (fail)
    have b7 := alloc_below0 W5 (.cells #[.int .i64 0] 3)
    have O7 := Lib.hid (show One WB (W5.alloc (.cells #[.int .i64 0] 3)) (fun x => MS m S x ∨ x = W5.heap.size) W5.heap.size m S n psB (pgs1 n.p) (Ck.new n.t n.c) from
      ⟨⟨_, M6.out.low b7⟩, B6.out.trans (b7.mono B6.out.size), ⟨0, blk_new W5 _⟩, fun k hk => hk.elim (fun q => ⟨by rw [SB.out]; exact F2.out k q, Nat.lt_of_lt_of_le (M6.out.lt k q) b7.size⟩) (fun e => by have h1 := B6.out.size; rw [e]; exact ⟨h1, by simp⟩), fun k hk => .inl hk, .inr rfl, fun q => absurd (M6.out.lt _ q) (Nat.lt_irrefl _)⟩)
    have I0 := Lib.hid (inv_start n.p (by have := NO.out.p1; omega))
    have VB := Lib.hid (show Valid n.s psB from (Valid.nil n.s).put (i := 1) (g := 1) (d := baseD) ⟨Nat.le_refl 1, by have h1 := NO.out.s1; omega⟩ rfl)
    obtain ⟨es, hes⟩ : ∃ cs, cs = d.fst.cells := ⟨_, rfl⟩
    have EC := Lib.hid (show es[1]? = some (.int .i64 1) ∧ es[2]? = some (.int .i64 1) by rw [hes]; exact ⟨rfl, rfl⟩)
    have EL := Lib.hid (show es.length = 21 from hes ▸ rfl)
    have EI := Lib.hid (show (Try.prog.info? 46).map (·.size) = some es.length from EL.out ▸ jobInfo21)
    have XE := Lib.hid (show ∀ W, Below WB.heap.size WB W → W.heap[w.heap.size + 1]? = some (.cells es.toArray 46 (0, 0)) from fun W h => by rw [hes]; exact (h.block _ (by have h1 := SB.out; have h2 := N1.out; omega)).trans XB.out)
    have FJ := Lib.hid (show ∀ cl w, Calls Try.prog 11 #[.agg es.toArray, .pointer (some ⟨cl, 0, none⟩)] w fun ev w' => ev = .returned (jobV 0 1 1 d.fst.news (.func (.func 35) #[] #[.pointer (some ⟨w.heap.size + 1, 0, none⟩), .pointer (some ⟨w.heap.size, 0, none⟩)])) ∧ w'.heap[w.heap.size]? = some (.cells d.fst.cells.toArray 46 (0, 0)) ∧ w'.heap[w.heap.size + 1]? = some (.cells #[.pointer (some ⟨cl, 0, none⟩)] 53 (0, 0)) ∧ Below w.heap.size w w' from fun cl w => by rw [hes]; exact job_any d.fst cl w)
    obtain ⟨W7, hW7⟩ : ∃ W, W = W5.alloc (.cells #[.int .i64 0] 3) := ⟨_, rfl⟩
    rw [← hW7] at O7 ⊢
    obtain ⟨cl, hcl⟩ : ∃ x, x = W5.heap.size := ⟨_, rfl⟩
    rw [← hcl] at O7 ⊢
    obtain ⟨T7, hT7⟩ : ∃ T, T = (fun x => MS m S x ∨ x = cl) := ⟨_, rfl⟩
    rw [← hT7] at O7
    clear b7 hW7 hcl hT7 hes M6 B6 M4 B4 X5 X4 BH SW M3 B3 XB FW hj0 B2 X2 L2 J2 WB2 X3 M2
    have R8 := Lib.hid (blk_rng (XE.out W7 O7.out.base.below))
    go_wp2_with (refine wpList_load_mid rfl 46 (.tmp 3) rfl (w.heap.size + 1) 0 rfl es _ ?_ Try.underlying46 rfl EI.out ?_; exact R8.out)
    refine (FJ.out _ _).mono ?_
    rintro ev w8 ⟨rfl, hj1, hj2, hs⟩
    have O8 := Lib.hid (O7.out.low hs)
    have C8 := Lib.hid (show w8.heap[W7.heap.size]? = some (.cells d.fst.cells.toArray 46 (0, 0)) ∧ w8.heap[W7.heap.size + 1]? = some (.cells #[.pointer (some ⟨cl, 0, none⟩)] 53 (0, 0)) from ⟨hj1, hj2⟩)
    have Z8 := Lib.hid (show W7.heap.size + 1 < w8.heap.size ∧ ¬ T7 W7.heap.size ∧ ¬ T7 (W7.heap.size + 1) from ⟨(Array.getElem?_eq_some_iff.1 hj2).1, O7.out.not (Nat.le_refl _), O7.out.not (Nat.le_succ _)⟩)
    have K8 := Lib.hid (show Below W7.heap.size W7 w8 from hs)
    clear hj1 hj2 hs R8
    have fb := Lib.hid (begin_one d.fst ds hd W7.heap.size (W7.heap.size + 1) cl w8 C8.out.1 C8.out.2)
    go_wp2_with fail
    refine fb.out.mono ?_
    rintro ev w9 ⟨b9, i9, rfl, h1, h2, hs, hF, hd, hp, hA⟩
    have G9 := Lib.hid (show InvF i9 ∧ i9.dn = false ∧ (i9.pt = 0 ∧ i9.tk = 0 ∧ i9.sw = 0 ∧ (i9.st = 0 ∨ ((i9.news : Int) = d.fst.news ∧ (i9.st = 1 ∨ i9.st = 2)))) from ⟨hF, hd, hp⟩)
    have RD9 := Lib.hid (O8.out.ready JB.out hs h1 h2 ⟨by have h5 := Z8.out.1; omega, Z8.out.2.1⟩ ⟨by have h5 := Z8.out.1; omega, Z8.out.2.2⟩ hA)
    have K9 := Lib.hid (show Below W7.heap.size W7 w9 ∧ w8.heap.size ≤ b9 from ⟨K8.out.trans (hs.mono K8.out.size), h1⟩)
    clear h1 h2 hs hF hd hp hA fb
    obtain ⟨T9, hT9⟩ : ∃ T, T = (fun x => T7 x ∨ x = b9) := ⟨_, rfl⟩
    have TT9 := Lib.hid (show ∀ x, T9 x ↔ T7 x ∨ x = b9 from fun x => by rw [hT9])
    rw [← hT9] at RD9
    clear hT9
    obtain ⟨k9, hM⟩ := RD9.out.1.mem
    have fr := Lib.hid (runs_any WB w9 T9 b9 i9 d.fst bs ds hd _ _ cl m S n k9 psB (pgs1 n.p) (Ck.new n.t n.c) RD9.out.2.1 RD9.out.2.2 hM)
    clear hM
    go_wp2_with fail
    refine fr.out.mono ?_
    rintro ev w10 ⟨nn10, i10, rfl, h0, hR⟩
    obtain ⟨S10, ps10, L10, hO, hr, hI, hk, hS⟩ := One.after hR RD9.out.2.2.tm RD9.out.2.2.tb RD9.out.2.2.tc
    have RN10 := Lib.hid hr
    have I10 := Lib.hid hI
    have H10 := Lib.hid h0
    have K10 := Lib.hid hk
    have Q10 := Lib.hid hS
    have O10 := Lib.hid hO
    obtain ⟨T10, hT10⟩ : ∃ T, T = (fun x => T9 x ∨ MS m S10 x) := ⟨_, rfl⟩
    have TT10 := Lib.hid (show ∀ x, T10 x ↔ T9 x ∨ MS m S10 x from fun x => by rw [hT10])
    rw [← hT10] at O10
    clear hr hI h0 hk hS hO hR fr hT10
    obtain ⟨k10, hM⟩ := O10.out.mem
    have fh := Lib.hid (nHead_any w10 m S10 n k10 ps10 L10 (Ck.new n.t n.c) 0 hM)
    clear hM
    have E10 := Lib.hid (run_fst RN10.out G9.out.1 I0.out)
    obtain ⟨hx, hy, hxy⟩ : ∃ a b, headT L10 0 = (a, b) := ⟨_, _, rfl⟩
    have HX := Lib.hid hxy
    rw [hxy] at fh
    clear hxy
    go_wp2_with fail
    refine fh.out.mono ?_
    rintro ev w11 ⟨ve2, rfl, he, hM, hk⟩
    have O11 := Lib.hid (O10.out.access hM hk)
    clear he hM hk fh
    unfold refV
    go_upto_region 11 with (fail)
    obtain ⟨W12, hW12⟩ : ∃ W, W = w11.alloc (.cells #[.int .i64 hx, .int .i64 hy] 34) := ⟨_, rfl⟩
    rw [← hW12]
    have b12 : Below w11.heap.size w11 W12 := by rw [hW12]; exact alloc_below0 w11 _
    have O12 := Lib.hid (O11.out.low b12)
    have X12 := Lib.hid (show W12.heap[w11.heap.size]? = some (.cells #[.int .i64 hx, .int .i64 hy] 34 (0, 0)) ∧ ¬ T10 w11.heap.size by rw [hW12]; exact ⟨blk_new _ _, O11.out.not (Nat.le_refl _)⟩)
    clear hW12 b12
    obtain ⟨k12, hM⟩ := O12.out.mem
    have fl := Lib.hid (mLive_any W12 m S10 n k12 ps10 L10 (Ck.new n.t n.c) hM)
    clear hM
    go_wp2_with fail
    refine fl.out.mono ?_
    rintro ev w13 ⟨lv, rfl, ho, hs⟩
    have O13 := Lib.hid (O12.out.low hs)
    have X13 := Lib.hid (blk_step X12.out.1 hs)
    have V13 := Lib.hid (show OwnS lRef W12.heap.size w13 lv (liveM n.s ps10) from ho)
    have D13 := Lib.hid (show ∀ k, lv.ownBlock = some k → ¬ T10 k from fun k hk => O12.out.not (ho.bounds k hk).1)
    clear ho hs fl
    obtain ⟨k13, hM⟩ := O13.out.mem
    have fp := Lib.hid (mPages_any w13 m S10 n k13 ps10 L10 (Ck.new n.t n.c) hM)
    clear hM
    go_wp2_with fail
    refine fp.out.mono ?_
    rintro ev w14 ⟨pv, rfl, ho, hs⟩
    have O14 := Lib.hid (O13.out.low hs)
    have X14 := Lib.hid (blk_step X13.out hs)
    have V14 := Lib.hid (V13.out.below hs)
    obtain ⟨pa, pc, rfl, -, -⟩ := ho.lenN rfl
    obtain ⟨pn, hpn⟩ : ∃ x, x = (usedT L10).length := ⟨_, rfl⟩
    have PN := Lib.hid hpn
    rw [← hpn]
    clear ho hs fp hpn
    go_upto_region 12 with (fail)
    have R15 := Lib.hid (blk_rng (XE.out w14 O14.out.base.below))
    go_wp2_with (refine wpList_load_mid rfl 46 (.tmp 3) rfl (w.heap.size + 1) 0 rfl es _ ?_ Try.underlying46 rfl EI.out ?_; exact R15.out)
    refine (FJ.out _ _).mono ?_
    rintro ev w15 ⟨rfl, hj1, hj2, hs⟩
    have O15 := Lib.hid (O14.out.low hs)
    have C15 := Lib.hid (show w15.heap[w14.heap.size]? = some (.cells d.fst.cells.toArray 46 (0, 0)) ∧ w15.heap[w14.heap.size + 1]? = some (.cells #[.pointer (some ⟨cl, 0, none⟩)] 53 (0, 0)) from ⟨hj1, hj2⟩)
    have Z15 := Lib.hid (show w14.heap.size + 1 < w15.heap.size ∧ ¬ T10 w14.heap.size ∧ ¬ T10 (w14.heap.size + 1) from ⟨(Array.getElem?_eq_some_iff.1 hj2).1, O14.out.not (Nat.le_refl _), O14.out.not (Nat.le_succ _)⟩)
    have K15 := Lib.hid (show Below w14.heap.size w14 w15 from hs)
    clear hj1 hj2 hs R15
    have fb := Lib.hid (begin_one d.fst ds hd w14.heap.size (w14.heap.size + 1) cl w15 C15.out.1 C15.out.2)
    go_wp2_with fail
    refine fb.out.mono ?_
    rintro ev w16 ⟨b16, i16, rfl, h1, h2, hs, hF, hd, hp, hA⟩
    have G16 := Lib.hid (show InvF i16 ∧ i16.dn = false ∧ (i16.pt = 0 ∧ i16.tk = 0 ∧ i16.sw = 0 ∧ (i16.st = 0 ∨ ((i16.news : Int) = d.fst.news ∧ (i16.st = 1 ∨ i16.st = 2)))) from ⟨hF, hd, hp⟩)
    have RD16 := Lib.hid (O15.out.ready JB.out hs h1 h2 ⟨by have h5 := Z15.out.1; omega, Z15.out.2.1⟩ ⟨by have h5 := Z15.out.1; omega, Z15.out.2.2⟩ hA)
    have K16 := Lib.hid (show Below w14.heap.size w14 w16 ∧ w15.heap.size ≤ b16 from ⟨K15.out.trans (hs.mono K15.out.size), h1⟩)
    clear h1 h2 hs hF hd hp hA fb
    obtain ⟨T16, hT16⟩ : ∃ T, T = (fun x => T10 x ∨ x = b16) := ⟨_, rfl⟩
    have TT16 := Lib.hid (show ∀ x, T16 x ↔ T10 x ∨ x = b16 from fun x => by rw [hT16])
    rw [← hT16] at RD16
    clear hT16
    go_upto_region 13 with (fail)
    obtain ⟨k16, hM⟩ := RD16.out.1.mem
    have fr := Lib.hid (runs_any WB w16 T16 b16 i16 d.fst bs ds hd _ _ cl m S10 n k16 ps10 L10 (Ck.new n.t n.c) RD16.out.2.1 RD16.out.2.2 hM)
    clear hM
    go_wp2_with fail
    refine fr.out.mono ?_
    rintro ev w17 ⟨nn17, i17, rfl, h0, hR⟩
    obtain ⟨S17, ps17, L17, hO, hr, hI, hk, hS⟩ := One.after hR RD16.out.2.2.tm RD16.out.2.2.tb RD16.out.2.2.tc
    have RN17 := Lib.hid hr
    have I17 := Lib.hid hI
    have H17 := Lib.hid h0
    have K17 := Lib.hid hk
    have Q17 := Lib.hid hS
    have O17 := Lib.hid hO
    obtain ⟨T17, hT17⟩ : ∃ T, T = (fun x => T16 x ∨ MS m S17 x) := ⟨_, rfl⟩
    have TT17 := Lib.hid (show ∀ x, T17 x ↔ T16 x ∨ MS m S17 x from fun x => by rw [hT17])
    rw [← hT17] at O17
    clear hr hI h0 hk hS hO hR fr hT17
    have X17 := Lib.hid (show w17.heap[w11.heap.size]? = some (.cells #[.int .i64 hx, .int .i64 hy] 34 (0, 0)) from
      (K17.out.block _ (Nat.lt_of_lt_of_le (Array.getElem?_eq_some_iff.1 X14.out).1 K16.out.1.size) (fun q => ((TT16.out _).1 q).elim X12.out.2 (fun e => by have h1 := (Array.getElem?_eq_some_iff.1 X14.out).1; have h2 := K16.out.2; have h3 := K15.out.size; omega))).trans (blk_step X14.out K16.out.1))
    have V17 := Lib.hid (show OwnS lRef W12.heap.size w17 lv (liveM n.s ps10) from
      (V14.out.below K16.out.1).kept K17.out (fun a n2 c2 e q => by
        have e2 : lv.ownBlock = some a.block := by rw [e]; rfl
        exact ((TT16.out _).1 q).elim (D13.out _ e2) (fun e3 => by have h1 := (V14.out.bounds _ e2).2; have h2 := K16.out.2; have h3 := K15.out.size; omega)))
    have fd := Lib.hid (done_any w17 b16 i17 I17.out H17.out)
    go_wp2_with fail
    refine fd.out.mono ?_
    rintro ev w18 ⟨rfl, hs⟩
    have O18 := Lib.hid (O17.out.low hs)
    have X18 := Lib.hid (blk_step X17.out hs)
    have V18 := Lib.hid (V17.out.below hs)
    clear hs fd
    have R18 := Lib.hid (XE.out w18 O18.out.base.below)
    have q0 : w18.cell? ⟨w11.heap.size, 0, none⟩ = some (.int .i64 hx) := blk_cell X18.out 0
    have q1 : w18.cell? ⟨w11.heap.size, 1, none⟩ = some (.int .i64 hy) := blk_cell X18.out 1
    have q2 : w18.cell? ⟨w.heap.size + 1, 1, none⟩ = some (.int .i64 1) := by rw [blk_cell R18.out, List.getElem?_toArray]; exact EC.out.1
    have q3 : w18.cell? ⟨w.heap.size + 1, 2, none⟩ = some (.int .i64 1) := by rw [blk_cell R18.out, List.getElem?_toArray]; exact EC.out.2
    have BE := Lib.hid (show Below w.heap.size w w18 from BB.out.trans (O18.out.base.below.mono BB.out.size))
    by_cases hh : hx = 1 ∧ hy = 1
    · obtain ⟨rfl, rfl⟩ := hh
      go_wp2_with fail
      refine (awakeN _).mono ?_
      rintro ev w19 ⟨rfl, hs⟩
      have BF := Lib.hid (BE.out.trans (hs.mono BE.out.size))
      clear hs
      go_wp2
      go_ret
      exact ⟨rfl, BF.out⟩
    · have hM1 : InvM ps10 L10 True := by
        obtain ⟨-, hc⟩ := E10.out
        have hq : ∃ D, InvM ps10 L10 D := hc.elim (fun q => ⟨_, q.2⟩) (fun q => ⟨_, q.2.2.2⟩)
        obtain ⟨D, h1, hh2, h3, -⟩ := hq
        refine ⟨h1, hh2, h3, fun _ e => hh ?_⟩
        have h4 : headT L10 0 = hh2 := headT_at (i := 0) h3
        rw [e, HX.out] at h4
        exact ⟨congrArg Prod.fst h4, congrArg Prod.snd h4⟩
      have hdn : i17.dn = false := by
        rcases (run_fst RN17.out G16.out.1 hM1).2 with ⟨e, -⟩ | ⟨-, -, e, -⟩
        · rw [e]; exact G16.out.2.1
        · exact absurd trivial e
      have NN := Lib.hid (run_none RN17.out (run_valid RN10.out VB.out ⟨G9.out.2.2.1, G9.out.2.2.2.1⟩) ⟨G16.out.2.2.1, G16.out.2.2.2.1⟩ H17.out hdn)
      rw [hdn]
      clear hM1 hdn
      have hh2 : hx ≠ 1 ∨ (hx = 1 ∧ hy ≠ 1) := by
        by_cases e : hx = 1
        · exact .inr ⟨e, fun e2 => hh ⟨e, e2⟩⟩
        · exact .inl e
      clear hh
      obtain ⟨k18, hM⟩ := O18.out.mem
      have fl2 := Lib.hid (mLive_any w18 m S17 n k18 ps17 L17 (Ck.new n.t n.c) hM)
      clear hM
      rcases hh2 with e0 | ⟨rfl, e0⟩
      all_goals go_wp2_with fail
      all_goals refine fl2.out.mono ?_
      all_goals rintro ev w19 ⟨lv2, rfl, ho, hs⟩
      all_goals have O19 := Lib.hid (O18.out.low hs)
      all_goals have V19 := Lib.hid (V18.out.below hs)
      all_goals have U19 := Lib.hid (show SV lRef w19 lv2 (liveM n.s ps10) from NN.out.1 ▸ ho.sv)
      all_goals have BE19 := Lib.hid (BE.out.trans (hs.mono BE.out.size))
      all_goals clear ho hs fl2
      all_goals go_wp2_with fail
      all_goals refine (rf_same _ _ _ _ U19.out V19.out.sv).mono ?_
      all_goals rintro ev w20 ⟨rfl, hs⟩
      all_goals have O20 := Lib.hid (O19.out.low hs)
      all_goals have BE20 := Lib.hid (BE19.out.trans (hs.mono BE19.out.size))
      all_goals clear hs
      all_goals obtain ⟨k20, hM⟩ := O20.out.mem
      all_goals have fp2 := Lib.hid (mPages_any w20 m S17 n k20 ps17 L17 (Ck.new n.t n.c) hM)
      all_goals clear hM
      all_goals go_wp2_with fail
      all_goals refine fp2.out.mono ?_
      all_goals rintro ev w21 ⟨pv2, rfl, ho, hs⟩
      all_goals have BE21 := Lib.hid (BE20.out.trans (hs.mono BE20.out.size))
      all_goals have hun : (usedT L17).length = pn := by rw [NN.out.2.1]; exact PN.out.symm
      all_goals obtain ⟨pa2, pc2, rfl, -, -⟩ := ho.lenN hun
      all_goals clear ho hs fp2 hun
      all_goals go_wp2_with fail
      all_goals refine (awakeN _).mono ?_
      all_goals rintro ev w22 ⟨rfl, hs⟩
      all_goals have BF := Lib.hid (BE21.out.trans (hs.mono BE21.out.size))
      all_goals clear hs
      all_goals go_wp2
      all_goals go_ret
      all_goals exact ⟨rfl, BF.out⟩
end Go.Proofs.Ytaiaaljahnackaa
