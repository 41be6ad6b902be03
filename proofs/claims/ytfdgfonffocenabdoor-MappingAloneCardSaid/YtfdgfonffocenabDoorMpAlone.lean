/- The walk of the law MappingAlone. -/
import Derived.Test.YtfdgfonffocenabDoorMpPair
namespace Go.Proofs.YtfdgfonffocenabDoor
open Go.RowKit

theorem pageAt_set {L : List Pg} {x ot : Int} {p : Pg} (hx : 0 ≤ x) (h : ¬ x = ot) : pageAt (L.set x.toNat p) ot = pageAt L ot := by
  unfold pageAt
  by_cases ho : ot < 0
  · rw [if_pos ho, if_pos ho]
  · rw [if_neg ho, if_neg ho, List.getElem?_set, if_neg (by omega)]
theorem code_pos {L : List Pg} {x : Int} (h : codeT L x = 0) : 0 ≤ x := by
  rcases page_cases L x with ⟨h1, -⟩ | ⟨i, h1, -, -⟩ | ⟨i, r, h1, -, -, -⟩
  · rw [h] at h1; cases h1
  · omega
  · omega
/-- a step at one page leaves the others -/
theorem step_other {L : List Pg} {d : DoD} {ot : Int} (hv : ¬ d.verb = 0) (hx : ¬ d.x = ot) : pageAt (d.step L) ot = pageAt L ot := by
  unfold DoD.step stepL
  rw [if_neg hv]
  split
  · unfold giveL
    split
    · rename_i hc; exact pageAt_set (code_pos hc) hx
    · rfl
  · split
    · rfl
    · split
      · unfold swapL
        split
        · rename_i hb
          unfold swapB at hb
          rw [Bool.and_eq_true, decide_eq_true_eq] at hb
          exact pageAt_set (code_pos hb.1) hx
        · rfl
      · rfl
theorem same_page {L L' : List Pg} {x : Int} (h : pageAt L' x = pageAt L x) (hl : L'.length = L.length) : codeT L' x = codeT L x ∧ headT L' x = headT L x := by
  unfold codeT headT
  rw [h, hl]
  exact ⟨rfl, rfl⟩
set_option maxRecDepth 100000 in
set_option maxHeartbeats 4000000 in
theorem lawAlone (pg : Int) (v : Value) (ds : List DoD) (q : DoD) (ot : Int) (w : World) (hv : SV lDo w v ds) (hg : Ea.Glob w) : Calls Tryd.prog 3 #[.int .i64 pg, v, doVal q.verb q.x q.right q.os q.og q.ns q.ng, .int .i64 ot] w fun ev w' => ev = .returned (.bool true) ∧ Below w.heap.size w w' := by
  obtain ⟨a, c, rfl, hlc, hcm⟩ := hv.lenform
  obtain ⟨m, hm⟩ : ∃ m, ds.length = m := ⟨_, rfl⟩
  rw [hm] at hv hlc ⊢
  obtain ⟨W, hW⟩ : ∃ W, W = w.alloc (doObj q.verb q.x q.right q.os q.og q.ns q.ng) := ⟨_, rfl⟩
  have b0 := alloc_below0 w (doObj q.verb q.x q.right q.os q.og q.ns q.ng)
  have X0 := Lib.hid (show DoAt W w.heap.size q.verb q.x q.right q.os q.og q.ns q.ng by rw [hW]; exact DoAt.new ..)
  rw [← hW] at b0
  have V := Lib.hid (hv.below b0)
  have G := Lib.hid (Ea.Glob.below b0 hg)
  have MM := Lib.hid hm
  have B0 := Lib.hid b0
  have XL := Lib.hid (show w.heap.size < W.heap.size by rw [hW]; simp)
  clear hv hg hm b0
  unfold doObj at hW
  unfold doVal
  by_cases h1 : 100 < (m : Int)
  · go_enter Tryd.func3, Tryd.ntmps3
    go_wp2_with fail
    rw [← hW]
    refine (awakeM _).mono ?_
    rintro ev w1 ⟨rfl, hs⟩
    have B1 := Lib.hid (B0.out.trans (hs.mono B0.out.size))
    clear hs hW
    go_wp2
    go_ret
    exact ⟨rfl, B1.out⟩
  · by_cases h2 : pg < 1
    · go_enter Tryd.func3, Tryd.ntmps3
      go_wp2_with fail
      rw [← hW]
      refine (awakeM _).mono ?_
      rintro ev w1 ⟨rfl, hs⟩
      have B1 := Lib.hid (B0.out.trans (hs.mono B0.out.size))
      clear hs hW
      go_wp2
      go_ret
      exact ⟨rfl, B1.out⟩
    · by_cases h3 : 100 < pg
      · go_enter Tryd.func3, Tryd.ntmps3
        go_wp2_with fail
        rw [← hW]
        refine (awakeM _).mono ?_
        rintro ev w1 ⟨rfl, hs⟩
        have B1 := Lib.hid (B0.out.trans (hs.mono B0.out.size))
        clear hs hW
        go_wp2
        go_ret
        exact ⟨rfl, B1.out⟩
      · have xv := X0.out.c0
        have xx := X0.out.c1
        rw [hW] at xv xx
        by_cases h4 : q.verb = 0
        · have q1 : (q.verb == 0) = true := by simp [h4]
          clear h4
          go_enter Tryd.func3, Tryd.ntmps3
          go_wp2_with fail
          rw [← hW]
          refine (awakeM _).mono ?_
          rintro ev w1 ⟨rfl, hs⟩
          have B1 := Lib.hid (B0.out.trans (hs.mono B0.out.size))
          clear hs hW
          go_wp2
          go_ret
          exact ⟨rfl, B1.out⟩
        · have q1 : (q.verb == 0) = false := by simp [h4]
          by_cases h5 : q.x = ot
          · have q2 : (q.x == ot) = true := by simp [h5]
            clear h5
            go_enter Tryd.func3, Tryd.ntmps3
            go_wp2_with fail
            rw [← hW]
            refine (awakeM _).mono ?_
            rintro ev w1 ⟨rfl, hs⟩
            have B1 := Lib.hid (B0.out.trans (hs.mono B0.out.size))
            clear hs hW
            go_wp2
            go_ret
            exact ⟨rfl, B1.out⟩
          · have q2 : (q.x == ot) = false := by simp [h5]
            have NE := Lib.hid (show ¬ q.verb = 0 ∧ ¬ q.x = ot from ⟨h4, h5⟩)
            clear h4 h5
            obtain ⟨n, rfl⟩ : ∃ n : Nat, pg = n := ⟨pg.toNat, by omega⟩
            have g1 : 1 ≤ n := by omega
            have g2 : n ≤ 100 := by omega
            go_enter Tryd.func3, Tryd.ntmps3
            go_wp2_with fail
            rw [← hW]
            clear hW
            refine (new_any n _ g1 (by omega)).mono ?_
            rintro ev w1 ⟨ab, pb, rfl, hT, ga, gb, hs⟩
            have T1 := Lib.hid hT
            have S1 := Lib.hid (show W.heap.size ≤ ab ∧ W.heap.size ≤ pb from ⟨ga, gb⟩)
            have B1 := Lib.hid hs
            clear hs hT ga gb
            go_wp2_with fail
            refine (rf_new n _).mono ?_
            rintro ev w2 ⟨rfl, hs⟩
            unfold refT
            have b2 := alloc_below0 w2 (.cells #[.int .i64 n, .slice none 0 0] 32)
            have k2 := blk_new w2 (.cells #[.int .i64 n, .slice none 0 0] 32)
            obtain ⟨W2, hW2⟩ : ∃ W, W = w2.alloc (.cells #[.int .i64 n, .slice none 0 0] 32) := ⟨_, rfl⟩
            obtain ⟨rb, hrb⟩ : ∃ rb, w2.heap.size = rb := ⟨_, rfl⟩
            have PR := Lib.hid (show pb < w2.heap.size ∧ ab < w2.heap.size from ⟨(T1.out.low hs).ltP, (T1.out.low hs).ltA⟩)
            rw [hrb] at k2 PR
            rw [← hW2] at b2 k2
            have B2 := Lib.hid ((B1.out.trans (hs.mono B1.out.size)).trans (b2.mono (B1.out.trans (hs.mono B1.out.size)).size))
            have P2 := Lib.hid (show Pair W2 ab pb n rb (pages0 n) [] 0 from ⟨(T1.out.low hs).low b2, ⟨none, 0, OwnS.nil _ _ _, k2⟩, RefOk.nil n, Nat.le_refl _⟩)
            have SR := Lib.hid (show W.heap.size ≤ rb ∧ ¬ rb = pb ∧ ¬ rb = ab ∧ ¬ ab = rb ∧ ¬ pb = rb from ⟨by have := S1.out; have := PR.out; omega, by have := PR.out; omega, by have := PR.out; omega, by have := PR.out; omega, by have := PR.out; omega⟩)
            have GP := Lib.hid (show ¬ 0 = pb by have := lt_of_cell G.out; have := S1.out; omega)
            clear hs b2 k2
            go_wp2_with fail
            rw [← hW2]
            clear hW2 hrb
            go_loopg [52] m (fun r i wz => ∃ (k : Nat) (us : List Up) (L : List Pg), k + r = m ∧ i = .int .i64 k ∧ Pair wz ab pb n rb L us k ∧ Below W.heap.size W wz)
            case atStart => exact ⟨0, [], pages0 n, by omega, rfl, P2.out, B2.out⟩
            case round =>
              obtain ⟨k, us, L, hk, rfl, hP, hB⟩ := hrel
              have HK := Lib.hid (show k + gk = m ∧ m ≤ 100 from ⟨hk, by omega⟩)
              by_cases hlt : k < m
              · obtain ⟨d, hd⟩ : ∃ d, ds[k]? = some d := ⟨_, List.getElem?_eq_getElem (by rw [MM.out]; exact hlt)⟩
                obtain ⟨b, off, ha⟩ := V.out.addr (by rw [MM.out]; omega)
                subst ha
                obtain ⟨e0, e1, e2, e3, e4, e5, e6⟩ := step_read (V.out.below hB) hd
                have bd := alloc_below0 wr (doObj d.verb d.x d.right d.os d.og d.ns d.ng)
                have kd := DoAt.new d.verb d.x d.right d.os d.og d.ns d.ng wr
                obtain ⟨w3, hw3⟩ : ∃ W, W = wr.alloc (doObj d.verb d.x d.right d.os d.og d.ns d.ng) := ⟨_, rfl⟩
                rw [← hw3] at bd kd
                unfold doObj at hw3
                have P3 := Lib.hid (hP.low bd)
                have B4 := Lib.hid (hB.trans (bd.mono hB.size))
                have G3 := Lib.hid (Ea.Glob.below B4.out G.out)
                have i1 : IntKind.i64.wrap ((k : Int) + 1) = (k : Int) + 1 := Go.IntWalk.i64_in _ (by omega)
                have j3 : (0 : Int) ≤ (k : Int) := by omega
                have j4 : (k : Int) < (m : Int) := by omega
                obtain ⟨aa, cc, hO, hK⟩ := P3.out.ref
                have K3 := Lib.hid hK
                have O3 := Lib.hid hO
                have t0 := blk_cell K3.out 0
                have t1 := blk_cell K3.out 1
                obtain ⟨f0, f1, f2, f3, f4, f5, f6⟩ := kd
                rw [hw3] at t0 t1 f0 f1 f2 f3 f4 f5 f6
                have fd := does_any ab pb n L _ us d.verb d.x d.right d.os d.og d.ns d.ng w3 P3.out.tab O3.out P3.out.ok (by have := P3.out.small; omega) G3.out GP.out
                unfold refT doVal at fd
                clear hP hB hd bd hk hO hK
                go_wp2_with fail
                rw [← hw3]
                refine fd.mono ?_
                rintro ev w4 ⟨v4, us4, rfl, hT, hv4, hr4, hl4, hkk⟩
                unfold refT
                obtain ⟨N4, hN4⟩ : ∃ N4, us4.length = N4 := ⟨_, rfl⟩
                obtain ⟨a4, c4, rfl, -, -⟩ := hv4.lenN hN4
                have K4 := Lib.hid (blk_keep K3.out hkk SR.out.2.1)
                have B5 := Lib.hid (B4.out.trans (hkk.below (n := W.heap.size) (fun k e => e ▸ S1.out.2) B4.out.size))
                have Pw := Lib.hid (Pair.write (show TabAt w4 ab pb n (d.step L) from hT) hv4 hN4 hr4 (show N4 ≤ k + 1 by have := P3.out.small; omega) K4.out SR.out.2.2.2.1 SR.out.2.2.2.2)
                have Bw := Lib.hid (below_set (below_set B5.out SR.out.1 0 (.int .i64 n)) SR.out.1 1 (.slice a4 N4 c4))
                obtain ⟨z0, z1, z2, z3, -⟩ := two_facts K4.out (.int .i64 n) (.slice a4 N4 c4)
                clear hT hv4 hr4 hl4 hkk fd t0 t1 f0 f1 f2 f3 f4 f5 f6 e0 e1 e2 e3 e4 e5 e6 hN4
                go_wp2
                go_roundg (m - (k + 1))
                case measure => have := HK.out; omega
                case rel => exact ⟨k + 1, us4, d.step L, by omega, by go_num, Pw.out, Bw.out⟩
              · obtain rfl : k = m := by omega
                have P3 := Lib.hid hP
                have B3 := Lib.hid hB
                clear hP hB
                go_wp2_with fail
                refine (head_any _ ab pb n L ot P3.out.tab).mono ?_
                rintro ev w5 ⟨rfl, hs⟩
                obtain ⟨⟨y1, y2⟩, hy⟩ : ∃ o, headT L ot = o := ⟨_, rfl⟩
                obtain ⟨e, he⟩ : ∃ e, errV (codeT L ot) = e := ⟨_, rfl⟩
                have SP := Lib.hid (same_page (step_other (L := L) NE.out.1 NE.out.2) (DoD.step_len L q))
                have EE := Lib.hid (show errV (codeT L ot) = e ∧ headT L ot = (y1, y2) from ⟨he, hy⟩)
                rw [he, hy]
                unfold refV
                have bx := alloc_below0 w5 (.cells #[.int .i64 y1, .int .i64 y2] 24)
                have kx := RfAt.new w5 y1 y2 24
                obtain ⟨w6, hw6⟩ : ∃ W, W = w5.alloc (.cells #[.int .i64 y1, .int .i64 y2] 24) := ⟨_, rfl⟩
                rw [← hw6] at bx kx
                have P6 := Lib.hid ((P3.out.low hs).low bx)
                have B6 := Lib.hid ((B3.out.trans (hs.mono B3.out.size)).trans (bx.mono (B3.out.trans (hs.mono B3.out.size)).size))
                have Y6 := Lib.hid (show RfAt w6 w5.heap.size y1 y2 ∧ ¬ w5.heap.size = pb from ⟨kx, by have := (P3.out.low hs).tab.ltP; omega⟩)
                have D6 := Lib.hid (X0.out.step B6.out)
                have G6 := Lib.hid (Ea.Glob.below B6.out G.out)
                obtain ⟨aa, cc, hO, hK⟩ := P6.out.ref
                have t0 := blk_cell hK 0
                have t1 := blk_cell hK 1
                obtain ⟨f0, f1, f2, f3, f4, f5, f6⟩ := D6.out
                rw [hw6] at t0 t1 f0 f1 f2 f3 f4 f5 f6
                have fd := does_any ab pb n L _ us q.verb q.x q.right q.os q.og q.ns q.ng w6 P6.out.tab hO P6.out.ok (by have := P6.out.small; have := HK.out; omega) G6.out GP.out
                unfold refT doVal at fd
                clear hs he hy bx kx hO hK
                go_wp2_with fail
                rw [← hw6]
                refine fd.mono ?_
                rintro ev w7 ⟨v7, us7, rfl, hT, -, -, -, hkk⟩
                have T7 := Lib.hid (show TabAt w7 ab pb n (q.step L) from hT)
                have B7 := Lib.hid (B6.out.trans (hkk.below (n := W.heap.size) (fun k e => e ▸ S1.out.2) B6.out.size))
                have Y7 := Lib.hid (Y6.out.1.keep hkk Y6.out.2)
                have G7 := Lib.hid (Ea.Glob.below B7.out G.out)
                unfold refT
                clear hT hkk fd t0 t1 f0 f1 f2 f3 f4 f5 f6 hw6
                go_wp2_with fail
                refine (head_any _ ab pb n _ ot T7.out).mono ?_
                rintro ev w8 ⟨rfl, hs⟩
                rw [SP.out.1, SP.out.2, EE.out.1, EE.out.2]
                unfold refV
                have bx := alloc_below0 w8 (.cells #[.int .i64 y1, .int .i64 y2] 24)
                have kx := RfAt.new w8 y1 y2 24
                obtain ⟨w9, hw9⟩ : ∃ W, W = w8.alloc (.cells #[.int .i64 y1, .int .i64 y2] 24) := ⟨_, rfl⟩
                rw [← hw9] at bx kx
                have B9 := Lib.hid ((B7.out.trans (hs.mono B7.out.size)).trans (bx.mono (B7.out.trans (hs.mono B7.out.size)).size))
                have Y9 := Lib.hid ((Y7.out.step hs).step bx)
                have Z9 := Lib.hid kx
                have G9 := Lib.hid (Ea.Glob.below B9.out G.out)
                have y0 := Y9.out.c0
                have y3 := Y9.out.c1
                have z0 := Z9.out.c0
                have z3 := Z9.out.c1
                rw [hw9] at y0 y3 z0 z3
                clear hs bx kx
                have fcode := fun w h => code_of (codeT L ot) w h
                rw [EE.out.1] at fcode
                have q3 : (codeT L ot == codeT L ot) = true := by simp
                go_wp2_with fail
                rw [← hw9]
                clear hw9
                refine (fcode _ G9.out).mono ?_
                rintro ev w10 ⟨rfl, hs⟩
                have B10 := Lib.hid (B9.out.trans (hs.mono B9.out.size))
                have G10 := Lib.hid (Ea.Glob.below B10.out G.out)
                clear hs y0 y3 z0 z3
                go_wp2_with fail
                refine (fcode _ G10.out).mono ?_
                rintro ev w11 ⟨rfl, hs⟩
                have B11 := Lib.hid (B10.out.trans (hs.mono B10.out.size))
                clear hs
                go_wp2_with fail
                refine (awakeM _).mono ?_
                rintro ev w13 ⟨rfl, hs⟩
                have B13 := Lib.hid ((B0.out.trans (B11.out.mono B0.out.size)).trans (hs.mono (B0.out.trans (B11.out.mono B0.out.size)).size))
                clear hs
                go_wp2
                go_ret
                exact ⟨rfl, B13.out⟩
end Go.Proofs.YtfdgfonffocenabDoor
