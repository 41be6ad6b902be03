/- The walk of the law MappingPlays. -/
import Derived.Test.YtfdgfonffocenaaDoorMpSteps
import Derived.Test.YtfdgfonffocenaaDoorMpSame
namespace Go.Proofs.YtfdgfonffocenaaDoor
open Go.RowKit

set_option maxRecDepth 100000 in
set_option maxHeartbeats 4000000 in
theorem lawPlays (pg : Int) (v : Value) (ds : List DoD) (w : World) (hv : SV lDo w v ds) (hg : Ea.Glob w) : Calls Tryd.prog 3 #[.int .i64 pg, v] w fun ev w' => ev = .returned (.bool true) ∧ Below w.heap.size w w' := by
  obtain ⟨a, c, rfl, hlc, hcm⟩ := hv.lenform
  obtain ⟨m, hm⟩ : ∃ m, ds.length = m := ⟨_, rfl⟩
  rw [hm] at hv hlc ⊢
  have V := Lib.hid hv
  have G := Lib.hid hg
  have MM := Lib.hid hm
  have B0 := Lib.hid (Below.refl w.heap.size w)
  clear hv hg hm
  by_cases h1 : 100 < (m : Int)
  · go_enter Tryd.func3, Tryd.ntmps3
    go_wp2_with fail
    refine (awakeM _).mono ?_
    rintro ev w1 ⟨rfl, hs⟩
    have B1 := Lib.hid (B0.out.trans (hs.mono B0.out.size))
    clear hs
    go_wp2
    go_ret
    exact ⟨rfl, B1.out⟩
  · by_cases h2 : 100 < pg ∧ pg ≤ 256
    · have h3 := h2.1
      have h4 := h2.2
      clear h2
      go_enter Tryd.func3, Tryd.ntmps3
      go_wp2_with fail
      refine (awakeM _).mono ?_
      rintro ev w1 ⟨rfl, hs⟩
      have B1 := Lib.hid (B0.out.trans (hs.mono B0.out.size))
      clear hs
      go_wp2
      go_ret
      exact ⟨rfl, B1.out⟩
    · by_cases h5 : pg < 1 ∨ 256 < pg
      · have FN := Lib.hid (show decide (1 ≤ pg ∧ pg ≤ 256) = false from decide_eq_false (by omega))
        have NO := Lib.hid h5
        have D := Lib.hid (show pg ≤ 100 ∨ (100 < pg ∧ 256 < pg) by omega)
        clear h2 h5
        rcases D.out with h6 | ⟨h6, h7⟩
        all_goals
          go_enter Tryd.func3, Tryd.ntmps3
          go_wp2_with fail
          refine (new_no pg _ NO.out).mono ?_
          rintro ev w1 ⟨rfl, hs⟩
          have B1 := Lib.hid (B0.out.trans (hs.mono B0.out.size))
          clear hs
          go_wp2_with fail
          refine (rf_new pg _).mono ?_
          rintro ev w2 ⟨rfl, hs⟩
          rw [FN.out]
          have b2 := alloc_below0 w2 (.cells #[.int .i64 pg, .slice none 0 0] 28)
          have B2 := Lib.hid ((B1.out.trans (hs.mono B1.out.size)).trans (b2.mono (B1.out.trans (hs.mono B1.out.size)).size))
          unfold refT
          clear hs b2
          go_wp2_with fail
          refine (awakeM _).mono ?_
          rintro ev w3 ⟨rfl, hs⟩
          have B3 := Lib.hid (B2.out.trans (hs.mono B2.out.size))
          clear hs
          go_wp2
          go_ret
          exact ⟨rfl, B3.out⟩
      · obtain ⟨n, rfl⟩ : ∃ n : Nat, pg = n := ⟨pg.toNat, by omega⟩
        have g1 : 1 ≤ n := by omega
        have g2 : n ≤ 100 := by omega
        have FN := Lib.hid (show decide (1 ≤ (n : Int) ∧ (n : Int) ≤ 256) = true from decide_eq_true (by omega))
        clear h2 h5
        go_enter Tryd.func3, Tryd.ntmps3
        go_wp2_with fail
        refine (new_any n _ g1 (by omega)).mono ?_
        rintro ev w1 ⟨ab, pb, rfl, hT, ga, gb, hs⟩
        have T1 := Lib.hid hT
        have S1 := Lib.hid (show w.heap.size ≤ ab ∧ w.heap.size ≤ pb from ⟨ga, gb⟩)
        have B1 := Lib.hid hs
        clear hs hT ga gb
        go_wp2_with fail
        refine (rf_new n _).mono ?_
        rintro ev w2 ⟨rfl, hs⟩
        rw [FN.out]
        unfold refT
        have b2 := alloc_below0 w2 (.cells #[.int .i64 n, .slice none 0 0] 28)
        have k2 := blk_new w2 (.cells #[.int .i64 n, .slice none 0 0] 28)
        have B2 := Lib.hid ((B1.out.trans (hs.mono B1.out.size)).trans (b2.mono (B1.out.trans (hs.mono B1.out.size)).size))
        have T2 := Lib.hid ((T1.out.low hs).low b2)
        have K2 := Lib.hid k2
        have PR := Lib.hid (show pb < w2.heap.size ∧ ab < w2.heap.size from ⟨(T1.out.low hs).ltP, (T1.out.low hs).ltA⟩)
        clear hs b2 k2
        obtain ⟨rb, hrb⟩ : ∃ rb, w2.heap.size = rb := ⟨_, rfl⟩
        obtain ⟨W2, hW2⟩ : ∃ W, W = w2.alloc (.cells #[.int .i64 n, .slice none 0 0] 28) := ⟨_, rfl⟩
        rw [hrb] at K2 PR
        rw [← hW2] at K2 T2 B2
        have SR := Lib.hid (show w.heap.size ≤ rb ∧ ¬ rb = pb ∧ ¬ rb = ab from ⟨by have := S1.out; have := PR.out; omega, by have := PR.out; omega, by have := PR.out; omega⟩)
        have GP := Lib.hid (show ¬ 0 = pb by have := lt_of_cell G.out; have := S1.out; omega)
        go_wp2_with fail
        rw [← hW2]
        clear hW2 hrb
        go_loopg [48] m (fun r i wz => ∃ (k : Nat) (aa : Option Addr) (N cc : Nat) (us : List Up) (L : List Pg), k + r = m ∧ i = .int .i64 k ∧ TabAt wz ab pb n L ∧ OwnS lUp 0 wz (.slice aa N cc) us ∧ us.length = N ∧ RefOk us L ∧ N ≤ k ∧ wz.heap[rb]? = some (.cells #[.int .i64 n, .slice aa N cc] 28 (0, 0)) ∧ Below w.heap.size w wz)
        case atStart => exact ⟨0, none, 0, 0, [], pages0 n, by omega, rfl, T2.out, OwnS.nil _ _ _, rfl, RefOk.nil n, Nat.le_refl _, K2.out, B2.out⟩
        case round =>
          obtain ⟨k, aa, N, cc, us, L, hk, rfl, hT, hO, hN, hR, hNk, hK, hB⟩ := hrel
          have B3 := Lib.hid hB
          have HK := Lib.hid (show k + gk = m ∧ m ≤ 100 from ⟨hk, by omega⟩)
          by_cases hlt : k < m
          · obtain ⟨d, hd⟩ : ∃ d, ds[k]? = some d := ⟨_, List.getElem?_eq_getElem (by rw [MM.out]; exact hlt)⟩
            obtain ⟨b, off, ha⟩ := V.out.addr (by rw [MM.out]; omega)
            subst ha
            obtain ⟨e0, e1, e2, e3, e4, e5, e6⟩ := step_read (V.out.below hB) hd
            have bd := alloc_below0 wr (doObj d.verb d.x d.right d.os d.og d.ns d.ng)
            have kd := DoAt.new d.verb d.x d.right d.os d.og d.ns d.ng wr
            obtain ⟨w3, hw3⟩ : ∃ W, W = wr.alloc (doObj d.verb d.x d.right d.os d.og d.ns d.ng) := ⟨_, rfl⟩
            rw [← hw3] at bd kd
            unfold doObj at hw3
            have T3 := Lib.hid (hT.low bd)
            have O3 := Lib.hid (hO.below bd)
            have K3 := Lib.hid (blk_step hK bd)
            have R3 := Lib.hid (show RefOk us L ∧ us.length ≤ 900 ∧ N ≤ k from ⟨hR, by omega, hNk⟩)
            have G3 := Lib.hid (Ea.Glob.below (hB.trans (bd.mono hB.size)) G.out)
            have B4 := Lib.hid (hB.trans (bd.mono hB.size))
            have i1 : IntKind.i64.wrap ((k : Int) + 1) = (k : Int) + 1 := Go.IntWalk.i64_in _ (by omega)
            have j3 : (0 : Int) ≤ (k : Int) := by omega
            have j4 : (k : Int) < (m : Int) := by omega
            have t0 := blk_cell K3.out 0
            have t1 := blk_cell K3.out 1
            obtain ⟨f0, f1, f2, f3, f4, f5, f6⟩ := kd
            rw [hw3] at t0 t1 f0 f1 f2 f3 f4 f5 f6
            have fd := does_any ab pb n L (.slice aa N cc) us d.verb d.x d.right d.os d.og d.ns d.ng w3 T3.out O3.out R3.out.1 R3.out.2.1 G3.out GP.out
            unfold refT doVal at fd
            clear hT hO hR hNk hK hB hd bd hk
            go_wp2_with fail
            rw [← hw3]
            refine fd.mono ?_
            rintro ev w4 ⟨v4, us4, rfl, hT, hv4, hr4, hl4, hkk⟩
            unfold refT
            obtain ⟨N4, hN4⟩ : ∃ N4, us4.length = N4 := ⟨_, rfl⟩
            obtain ⟨a4, c4, rfl, -, -⟩ := hv4.lenN hN4
            have R4 := Lib.hid (show RefOk us4 (d.step L) ∧ us4.length = N4 ∧ N4 ≤ k + 1 from ⟨hr4, hN4, by have := R3.out.2.2; omega⟩)
            have K4 := Lib.hid (blk_keep K3.out hkk SR.out.2.1)
            have B5 := Lib.hid (B4.out.trans (hkk.below (n := w.heap.size) (fun k e => e ▸ S1.out.2) B4.out.size))
            have bq := alloc_below0 w4 (.cells #[.int .i64 n, .slice a4 N4 c4] 28)
            have kq := blk_new w4 (.cells #[.int .i64 n, .slice a4 N4 c4] 28)
            obtain ⟨w5, hw5⟩ : ∃ W, W = w4.alloc (.cells #[.int .i64 n, .slice a4 N4 c4] 28) := ⟨_, rfl⟩
            rw [← hw5] at bq kq
            have K5 := Lib.hid (blk_step K4.out bq)
            obtain ⟨z0, z1, z2, z3, z4⟩ := two_facts K5.out (.int .i64 n) (.slice a4 N4 c4)
            have kk := ((Kept.refl (fun k => k = rb) w5).setCell 0 (.int .i64 n)).setCell 1 (.slice a4 N4 c4)
            obtain ⟨w6, hw6⟩ : ∃ W, W = (w5.setCell ⟨rb, 0, none⟩ (.int .i64 n)).setCell ⟨rb, 1, none⟩ (.slice a4 N4 c4) := ⟨_, rfl⟩
            rw [← hw6] at kk z4
            have T6 := Lib.hid ((TabAt.low (show TabAt w4 ab pb n (d.step L) from hT) bq).keep kk (by have := SR.out; omega) (by have := SR.out; omega))
            have O6 := Lib.hid ((hv4.below bq).kept kk (fun a' m' c' hv hs => (hv4.below bq).neBlk K5.out (by decide) a'.block (by rw [hv]; rfl) hs))
            have K6 := Lib.hid z4
            have BB := B5.out.trans (bq.mono B5.out.size)
            have B6 := Lib.hid (BB.trans (kk.below (n := w.heap.size) (fun k e => e ▸ SR.out.1) BB.size))
            have G6 := Lib.hid (Ea.Glob.below B6.out G.out)
            have g0 := blk_cell kq 0
            have g1 := blk_cell kq 1
            have h0 := blk_cell K6.out 0
            have h1' := blk_cell K6.out 1
            rw [hw6] at h0 h1'
            rw [hw5] at g0 g1 z0 z1 z2 z3 hw6 h0 h1'
            have fs := same_any ab pb n (d.step L) (.slice a4 N4 c4) us4 w6 T6.out O6.out R4.out.1 G6.out
            unfold refT at fs
            have hnot : ∀ (x : Bool) (w : World), (Op.unary .not (.bool x)).run Tryd.prog w = .ok (.bool (!x)) w := fun _ _ => rfl
            clear hT hv4 hr4 hl4 hkk bq kq kk fd t0 t1 f0 f1 f2 f3 f4 f5 f6 e0 e1 e2 e3 e4 e5 e6 hN4
            go_wp2_with fail
            rw [← hw6]
            refine fs.mono ?_
            rintro ev w7 ⟨rfl, hs⟩
            have T7 := Lib.hid (T6.out.low hs)
            have O7 := Lib.hid (O6.out.below hs)
            have K7 := Lib.hid (blk_step K6.out hs)
            have B7 := Lib.hid (B6.out.trans (hs.mono B6.out.size))
            clear hs fs
            go_wp2
            go_roundg (m - (k + 1))
            case measure => have := HK.out; omega
            case rel => exact ⟨k + 1, a4, N4, c4, us4, d.step L, by omega, by go_num, T7.out, O7.out, R4.out.2.1, R4.out.1, R4.out.2.2, K7.out, B7.out⟩
          · obtain rfl : k = m := by omega
            clear hT hO hR hK hB
            go_wp2_with fail
            refine (awakeM _).mono ?_
            rintro ev w8 ⟨rfl, hs⟩
            have B8 := Lib.hid (B3.out.trans (hs.mono B3.out.size))
            clear hs
            go_wp2
            go_ret
            exact ⟨rfl, B8.out⟩
end Go.Proofs.YtfdgfonffocenaaDoor
