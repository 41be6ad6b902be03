/- The walk of the law EpochRises. -/
import Derived.Test.YtocigedgicgonaaDoorEpPair
namespace Go.Proofs.YtocigedgicgonaaDoor
open Go.RowKit

theorem Ck.step_n {c : Ck} (v t a : Int) : c.n ≤ (c.step v t a).n := by
  unfold Ck.step Ck.bump Ck.enter Ck.leave
  split
  · split
    · exact Int.le_refl _
    · show c.n ≤ c.n + 1; omega
  · split
    · split <;> exact Int.le_refl _
    · split
      · split <;> exact Int.le_refl _
      · exact Int.le_refl _
theorem Ck.step_l (c : Ck) (v t a : Int) : (c.step v t a).l = c.l := by
  unfold Ck.step Ck.bump Ck.enter Ck.leave
  split
  · split <;> rfl
  · split
    · split <;> rfl
    · split
      · split <;> rfl
      · rfl
theorem Ck.old_le (c : Ck) : c.oldest ≤ c.n := oldL_le _ _
theorem Ck.old_ge {c : Ck} (h : c.ok) : 1 ≤ c.oldest := by
  unfold Ck.oldest
  have := h.n1
  rcases oldL_mem c.L c.n with e | ⟨-, e⟩ <;> omega
set_option maxRecDepth 100000 in
set_option maxHeartbeats 4000000 in
theorem lawRises (t l : Int) (v : Value) (ds : List DoD) (w : World) (hv : SV lDo w v ds) (hg : Ea.Glob w) : Calls Tryd.prog 6 #[.int .i64 t, .int .i64 l, v] w fun ev w' => ev = .returned (.bool true) ∧ Below w.heap.size w w' := by
  obtain ⟨a, c0, rfl, hlc, hcm⟩ := hv.lenform
  obtain ⟨m, hm⟩ : ∃ m, ds.length = m := ⟨_, rfl⟩
  rw [hm] at hv hlc ⊢
  have V := Lib.hid hv
  have G := Lib.hid hg
  have MM := Lib.hid hm
  have B0 := Lib.hid (Below.refl w.heap.size w)
  clear hv hg hm
  by_cases hmay : Ck.may t l
  · obtain ⟨T, rfl⟩ : ∃ T : Nat, t = T := ⟨t.toNat, by unfold Ck.may at hmay; omega⟩
    have MY := Lib.hid hmay
    clear hmay
    by_cases h1 : 200 < (m : Int)
    · go_enter Tryd.func6, Tryd.ntmps6
      go_wp2_with fail
      refine (new_any T l _ MY.out).mono ?_
      rintro ev w1 ⟨cb, mb, rfl, hT, ga, gb, hs⟩
      have T1 := Lib.hid hT
      have S1 := Lib.hid (show w.heap.size ≤ cb ∧ w.heap.size ≤ mb from ⟨ga, gb⟩)
      have B1 := Lib.hid hs
      clear hs hT ga gb
      go_wp2_with fail
      refine (awakeE _).mono ?_
      rintro ev w3 ⟨rfl, hs⟩
      have B3 := Lib.hid (B1.out.trans (hs.mono B1.out.size))
      clear hs
      go_wp2
      go_ret
      exact ⟨rfl, B3.out⟩
    · go_enter Tryd.func6, Tryd.ntmps6
      go_wp2_with fail
      refine (new_any T l _ MY.out).mono ?_
      rintro ev w1 ⟨cb, mb, rfl, hT, ga, gb, hs⟩
      have T1 := Lib.hid hT
      have S1 := Lib.hid (show w.heap.size ≤ cb ∧ w.heap.size ≤ mb from ⟨ga, gb⟩)
      have B1 := Lib.hid hs
      clear hs hT ga gb
      go_wp2_with fail
      refine (rf_new T l _ MY.out).mono ?_
      rintro ev w2 ⟨v2, rfl, ho, hs⟩
      obtain ⟨a2, c2, rfl, -, -⟩ := ho.lenN (n := (Ck.new T l).L.length) rfl
      unfold refC
      have b3 := alloc_below0 w2 (refO (Ck.new T l).n (Ck.new T l).l (.slice a2 (Ck.new T l).L.length c2))
      have k3 := blk_new w2 (refO (Ck.new T l).n (Ck.new T l).l (.slice a2 (Ck.new T l).L.length c2))
      obtain ⟨rb, hrb⟩ : ∃ rb, rb = w2.heap.size := ⟨_, rfl⟩
      obtain ⟨w3, hw3⟩ : ∃ W, W = w2.alloc (refO (Ck.new T l).n (Ck.new T l).l (.slice a2 (Ck.new T l).L.length c2)) := ⟨_, rfl⟩
      rw [← hw3] at b3 k3
      rw [← hrb] at k3
      have B2 := B1.out.trans (hs.mono B1.out.size)
      have P3 := Lib.hid (show Pair w3 cb mb rb (Ck.new T l) (Ck.new T l) from ⟨(T1.out.low hs).low b3, Ck.new_ok MY.out, a2, c2, (ho.mono (Nat.zero_le _)).below b3, k3⟩)
      have B3 := Lib.hid (B2.trans (b3.mono B2.size))
      have SR := Lib.hid (show w.heap.size ≤ rb by rw [hrb]; exact B2.size)
      unfold refO at hw3
      clear hs ho b3 k3 B2
      have NG := Lib.hid (cs_glob G.out S1.out.1 S1.out.2)
      have CL := Lib.hid (cs_low S1.out.1 S1.out.2)
      go_wp2_with fail
      rw [← hw3, ← hrb]
      clear hw3 hrb
      refine (now_any _ cb mb _ P3.out.clk).mono ?_
      rintro ev w4 ⟨rfl, hs⟩
      have P4 := Lib.hid (P3.out.low hs)
      have B4 := Lib.hid (B3.out.trans (hs.mono B3.out.size))
      clear hs
      go_wp2
      go_loopg [10, 34] m (fun q was i wr => ∃ (k : Nat) (c : Ck), k + q = m ∧ i = .int .i64 k ∧ was = .int .i64 c.n ∧ c.l = l ∧ Pair wr cb mb rb c c ∧ Below w.heap.size w wr)
      case atStart => exact ⟨0, _, by omega, rfl, rfl, rfl, P4.out, B4.out⟩
      case round =>
        obtain ⟨k, c, hk, rfl, rfl, hcl, hP, hB⟩ := hrel
        have HK := Lib.hid hk
        have CC := Lib.hid hcl
        have P0 := Lib.hid hP
        have B9 := Lib.hid hB
        by_cases hlt : k < m
        · obtain ⟨d, hd⟩ : ∃ d, ds[k]? = some d := ⟨_, List.getElem?_eq_getElem (by rw [MM.out]; exact hlt)⟩
          obtain ⟨b, off, ha⟩ := V.out.addr (by rw [MM.out]; omega)
          subst ha
          obtain ⟨e0, e1, e2⟩ := step_read (V.out.below hB) hd
          have bd := alloc_below0 wr (doObj d.verb d.t d.a)
          have kd := blk_new wr (doObj d.verb d.t d.a)
          obtain ⟨w5, hw5⟩ : ∃ W, W = wr.alloc (doObj d.verb d.t d.a) := ⟨_, rfl⟩
          rw [← hw5] at bd kd
          unfold doObj at hw5
          have B5 := Lib.hid (hB.trans (bd.mono hB.size))
          have p5 := Pair.low hP bd
          have P5 := Lib.hid p5
          obtain ⟨ra, rm, hO, hK⟩ := p5.ref
          have t0 := blk_cell hK 0
          have t1 := blk_cell hK 1
          have t2 := blk_cell hK 2
          obtain ⟨f0, f1, f2⟩ := DoAt.of kd
          rw [hw5] at t0 t1 t2 f0 f1 f2
          have G5 := Lib.hid (Ea.Glob.below B5.out G.out)
          have fd := does_same cb mb c (.slice ra c.L.length rm) d.verb d.t d.a w5 p5.clk hO G5.out NG.out
          unfold refC doVal at fd
          have K5 := Lib.hid hK
          have i1 : IntKind.i64.wrap ((k : Int) + 1) = (k : Int) + 1 := Go.IntWalk.i64_in _ (by omega)
          have j3 : (0 : Int) ≤ (k : Int) := by omega
          have j4 : (k : Int) < (m : Int) := by omega
          clear hk hcl hP hB hd bd kd hO hK
          go_wp2_with fail
          rw [← hw5]
          clear hw5
          refine fd.mono ?_
          rintro ev w6 ⟨v6, rfl, hT, hv6, hkk⟩
          obtain ⟨c', hc'⟩ : ∃ c', c.step d.verb d.t d.a = c' := ⟨_, rfl⟩
          have SC := Lib.hid hc'
          rw [hc'] at hT hv6 ⊢
          obtain ⟨a6, m6, rfl, -, -⟩ := hv6.lenN (n := c'.L.length) rfl
          unfold refC
          have k6 := blk_keep K5.out hkk (P5.out.clk.other K5.out (by decide))
          obtain ⟨z0, z1, z2, z3, z4, z5, -⟩ := three_facts k6 (.int .i64 c'.n) (.int .i64 c'.l) (.slice a6 c'.L.length m6)
          have p7 := Pair.write hT hv6 rfl hT.ok k6
          have b6 := B5.out.trans (hkk.below (n := w.heap.size) CL.out B5.out.size)
          have b7 := below_set (below_set (below_set b6 SR.out 0 (.int .i64 c'.n)) SR.out 1 (.int .i64 c'.l)) SR.out 2 (.slice a6 c'.L.length m6)
          obtain ⟨w7, hw7⟩ : ∃ W, W = ((w6.setCell ⟨rb, 0, none⟩ (.int .i64 c'.n)).setCell ⟨rb, 1, none⟩ (.int .i64 c'.l)).setCell ⟨rb, 2, none⟩ (.slice a6 c'.L.length m6) := ⟨_, rfl⟩
          rw [← hw7] at p7 b7
          have P7 := Lib.hid p7
          have B7 := Lib.hid b7
          clear hT hv6 hkk k6 p7 b6 b7 fd hc'
          have N0 := Lib.hid (show c.n ≤ c'.n by rw [← SC.out]; exact Ck.step_n _ _ _)
          have L0 := Lib.hid (show c'.l = l by rw [← SC.out, Ck.step_l]; exact CC.out)
          have x0 : ¬ c'.n < c.n := by have := N0.out; omega
          have x1 : ¬ l < c'.n := by have := P7.out.rok.nl; have := L0.out; omega
          have x2 : ¬ c'.n < c'.oldest := by have := c'.old_le; omega
          have x3 : ¬ c'.oldest < 1 := by have := Ck.old_ge P7.out.rok; omega
          go_wp2_with fail
          rw [← hw7]
          clear hw7
          refine (now_any _ cb mb _ P7.out.clk).mono ?_
          rintro ev w8 ⟨rfl, hs⟩
          have P8 := Lib.hid (P7.out.low hs)
          have B8 := Lib.hid (B7.out.trans (hs.mono B7.out.size))
          clear hs
          go_wp2_with fail
          refine (now_any _ cb mb _ P8.out.clk).mono ?_
          rintro ev w9 ⟨rfl, hs⟩
          have P9 := Lib.hid (P8.out.low hs)
          have B9 := Lib.hid (B8.out.trans (hs.mono B8.out.size))
          clear hs
          go_wp2_with fail
          refine (oldest_any _ cb mb _ P9.out.clk).mono ?_
          rintro ev w10 ⟨rfl, hs⟩
          have P10 := Lib.hid (P9.out.low hs)
          have B10 := Lib.hid (B9.out.trans (hs.mono B9.out.size))
          clear hs
          go_wp2_with fail
          refine (now_any _ cb mb _ P10.out.clk).mono ?_
          rintro ev w11 ⟨rfl, hs⟩
          have P11 := Lib.hid (P10.out.low hs)
          have B11 := Lib.hid (B10.out.trans (hs.mono B10.out.size))
          clear hs
          go_wp2_with fail
          refine (oldest_any _ cb mb _ P11.out.clk).mono ?_
          rintro ev w12 ⟨rfl, hs⟩
          have P12 := Lib.hid (P11.out.low hs)
          have B12 := Lib.hid (B11.out.trans (hs.mono B11.out.size))
          clear hs
          go_wp2_with fail
          refine (now_any _ cb mb _ P12.out.clk).mono ?_
          rintro ev w13 ⟨rfl, hs⟩
          have P13 := Lib.hid (P12.out.low hs)
          have B13 := Lib.hid (B12.out.trans (hs.mono B12.out.size))
          clear hs
          go_wp2
          go_roundg (m - (k + 1))
          case measure => have := HK.out; omega
          case rel => exact ⟨k + 1, c', by omega, by go_num, rfl, L0.out, P13.out, B13.out⟩
        · obtain rfl : k = m := by omega
          clear hk hcl hP hB
          go_wp2_with fail
          refine (awakeE _).mono ?_
          rintro ev w14 ⟨rfl, hs⟩
          have B14 := Lib.hid (B9.out.trans (hs.mono B9.out.size))
          clear hs
          go_wp2
          go_ret
          exact ⟨rfl, B14.out⟩
  · have NO := Lib.hid hmay
    clear hmay
    go_enter Tryd.func6, Tryd.ntmps6
    go_wp2_with fail
    refine (new_no t l _ NO.out).mono ?_
    rintro ev w1 ⟨rfl, hs⟩
    have B1 := Lib.hid (B0.out.trans (hs.mono B0.out.size))
    clear hs
    go_wp2_with fail
    refine (awakeE _).mono ?_
    rintro ev w3 ⟨rfl, hs⟩
    have B3 := Lib.hid (B1.out.trans (hs.mono B1.out.size))
    clear hs
    go_wp2
    go_ret
    exact ⟨rfl, B3.out⟩
end Go.Proofs.YtocigedgicgonaaDoor
