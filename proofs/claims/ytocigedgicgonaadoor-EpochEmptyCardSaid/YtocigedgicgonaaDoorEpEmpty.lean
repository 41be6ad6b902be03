/- The walk of the law EpochEmpty. -/
import Derived.Test.YtocigedgicgonaaDoorEpTri
namespace Go.Proofs.YtocigedgicgonaaDoor
open Go.RowKit

theorem leave_in {c : Ck} {j : Nat} (hj : j < c.L.length) (hp : 0 < atL c.L j) : c.leaveE j = 0 ∧ c.leave j = ⟨c.n, c.l, c.L.set j 0⟩ := by
  have ho : ¬ c.out j := by unfold Ck.out; omega
  have he : c.leaveE j = 0 := by unfold Ck.leaveE; rw [if_neg ho, if_pos hp]
  exact ⟨he, by unfold Ck.leave; rw [if_pos he]; rfl⟩
theorem old_none {c : Ck} (h : ∀ j : Nat, j < c.L.length → atL c.L j = 0) : c.oldest = c.n := by
  unfold Ck.oldest
  rcases oldL_mem c.L c.n with e | ⟨e, hp⟩
  · exact e
  · obtain ⟨i, hi, hv⟩ := mem_at e
    rw [h i hi] at hv
    omega
set_option maxRecDepth 100000 in
set_option maxHeartbeats 4000000 in
theorem lawEmpty (t l : Int) (v : Value) (ds : List DoD) (w : World) (hv : SV lDo w v ds) (hg : Ea.Glob w) : Calls Tryd.prog 7 #[.int .i64 t, .int .i64 l, v] w fun ev w' => ev = .returned (.bool true) ∧ Below w.heap.size w w' := by
  obtain ⟨a, c0, rfl, hlc, hcm⟩ := hv.lenform
  obtain ⟨m, hm⟩ : ∃ m, ds.length = m := ⟨_, rfl⟩
  rw [hm] at hv hlc ⊢
  have V := Lib.hid hv
  have G := Lib.hid hg
  have MM := Lib.hid hm
  have B0 := Lib.hid (Below.refl w.heap.size w)
  clear hv hg hm
  by_cases hmay : Ck.may t l
  · obtain ⟨T, rfl⟩ : ∃ T : Nat, t = T := ⟨t.toNat, by unfold Ck.may at hmay; omega⟩
    have MY := Lib.hid hmay
    clear hmay
    by_cases h1 : 200 < (m : Int)
    · go_enter Tryd.func7, Tryd.ntmps7
      go_wp2_with fail
      refine (new_any T l _ MY.out).mono ?_
      rintro ev w1 ⟨cb, mb, rfl, hT, ga, gb, hs⟩
      have T1 := Lib.hid hT
      have S1 := Lib.hid (show w.heap.size ≤ cb ∧ w.heap.size ≤ mb from ⟨ga, gb⟩)
      have B1 := Lib.hid hs
      clear hs hT ga gb
      go_wp2_with fail
      refine (awakeE _).mono ?_
      rintro ev w3 ⟨rfl, hs⟩
      have B3 := Lib.hid (B1.out.trans (hs.mono B1.out.size))
      clear hs
      go_wp2
      go_ret
      exact ⟨rfl, B3.out⟩
    · go_enter Tryd.func7, Tryd.ntmps7
      go_wp2_with fail
      refine (new_any T l _ MY.out).mono ?_
      rintro ev w1 ⟨cb, mb, rfl, hT, ga, gb, hs⟩
      have T1 := Lib.hid hT
      have S1 := Lib.hid (show w.heap.size ≤ cb ∧ w.heap.size ≤ mb from ⟨ga, gb⟩)
      have B1 := Lib.hid hs
      clear hs hT ga gb
      go_wp2_with fail
      refine (rf_new T l _ MY.out).mono ?_
      rintro ev w2 ⟨v2, rfl, ho, hs⟩
      obtain ⟨a2, c2, rfl, -, -⟩ := ho.lenN (n := (Ck.new T l).L.length) rfl
      unfold refC
      have b3 := alloc_below0 w2 (refO (Ck.new T l).n (Ck.new T l).l (.slice a2 (Ck.new T l).L.length c2))
      have k3 := blk_new w2 (refO (Ck.new T l).n (Ck.new T l).l (.slice a2 (Ck.new T l).L.length c2))
      obtain ⟨rb, hrb⟩ : ∃ rb, rb = w2.heap.size := ⟨_, rfl⟩
      obtain ⟨w3, hw3⟩ : ∃ W, W = w2.alloc (refO (Ck.new T l).n (Ck.new T l).l (.slice a2 (Ck.new T l).L.length c2)) := ⟨_, rfl⟩
      rw [← hw3] at b3 k3
      rw [← hrb] at k3
      have B2 := B1.out.trans (hs.mono B1.out.size)
      have P3 := Lib.hid (show Pair w3 cb mb rb (Ck.new T l) (Ck.new T l) from ⟨(T1.out.low hs).low b3, Ck.new_ok MY.out, a2, c2, (ho.mono (Nat.zero_le _)).below b3, k3⟩)
      have B3 := Lib.hid (B2.trans (b3.mono B2.size))
      have SR := Lib.hid (show w.heap.size ≤ rb by rw [hrb]; exact B2.size)
      have SZ := Lib.hid (show w3.heap.size = rb + 1 by rw [hw3, hrb]; simp)
      unfold refO at hw3
      clear hs ho b3 k3 B2
      have NG := Lib.hid (cs_glob G.out S1.out.1 S1.out.2)
      have CL := Lib.hid (cs_low S1.out.1 S1.out.2)
      go_wp2_with fail
      rw [← hw3, ← hrb]
      clear hrb
      have b4 := alloc_below0 w3 (.cells #[.pointer none, .int .i64 0] 42)
      have k4 := blk_new w3 (.cells #[.pointer none, .int .i64 0] 42)
      rw [SZ.out] at k4
      obtain ⟨w4, hw4⟩ : ∃ W, W = w3.alloc (.cells #[.pointer none, .int .i64 0] 42) := ⟨_, rfl⟩
      rw [← hw4] at b4 k4
      have P4 := Lib.hid (P3.out.low b4)
      have I4 := Lib.hid (BinAt.zero k4)
      have B4 := Lib.hid (B3.out.trans (b4.mono B3.out.size))
      have SB := Lib.hid (show w.heap.size ≤ rb + 1 by have := SR.out; omega)
      clear b4 k4 hw3
      rw [← hw4]
      clear hw4
      go_loopg [40] m (fun q i wr => ∃ (k : Nat) (c : Ck) (xs : List It), k + q = m ∧ i = .int .i64 k ∧ c.L.length = T ∧ xs.length = k ∧ (∀ x ∈ xs, x.s ≤ c.n) ∧ Pair wr cb mb rb c c ∧ BinAt wr (rb + 1) xs ∧ Below w.heap.size w wr)
      case atStart => exact ⟨0, _, [], by omega, rfl, by simp [Ck.new], rfl, fun x h => (by cases h), P4.out, I4.out, B4.out⟩
      case round =>
        obtain ⟨k, c, xs, hk, rfl, hcl, hxl, hxs, hP, hI, hB⟩ := hrel
        have HK := Lib.hid hk
        have CC := Lib.hid (show c.L.length = T ∧ xs.length = k ∧ ∀ x ∈ xs, x.s ≤ c.n from ⟨hcl, hxl, hxs⟩)
        have P0 := Lib.hid hP
        have B9 := Lib.hid hB
        by_cases hlt : k < m
        · obtain ⟨d, hd⟩ : ∃ d, ds[k]? = some d := ⟨_, List.getElem?_eq_getElem (by rw [MM.out]; exact hlt)⟩
          obtain ⟨b, off, ha⟩ := V.out.addr (by rw [MM.out]; omega)
          subst ha
          obtain ⟨e0, e1, e2⟩ := step_read (V.out.below hB) hd
          have bd := alloc_below0 wr (doObj d.verb d.t d.a)
          have kd := blk_new wr (doObj d.verb d.t d.a)
          obtain ⟨w5, hw5⟩ : ∃ W, W = wr.alloc (doObj d.verb d.t d.a) := ⟨_, rfl⟩
          rw [← hw5] at bd kd
          unfold doObj at hw5
          have B5 := Lib.hid (hB.trans (bd.mono hB.size))
          have p5 := Pair.low hP bd
          have P5 := Lib.hid p5
          obtain ⟨ra, rm, hO, hK⟩ := p5.ref
          have t0 := blk_cell hK 0
          have t1 := blk_cell hK 1
          have t2 := blk_cell hK 2
          obtain ⟨f0, f1, f2⟩ := DoAt.of kd
          rw [hw5] at t0 t1 t2 f0 f1 f2
          have G5 := Lib.hid (Ea.Glob.below B5.out G.out)
          have fd := does_same cb mb c (.slice ra c.L.length rm) d.verb d.t d.a w5 p5.clk hO G5.out NG.out
          unfold refC doVal at fd
          have K5 := Lib.hid hK
          have I5 := Lib.hid (hI.low bd)
          have i1 : IntKind.i64.wrap ((k : Int) + 1) = (k : Int) + 1 := Go.IntWalk.i64_in _ (by omega)
          have j3 : (0 : Int) ≤ (k : Int) := by omega
          have j4 : (k : Int) < (m : Int) := by omega
          have KM := Lib.hid (show k ≤ 200 by omega)
          clear hk hcl hxl hxs hP hI hB hd bd kd hO hK
          go_wp2_with fail
          rw [← hw5]
          clear hw5
          refine fd.mono ?_
          rintro ev w6 ⟨v6, rfl, hT, hv6, hkk⟩
          obtain ⟨c', hc'⟩ : ∃ c', c.step d.verb d.t d.a = c' := ⟨_, rfl⟩
          have SC := Lib.hid hc'
          rw [hc'] at hT hv6 ⊢
          obtain ⟨a6, m6, rfl, -, -⟩ := hv6.lenN (n := c'.L.length) rfl
          unfold refC
          have k6 := blk_keep K5.out hkk (P5.out.clk.other K5.out (by decide))
          obtain ⟨z0, z1, z2, z3, z4, z5, -⟩ := three_facts k6 (.int .i64 c'.n) (.int .i64 c'.l) (.slice a6 c'.L.length m6)
          have I6 := (I5.out.clk P5.out.clk hkk).wr k6 (.int .i64 c'.n) (.int .i64 c'.l) (.slice a6 c'.L.length m6)
          have p7 := Pair.write hT hv6 rfl hT.ok k6
          have b6 := B5.out.trans (hkk.below (n := w.heap.size) CL.out B5.out.size)
          have b7 := below_set (below_set (below_set b6 SR.out 0 (.int .i64 c'.n)) SR.out 1 (.int .i64 c'.l)) SR.out 2 (.slice a6 c'.L.length m6)
          obtain ⟨w7, hw7⟩ : ∃ W, W = ((w6.setCell ⟨rb, 0, none⟩ (.int .i64 c'.n)).setCell ⟨rb, 1, none⟩ (.int .i64 c'.l)).setCell ⟨rb, 2, none⟩ (.slice a6 c'.L.length m6) := ⟨_, rfl⟩
          rw [← hw7] at p7 b7 I6
          have I7 := Lib.hid I6
          have P7 := Lib.hid p7
          have B7 := Lib.hid b7
          clear I6 hT hv6 hkk k6 p7 b6 b7 fd hc'
          go_wp2_with fail
          rw [← hw7]
          clear hw7
          refine (now_any _ cb mb _ P7.out.clk).mono ?_
          rintro ev w8 ⟨rfl, hs⟩
          have P8 := Lib.hid (P7.out.low hs)
          have I8 := Lib.hid (I7.out.low hs)
          have B8 := Lib.hid (B7.out.trans (hs.mono B7.out.size))
          clear hs
          have fa := add_any _ (rb + 1) xs ⟨c'.n, 0, 0, 0⟩ I8.out (by rw [CC.out.2.1]; have := KM.out; omega)
          unfold It.val at fa
          go_wp2_with fail
          refine fa.mono ?_
          rintro ev w10 ⟨rfl, hI, hkk⟩
          have P10 := Lib.hid (P8.out.bin I8.out hkk)
          have I10 := Lib.hid hI
          have B10 := Lib.hid (B8.out.trans (hkk.below (n := w.heap.size) (fun k e => e ▸ SB.out) B8.out.size))
          clear hI hkk fa
          have NC := Lib.hid (show c'.L.length = T ∧ (xs ++ [(⟨c'.n, 0, 0, 0⟩ : It)]).length = k + 1 ∧ ∀ x ∈ xs ++ [(⟨c'.n, 0, 0, 0⟩ : It)], x.s ≤ c'.n from ⟨by rw [← SC.out, Ck.step_len]; exact CC.out.1, by simp [CC.out.2.1], fun x hx => by
            rcases List.mem_append.1 hx with h | h
            · have := CC.out.2.2 x h
              have : c.n ≤ c'.n := by rw [← SC.out]; exact Ck.step_n _ _ _
              omega
            · rw [List.mem_singleton.1 h]; exact Int.le_refl _⟩)
          go_wp2
          go_roundg (m - (k + 1))
          case measure => have := HK.out; omega
          case rel => exact ⟨k + 1, c', _, by omega, by go_num, NC.out.1, NC.out.2.1, NC.out.2.2, P10.out, I10.out, B10.out⟩
        · obtain rfl : k = m := by omega
          have I9 := Lib.hid hI
          have TM := Lib.hid (show T ≤ 64 ∧ k ≤ 200 by have := MY.out; unfold Ck.may at this; omega)
          clear hk hcl hxl hxs hP hI hB
          go_wp2
          obtain ⟨wo, hwo⟩ : ∃ x, x = wr := ⟨_, rfl⟩
          subst hwo
          go_loopg [57] T (fun q i wr => ∃ (j : Nat) (e : Ck), j + q = T ∧ i = .int .i64 j ∧ e.n = c.n ∧ e.L.length = T ∧ (∀ z : Nat, z < j → atL e.L z = 0) ∧ ClkAt wr cb mb e ∧ BinAt wr (rb + 1) xs ∧ Below w.heap.size w wr)
          case atStart => exact ⟨0, c, by omega, rfl, rfl, CC.out.1, fun z h => absurd h (by omega), P0.out.clk, I9.out, B9.out⟩
          case round =>
            obtain ⟨j, e, hj, rfl, hn, hl, hz, hE, hI, hB⟩ := hrel
            have HJ := Lib.hid (show j + gk = T ∧ e.n = c.n ∧ e.L.length = T ∧ ∀ z : Nat, z < j → atL e.L z = 0 from ⟨hj, hn, hl, hz⟩)
            have E0 := Lib.hid hE
            have I0 := Lib.hid hI
            have Bx := Lib.hid hB
            by_cases hlt2 : j < T
            · have i2 : IntKind.i64.wrap ((j : Int) + 1) = (j : Int) + 1 := Go.IntWalk.i64_in _ (by have := TM.out; omega)
              have j5 : (0 : Int) ≤ (j : Int) := by omega
              have j6 : (j : Int) < (T : Int) := by omega
              clear hj hn hl hz hE hI hB
              go_wp2_with fail
              refine (at_any _ cb mb _ E0.out (j : Int)).mono ?_
              rintro ev wa ⟨rfl, hs⟩
              have EA := Lib.hid (E0.out.low hs)
              have IA := Lib.hid (I0.out.low hs)
              have BA := Lib.hid (Bx.out.trans (hs.mono Bx.out.size))
              clear hs
              cases hin : decide (0 < atL e.L (j : Int)) with
              | true =>
                obtain ⟨hle, hls⟩ := leave_in (c := e) (j := j) (by have := HJ.out.2.2.1; omega) (of_decide_eq_true hin)
                have LE := Lib.hid (show errV (e.leaveE j) = .nilIface by rw [hle]; rfl)
                have NX := Lib.hid (show (e.leave j).n = c.n ∧ (e.leave j).L.length = T ∧ ∀ z : Nat, z < j + 1 → atL (e.leave j).L z = 0 from ⟨by rw [hls]; exact HJ.out.2.1, by rw [Ck.leave_len]; exact HJ.out.2.2.1, fun z hz => by
                  rw [hls]
                  show atL (e.L.set j 0) z = 0
                  rw [atL_set (by have := HJ.out.2.2.1; omega)]
                  split
                  · rfl
                  · exact HJ.out.2.2.2 z (by omega)⟩)
                clear hin hle hls
                go_wp2_with fail
                refine (leave_any _ cb mb _ EA.out (j : Int)).mono ?_
                rintro ev wb ⟨rfl, hT, hk⟩
                rw [LE.out]
                have EB := Lib.hid hT
                have IB := Lib.hid (IA.out.clk EA.out hk)
                have BB := Lib.hid (BA.out.trans (hk.below (n := w.heap.size) CL.out BA.out.size))
                clear hT hk
                go_wp2
                go_roundg (T - (j + 1))
                case measure => have := HJ.out.1; omega
                case rel => exact ⟨j + 1, e.leave j, by omega, by go_num, NX.out.1, NX.out.2.1, NX.out.2.2, EB.out, IB.out, BB.out⟩
              | false =>
                have NX := Lib.hid (show ∀ z : Nat, z < j + 1 → atL e.L z = 0 from fun z hz => by
                  by_cases h : z = j
                  · subst h
                    have h1 := of_decide_eq_false hin
                    have h2 := (E0.out.ok.at z).1
                    omega
                  · exact HJ.out.2.2.2 z (by omega))
                clear hin
                go_wp2
                go_roundg (T - (j + 1))
                case measure => have := HJ.out.1; omega
                case rel => exact ⟨j + 1, e, by omega, by go_num, HJ.out.2.1, HJ.out.2.2.1, NX.out, EA.out, IA.out, BA.out⟩
            · obtain rfl : j = T := by omega
              have OE := Lib.hid (show e.oldest = c.n by rw [old_none (fun z h => HJ.out.2.2.2 z (by have := HJ.out.2.2.1; omega)), HJ.out.2.1])
              have NE := Lib.hid HJ.out.2.1
              have XS := Lib.hid CC.out.2.2
              have q1 : (c.n == c.n) = true := by simp
              have q2 : (c.n != c.n) = false := by simp
              clear hj hn hl hz hE hI hB
              go_wp2_with fail
              refine (oldest_any _ cb mb _ E0.out).mono ?_
              rintro ev wa ⟨rfl, hs⟩
              rw [OE.out]
              have EA := Lib.hid (E0.out.low hs)
              have IA := Lib.hid (I0.out.low hs)
              have BA := Lib.hid (Bx.out.trans (hs.mono Bx.out.size))
              clear hs
              go_wp2_with fail
              refine (now_any _ cb mb _ EA.out).mono ?_
              rintro ev wb ⟨rfl, hs⟩
              rw [NE.out]
              have EB := Lib.hid (EA.out.low hs)
              have IB := Lib.hid (IA.out.low hs)
              have BB := Lib.hid (BA.out.trans (hs.mono BA.out.size))
              clear hs
              go_wp2_with fail
              refine (items_any _ (rb + 1) xs IB.out (by rw [CC.out.2.1]; have := TM.out; omega)).mono ?_
              rintro ev wc ⟨v1, rfl, ho, hs⟩
              obtain ⟨i1a, i1c, rfl, -, -⟩ := ho.lenN CC.out.2.1
              have EC := Lib.hid (EB.out.low hs)
              have IC := Lib.hid (IB.out.low hs)
              have OC := Lib.hid ho
              have BC := Lib.hid (BB.out.trans (hs.mono BB.out.size))
              clear hs ho q1 q2
              go_wp2
              have RL := Lib.hid TM.out.2
              go_loopg [82] k (fun q i wr => ∃ z : Nat, z + q = k ∧ i = .int .i64 z ∧ Below wc.heap.size wc wr)
              case atStart => exact ⟨0, by omega, rfl, Below.refl _ _⟩
              case round =>
                obtain ⟨z, hz, rfl, hB⟩ := hrel
                have HZ := Lib.hid hz
                have BZ := Lib.hid hB
                by_cases hlt3 : z < k
                · obtain ⟨x, hx⟩ : ∃ x, (xs)[z]? = some x := ⟨_, List.getElem?_eq_getElem (by rw [CC.out.2.1]; exact hlt3)⟩
                  obtain ⟨gb, ha⟩ := OC.out.addrN (by omega)
                  subst ha
                  obtain ⟨e0, e1, e2, e3⟩ := it_read (OC.out.below hB).sv hx
                  simp only [Nat.zero_add] at e0 e1 e2 e3
                  have bd := alloc_below0 wr (.cells #[.int .i64 x.s, .int .i64 x.a, .int .i64 x.b, .int .i64 x.p] 48)
                  have kd := blk_new wr (.cells #[.int .i64 x.s, .int .i64 x.a, .int .i64 x.b, .int .i64 x.p] 48)
                  obtain ⟨wx, hwx⟩ : ∃ W, W = wr.alloc (.cells #[.int .i64 x.s, .int .i64 x.a, .int .i64 x.b, .int .i64 x.p] 48) := ⟨_, rfl⟩
                  rw [← hwx] at bd kd
                  have EX := Lib.hid ((EC.out.low hB).low bd)
                  have BX := Lib.hid (hB.trans (bd.mono hB.size))
                  have d0 : wx.cell? ⟨wr.heap.size, 0, none⟩ = some (.int .i64 x.s) := blk_cell kd 0
                  have i3 : IntKind.i64.wrap ((z : Int) + 1) = (z : Int) + 1 := Go.IntWalk.i64_in _ (by have := RL.out; omega)
                  have j7 : (0 : Int) ≤ (z : Int) := by omega
                  have j8 : (z : Int) < (k : Int) := by omega
                  have hq : ¬ e.n < x.s := by have := XS.out x (List.mem_of_getElem? hx); rw [NE.out]; omega
                  clear hz hB hx bd kd
                  go_wp2_with fail
                  rw [← hwx]
                  clear hwx
                  go_region_held3 (fun w' => w'.cell? ⟨wr.heap.size, 0, none⟩ = some (.int .i64 x.s)) (first | assumption | go_keep)
                    (first
                      | (go_at_call 16; (with_reducible refine (now_any _ cb mb e ?_).mono ?_); exact EX.out.low (Below.refl _ _).drew; rintro ev wd ⟨rfl, hs⟩; have BD := Lib.hid ((Below.refl _ wx).drew.trans hs); have d0 := cell_step d0 BD.out; clear hs))
                  go_wp2
                  go_roundg (k - (z + 1))
                  case measure => have := HZ.out; omega
                  case rel => exact ⟨z + 1, by omega, by go_num, BX.out.trans (BD.out.mono BX.out.size)⟩
                · obtain rfl : z = k := by omega
                  have EZ := Lib.hid (EC.out.low hB)
                  have IZ := Lib.hid (IC.out.low hB)
                  have BW := Lib.hid (BC.out.trans (hB.mono BC.out.size))
                  clear hz hB
                  go_wp2_with fail
                  refine (oldest_any _ cb mb _ EZ.out).mono ?_
                  rintro ev wd ⟨rfl, hs⟩
                  have ED := Lib.hid (EZ.out.low hs)
                  have ID := Lib.hid (IZ.out.low hs)
                  have BD := Lib.hid (BW.out.trans (hs.mono BW.out.size))
                  have fr := ripe_any wd (rb + 1) xs c.n ID.out (by rw [CC.out.2.1]; have := RL.out; omega)
                  clear hs
                  rw [OE.out]
                  go_wp2_with fail
                  refine fr.mono ?_
                  rintro ev we ⟨v2, rfl, hv2, hI, hkk⟩
                  have EE := Lib.hid (ED.out.bin ID.out hkk)
                  have IE := Lib.hid hI
                  have BE := Lib.hid (BD.out.trans (hkk.below (n := w.heap.size) (fun k e => e ▸ SB.out) BD.out.size))
                  obtain ⟨R, hR⟩ : ∃ R, (xs.filter fun x => !ripeB c.n x).length = R := ⟨_, rfl⟩
                  have RR := Lib.hid hR
                  have RS := Lib.hid (show R ≤ 200 by rw [← hR]; exact Nat.le_trans (List.length_filter_le _ _) (by rw [CC.out.2.1]; have := RL.out; omega))
                  clear hv2 hI hkk fr hR
                  go_wp2_with fail
                  refine (items_any _ (rb + 1) _ IE.out (by rw [RR.out]; have := RS.out; omega)).mono ?_
                  rintro ev wf ⟨v3, rfl, ho, hs⟩
                  obtain ⟨i2a, i2c, rfl, -, -⟩ := ho.lenN RR.out
                  have EF := Lib.hid (EE.out.low hs)
                  have IF := Lib.hid (IE.out.low hs)
                  have OF := Lib.hid ho
                  have BF := Lib.hid (BE.out.trans (hs.mono BE.out.size))
                  clear hs ho
                  have RL := RS
                  go_wp2
                  go_loopg [97] R (fun q i wr => ∃ z : Nat, z + q = R ∧ i = .int .i64 z ∧ Below wf.heap.size wf wr)
                  case atStart => exact ⟨0, by omega, rfl, Below.refl _ _⟩
                  case round =>
                    obtain ⟨z, hz, rfl, hB⟩ := hrel
                    have HZ := Lib.hid hz
                    have BZ := Lib.hid hB
                    by_cases hlt3 : z < R
                    · obtain ⟨x, hx⟩ : ∃ x, (xs.filter fun x => !ripeB c.n x)[z]? = some x := ⟨_, List.getElem?_eq_getElem (by rw [RR.out]; exact hlt3)⟩
                      obtain ⟨gb, ha⟩ := OF.out.addrN (by omega)
                      subst ha
                      obtain ⟨e0, e1, e2, e3⟩ := it_read (OF.out.below hB).sv hx
                      simp only [Nat.zero_add] at e0 e1 e2 e3
                      have bd := alloc_below0 wr (.cells #[.int .i64 x.s, .int .i64 x.a, .int .i64 x.b, .int .i64 x.p] 48)
                      have kd := blk_new wr (.cells #[.int .i64 x.s, .int .i64 x.a, .int .i64 x.b, .int .i64 x.p] 48)
                      obtain ⟨wx, hwx⟩ : ∃ W, W = wr.alloc (.cells #[.int .i64 x.s, .int .i64 x.a, .int .i64 x.b, .int .i64 x.p] 48) := ⟨_, rfl⟩
                      rw [← hwx] at bd kd
                      have EX := Lib.hid ((EF.out.low hB).low bd)
                      have BX := Lib.hid (hB.trans (bd.mono hB.size))
                      have d0 : wx.cell? ⟨wr.heap.size, 0, none⟩ = some (.int .i64 x.s) := blk_cell kd 0
                      have i3 : IntKind.i64.wrap ((z : Int) + 1) = (z : Int) + 1 := Go.IntWalk.i64_in _ (by have := RL.out; omega)
                      have j7 : (0 : Int) ≤ (z : Int) := by omega
                      have j8 : (z : Int) < (R : Int) := by omega
                      have hq : (x.s == e.n) = true := by
                        have h1 := List.mem_filter.1 (List.mem_of_getElem? hx)
                        have h2 := XS.out x h1.1
                        have h3 : ¬ x.s < c.n := by have := h1.2; unfold ripeB at this; simpa using this
                        rw [NE.out]; simp; omega
                      clear hz hB hx bd kd
                      go_wp2_with fail
                      rw [← hwx]
                      clear hwx
                      go_region_held3 (fun w' => w'.cell? ⟨wr.heap.size, 0, none⟩ = some (.int .i64 x.s)) (first | assumption | go_keep)
                        (first
                          | (go_at_call 16; (with_reducible refine (now_any _ cb mb e ?_).mono ?_); exact EX.out.low (Below.refl _ _).drew; rintro ev wd ⟨rfl, hs⟩; have BD := Lib.hid ((Below.refl _ wx).drew.trans hs); have d0 := cell_step d0 BD.out; clear hs))
                      go_wp2
                      go_roundg (R - (z + 1))
                      case measure => have := HZ.out; omega
                      case rel => exact ⟨z + 1, by omega, by go_num, BX.out.trans (BD.out.mono BX.out.size)⟩
                    · obtain rfl : z = R := by omega
                      have EZ := Lib.hid (EF.out.low hB)
                      have IZ := Lib.hid (IF.out.low hB)
                      have BW := Lib.hid (BF.out.trans (hB.mono BF.out.size))
                      clear hz hB
                      go_wp2_with fail
                      refine (awakeE _).mono ?_
                      rintro ev wg ⟨rfl, hs⟩
                      have Bg := Lib.hid (BW.out.trans (hs.mono BW.out.size))
                      clear hs
                      go_wp2
                      go_ret
                      exact ⟨rfl, Bg.out⟩
  · have NO := Lib.hid hmay
    clear hmay
    go_enter Tryd.func7, Tryd.ntmps7
    go_wp2_with fail
    refine (new_no t l _ NO.out).mono ?_
    rintro ev w1 ⟨rfl, hs⟩
    have B1 := Lib.hid (B0.out.trans (hs.mono B0.out.size))
    clear hs
    go_wp2_with fail
    refine (awakeE _).mono ?_
    rintro ev w3 ⟨rfl, hs⟩
    have B3 := Lib.hid (B1.out.trans (hs.mono B1.out.size))
    clear hs
    go_wp2
    go_ret
    exact ⟨rfl, B3.out⟩
end Go.Proofs.YtocigedgicgonaaDoor
