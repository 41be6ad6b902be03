/- The walk of the law EpochPlays. -/
import Derived.Test.YtocigedgicgonaaDoorEpSame
namespace Go.Proofs.YtocigedgicgonaaDoor
open Go.RowKit

set_option maxRecDepth 100000 in
set_option maxHeartbeats 4000000 in
theorem lawPlays (t l : Int) (v : Value) (ds : List DoD) (w : World) (hv : SV lDo w v ds) (hg : Ea.Glob w) : Calls Tryd.prog 3 #[.int .i64 t, .int .i64 l, v] w fun ev w' => ev = .returned (.bool true) ∧ Below w.heap.size w w' := by
  obtain ⟨a, c0, rfl, hlc, hcm⟩ := hv.lenform
  obtain ⟨m, hm⟩ : ∃ m, ds.length = m := ⟨_, rfl⟩
  rw [hm] at hv hlc ⊢
  have V := Lib.hid hv
  have G := Lib.hid hg
  have MM := Lib.hid hm
  have B0 := Lib.hid (Below.refl w.heap.size w)
  clear hv hg hm
  by_cases h1 : 200 < (m : Int)
  · go_enter Tryd.func3, Tryd.ntmps3
    go_wp2_with fail
    refine (awakeE _).mono ?_
    rintro ev w3 ⟨rfl, hs⟩
    have B3 := Lib.hid (B0.out.trans (hs.mono B0.out.size))
    clear hs
    go_wp2
    go_ret
    exact ⟨rfl, B3.out⟩
  · by_cases hmay : Ck.may t l
    · obtain ⟨T, rfl⟩ : ∃ T : Nat, t = T := ⟨t.toNat, by unfold Ck.may at hmay; omega⟩
      have MY := Lib.hid hmay
      clear hmay
      go_enter Tryd.func3, Tryd.ntmps3
      go_wp2_with fail
      refine (new_any T l _ MY.out).mono ?_
      rintro ev w1 ⟨cb, mb, rfl, hT, ga, gb, hs⟩
      have T1 := Lib.hid hT
      have S1 := Lib.hid (show w.heap.size ≤ cb ∧ w.heap.size ≤ mb from ⟨ga, gb⟩)
      have B1 := Lib.hid hs
      clear hs hT ga gb
      go_wp2_with fail
      refine (rf_new T l _ MY.out).mono ?_
      rintro ev w2 ⟨v2, rfl, ho, hs⟩
      obtain ⟨a2, c2, rfl, -, -⟩ := ho.lenN (n := (Ck.new T l).L.length) rfl
      unfold refC
      have b3 := alloc_below0 w2 (refO (Ck.new T l).n (Ck.new T l).l (.slice a2 (Ck.new T l).L.length c2))
      have k3 := blk_new w2 (refO (Ck.new T l).n (Ck.new T l).l (.slice a2 (Ck.new T l).L.length c2))
      obtain ⟨rb, hrb⟩ : ∃ rb, rb = w2.heap.size := ⟨_, rfl⟩
      obtain ⟨w3, hw3⟩ : ∃ W, W = w2.alloc (refO (Ck.new T l).n (Ck.new T l).l (.slice a2 (Ck.new T l).L.length c2)) := ⟨_, rfl⟩
      rw [← hw3] at b3 k3
      rw [← hrb] at k3
      have B2 := B1.out.trans (hs.mono B1.out.size)
      have P3 := Lib.hid (show Pair w3 cb mb rb (Ck.new T l) (Ck.new T l) from ⟨(T1.out.low hs).low b3, Ck.new_ok MY.out, a2, c2, (ho.mono (Nat.zero_le _)).below b3, k3⟩)
      have B3 := Lib.hid (B2.trans (b3.mono B2.size))
      have SR := Lib.hid (show w.heap.size ≤ rb by rw [hrb]; exact B2.size)
      unfold refO at hw3
      clear hs ho b3 k3 B2
      have NG := Lib.hid (cs_glob G.out S1.out.1 S1.out.2)
      have CL := Lib.hid (cs_low S1.out.1 S1.out.2)
      go_wp2
      rw [← hw3, ← hrb]
      clear hw3 hrb
      go_loopg [44] m (fun q i wr => ∃ (k : Nat) (c : Ck), k + q = m ∧ i = .int .i64 k ∧ Pair wr cb mb rb c c ∧ Below w.heap.size w wr)
      case atStart => exact ⟨0, _, by omega, rfl, P3.out, B3.out⟩
      case round =>
        obtain ⟨k, c, hk, rfl, hP, hB⟩ := hrel
        have HK := Lib.hid hk
        have P0 := Lib.hid hP
        have B9 := Lib.hid hB
        by_cases hlt : k < m
        · obtain ⟨d, hd⟩ : ∃ d, ds[k]? = some d := ⟨_, List.getElem?_eq_getElem (by rw [MM.out]; exact hlt)⟩
          obtain ⟨b, off, ha⟩ := V.out.addr (by rw [MM.out]; omega)
          subst ha
          obtain ⟨e0, e1, e2⟩ := step_read (V.out.below hB) hd
          have bd := alloc_below0 wr (doObj d.verb d.t d.a)
          have kd := blk_new wr (doObj d.verb d.t d.a)
          obtain ⟨w5, hw5⟩ : ∃ W, W = wr.alloc (doObj d.verb d.t d.a) := ⟨_, rfl⟩
          rw [← hw5] at bd kd
          unfold doObj at hw5
          have B5 := Lib.hid (hB.trans (bd.mono hB.size))
          have p5 := Pair.low hP bd
          have P5 := Lib.hid p5
          obtain ⟨ra, rm, hO, hK⟩ := p5.ref
          have t0 := blk_cell hK 0
          have t1 := blk_cell hK 1
          have t2 := blk_cell hK 2
          obtain ⟨f0, f1, f2⟩ := DoAt.of kd
          rw [hw5] at t0 t1 t2 f0 f1 f2
          have G5 := Lib.hid (Ea.Glob.below B5.out G.out)
          have fd := does_same cb mb c (.slice ra c.L.length rm) d.verb d.t d.a w5 p5.clk hO G5.out NG.out
          unfold refC doVal at fd
          have K5 := Lib.hid hK
          have i1 : IntKind.i64.wrap ((k : Int) + 1) = (k : Int) + 1 := Go.IntWalk.i64_in _ (by omega)
          have j3 : (0 : Int) ≤ (k : Int) := by omega
          have j4 : (k : Int) < (m : Int) := by omega
          clear hk hP hB hd bd kd hO hK
          go_wp2_with fail
          rw [← hw5]
          clear hw5
          refine fd.mono ?_
          rintro ev w6 ⟨v6, rfl, hT, hv6, hkk⟩
          obtain ⟨c', hc'⟩ : ∃ c', c.step d.verb d.t d.a = c' := ⟨_, rfl⟩
          have SC := Lib.hid hc'
          rw [hc'] at hT hv6 ⊢
          obtain ⟨a6, m6, rfl, -, -⟩ := hv6.lenN (n := c'.L.length) rfl
          unfold refC
          have k6 := blk_keep K5.out hkk (P5.out.clk.other K5.out (by decide))
          have b6 := B5.out.trans (hkk.below (n := w.heap.size) CL.out B5.out.size)
          have bq := alloc_below0 w6 (refO c'.n c'.l (.slice a6 c'.L.length m6))
          have kq := blk_new w6 (refO c'.n c'.l (.slice a6 c'.L.length m6))
          obtain ⟨wq, hwq⟩ : ∃ W, W = w6.alloc (refO c'.n c'.l (.slice a6 c'.L.length m6)) := ⟨_, rfl⟩
          rw [← hwq] at bq kq
          unfold refO at hwq
          have kr := blk_step k6 bq
          obtain ⟨z0, z1, z2, z3, z4, z5, z6⟩ := three_facts kr (.int .i64 c'.n) (.int .i64 c'.l) (.slice a6 c'.L.length m6)
          have p7 := Pair.write (hT.low bq) (hv6.below bq) rfl hT.ok kr
          have bz := b6.trans (bq.mono b6.size)
          have b7 := below_set (below_set (below_set bz SR.out 0 (.int .i64 c'.n)) SR.out 1 (.int .i64 c'.l)) SR.out 2 (.slice a6 c'.L.length m6)
          obtain ⟨w7, hw7⟩ : ∃ W, W = ((wq.setCell ⟨rb, 0, none⟩ (.int .i64 c'.n)).setCell ⟨rb, 1, none⟩ (.int .i64 c'.l)).setCell ⟨rb, 2, none⟩ (.slice a6 c'.L.length m6) := ⟨_, rfl⟩
          rw [← hw7] at p7 b7 z6
          have P7 := Lib.hid p7
          have B7 := Lib.hid b7
          have O7 := Lib.hid (show OwnS lInt 0 w7 (.slice a6 c'.L.length m6) c'.L by
            rw [hw7]
            have hne : ∀ k, (Value.slice a6 c'.L.length m6).ownBlock = some k → k ≠ rb := (hv6.below bq).neBlk kr (by decide)
            exact (((hv6.below bq).setOther hne).setOther hne).setOther hne)
          have q0 := blk_cell kq 0
          have q1 := blk_cell kq 1
          have q2 := blk_cell kq 2
          have r0 := blk_cell z6 0
          have r1 := blk_cell z6 1
          have r2 := blk_cell z6 2
          rw [hw7, hwq] at r0 r1 r2
          rw [hwq] at q0 q1 q2 z0 z1 z2 z3 z4 z5
          have fs := same_any cb mb c' (.slice a6 c'.L.length m6) w7 P7.out.clk O7.out
          unfold refC at fs
          have hnot : ∀ (x : Bool) (w : World), (Op.unary .not (.bool x)).run Tryd.prog w = .ok (.bool (!x)) w := fun _ _ => rfl
          rw [hwq] at hw7
          clear hT hv6 hkk k6 p7 b6 b7 fd hc' bq kq kr bz z6 hwq
          go_wp2_with fail
          rw [← hw7]
          clear hw7
          refine fs.mono ?_
          rintro ev w8 ⟨rfl, hs⟩
          have P8 := Lib.hid (P7.out.low hs)
          have B8 := Lib.hid (B7.out.trans (hs.mono B7.out.size))
          clear hs fs
          go_wp2
          go_roundg (m - (k + 1))
          case measure => have := HK.out; omega
          case rel => exact ⟨k + 1, c', by omega, by go_num, P8.out, B8.out⟩
        · obtain rfl : k = m := by omega
          clear hk hP hB
          go_wp2_with fail
          refine (awakeE _).mono ?_
          rintro ev w14 ⟨rfl, hs⟩
          have B14 := Lib.hid (B9.out.trans (hs.mono B9.out.size))
          clear hs
          go_wp2
          go_ret
          exact ⟨rfl, B14.out⟩
    · have NO := Lib.hid hmay
      clear hmay
      go_enter Tryd.func3, Tryd.ntmps3
      go_wp2_with fail
      refine (new_no t l _ NO.out).mono ?_
      rintro ev w1 ⟨rfl, hs⟩
      have B1 := Lib.hid (B0.out.trans (hs.mono B0.out.size))
      clear hs
      go_wp2_with fail
      refine (rf_no t l _ NO.out).mono ?_
      rintro ev w2 ⟨rfl, hs⟩
      have b3 := alloc_below0 w2 (refO 0 0 (.slice none 0 0))
      have B2 := Lib.hid ((B1.out.trans (hs.mono B1.out.size)).trans (b3.mono (B1.out.trans (hs.mono B1.out.size)).size))
      unfold refO at b3 B2
      clear hs b3
      go_wp2_with fail
      refine (awakeE _).mono ?_
      rintro ev w3 ⟨rfl, hs⟩
      have B3 := Lib.hid (B2.out.trans (hs.mono B2.out.size))
      clear hs
      go_wp2
      go_ret
      exact ⟨rfl, B3.out⟩
end Go.Proofs.YtocigedgicgonaaDoor
