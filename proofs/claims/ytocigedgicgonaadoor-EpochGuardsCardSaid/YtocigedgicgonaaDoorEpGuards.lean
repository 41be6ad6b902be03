/- The walk of the law EpochGuards. -/
import Derived.Test.YtocigedgicgonaaDoorEpTri
namespace Go.Proofs.YtocigedgicgonaaDoor
open Go.RowKit

theorem Pair.step {w w' : World} {cb mb rb : Nat} {c c' r : Ck} (p : Pair w cb mb rb c r) (hT : ClkAt w' cb mb c') (hk : Kept (CS cb mb) w w') : Pair w' cb mb rb c' r := by
  obtain ⟨a, m, h1, h2⟩ := p.ref
  exact ⟨hT, p.rok, a, m, h1.clk p.clk hk, blk_keep h2 hk (p.clk.other h2 (by decide))⟩
/-- who is inside stays there, but for a step that takes it out -/
theorem Ck.stay {c : Ck} {x v t a : Int} (hp : 0 < atL c.L x) (hn : ¬ (v = 2 ∧ t = x)) : atL (c.step v t a).L x = atL c.L x := by
  have hin := atL_in (L := c.L) (x := x) (by omega)
  unfold Ck.step
  split
  · unfold Ck.bump; split <;> rfl
  · split
    · unfold Ck.enter
      split
      · rename_i he
        show atL (c.L.set t.toNat a) x = _
        have ht : t ≠ x := by
          intro e
          subst e
          unfold Ck.enterE at he
          rw [if_neg (by unfold Ck.out; omega), if_pos hp] at he
          cases he
        have ho : ¬ c.out t := by
          intro h
          unfold Ck.enterE at he
          rw [if_pos h] at he
          cases he
        unfold Ck.out at ho
        rw [atL_set (by omega), if_neg (by omega)]
      · rfl
    · split
      · rename_i h2
        unfold Ck.leave
        split
        · rename_i he
          show atL (c.L.set t.toNat 0) x = _
          have ht : t ≠ x := fun e => hn ⟨h2, e⟩
          have ho : ¬ c.out t := by
            intro h
            unfold Ck.leaveE at he
            rw [if_pos h] at he
            cases he
          unfold Ck.out at ho
          rw [atL_set (by omega), if_neg (by omega)]
        · rfl
      · rfl
theorem none_old {c : Ck} {x : Int} {xs : List It} (hp : 0 < atL c.L x) (h : ∀ y ∈ xs, atL c.L x ≤ y.s) : xs.filter (ripeB c.oldest) = [] := by
  rw [List.filter_eq_nil_iff]
  intro y hy
  have h1 := h y hy
  have h2 : c.oldest ≤ atL c.L x := oldL_low _ _ _ (at_mem (by omega)) hp
  unfold ripeB
  simp; omega
set_option maxRecDepth 100000 in
set_option maxHeartbeats 4000000 in
theorem lawGuards (t l x : Int) (v v' : Value) (ds es : List DoD) (w : World) (hv : SV lDo w v ds) (hv' : SV lDo w v' es) (hg : Ea.Glob w) : Calls Tryd.prog 4 #[.int .i64 t, .int .i64 l, v, v', .int .i64 x] w fun ev w' => ev = .returned (.bool true) ∧ Below w.heap.size w w' := by
  obtain ⟨a, c0, rfl, hlc, hcm⟩ := hv.lenform
  obtain ⟨m, hm⟩ : ∃ m, ds.length = m := ⟨_, rfl⟩
  rw [hm] at hv hlc ⊢
  obtain ⟨a', c0', rfl, hlc', hcm'⟩ := hv'.lenform
  obtain ⟨m', hm'⟩ : ∃ m', es.length = m' := ⟨_, rfl⟩
  rw [hm'] at hv' hlc' ⊢
  have V := Lib.hid hv
  have V' := Lib.hid hv'
  have G := Lib.hid hg
  have MM := Lib.hid hm
  have MM' := Lib.hid hm'
  have B0 := Lib.hid (Below.refl w.heap.size w)
  clear hv hg hm hv' hm'
  by_cases h1 : 200 < (m : Int)
  · go_enter Tryd.func4, Tryd.ntmps4
    go_wp2_with fail
    refine (awakeE _).mono ?_
    rintro ev w3 ⟨rfl, hs⟩
    have B3 := Lib.hid (B0.out.trans (hs.mono B0.out.size))
    clear hs
    go_wp2
    go_ret
    exact ⟨rfl, B3.out⟩
  · by_cases h2 : 200 < (m' : Int)
    · go_enter Tryd.func4, Tryd.ntmps4
      go_wp2_with fail
      refine (awakeE _).mono ?_
      rintro ev w3 ⟨rfl, hs⟩
      have B3 := Lib.hid (B0.out.trans (hs.mono B0.out.size))
      clear hs
      go_wp2
      go_ret
      exact ⟨rfl, B3.out⟩
    · by_cases hmay : Ck.may t l
      · obtain ⟨T, rfl⟩ : ∃ T : Nat, t = T := ⟨t.toNat, by unfold Ck.may at hmay; omega⟩
        have MY := Lib.hid hmay
        clear hmay
        go_enter Tryd.func4, Tryd.ntmps4
        go_wp2_with fail
        refine (new_any T l _ MY.out).mono ?_
        rintro ev w1 ⟨cb, mb, rfl, hT, ga, gb, hs⟩
        have T1 := Lib.hid hT
        have S1 := Lib.hid (show w.heap.size ≤ cb ∧ w.heap.size ≤ mb from ⟨ga, gb⟩)
        have B1 := Lib.hid hs
        clear hs hT ga gb
        go_wp2_with fail
        refine (rf_new T l _ MY.out).mono ?_
        rintro ev w2 ⟨v2, rfl, ho, hs⟩
        obtain ⟨a2, c2, rfl, -, -⟩ := ho.lenN (n := (Ck.new T l).L.length) rfl
        unfold refC
        have b3 := alloc_below0 w2 (refO (Ck.new T l).n (Ck.new T l).l (.slice a2 (Ck.new T l).L.length c2))
        have k3 := blk_new w2 (refO (Ck.new T l).n (Ck.new T l).l (.slice a2 (Ck.new T l).L.length c2))
        obtain ⟨rb, hrb⟩ : ∃ rb, rb = w2.heap.size := ⟨_, rfl⟩
        obtain ⟨w3, hw3⟩ : ∃ W, W = w2.alloc (refO (Ck.new T l).n (Ck.new T l).l (.slice a2 (Ck.new T l).L.length c2)) := ⟨_, rfl⟩
        rw [← hw3] at b3 k3
        rw [← hrb] at k3
        have B2 := B1.out.trans (hs.mono B1.out.size)
        have P3 := Lib.hid (show Pair w3 cb mb rb (Ck.new T l) (Ck.new T l) from ⟨(T1.out.low hs).low b3, Ck.new_ok MY.out, a2, c2, (ho.mono (Nat.zero_le _)).below b3, k3⟩)
        have B3 := Lib.hid (B2.trans (b3.mono B2.size))
        have SR := Lib.hid (show w.heap.size ≤ rb by rw [hrb]; exact B2.size)
        unfold refO at hw3
        clear hs ho b3 k3 B2
        have NG := Lib.hid (cs_glob G.out S1.out.1 S1.out.2)
        have CL := Lib.hid (cs_low S1.out.1 S1.out.2)
        go_wp2
        rw [← hw3, ← hrb]
        clear hw3 hrb
        go_loopg [45] m (fun q i wr => ∃ (k : Nat) (c : Ck), k + q = m ∧ i = .int .i64 k ∧ Pair wr cb mb rb c c ∧ Below w.heap.size w wr)
        case atStart => exact ⟨0, _, by omega, rfl, P3.out, B3.out⟩
        case round =>
          obtain ⟨k, c, hk, rfl, hP, hB⟩ := hrel
          have HK := Lib.hid hk
          have P0 := Lib.hid hP
          have B9 := Lib.hid hB
          by_cases hlt : k < m
          · obtain ⟨d, hd⟩ : ∃ d, ds[k]? = some d := ⟨_, List.getElem?_eq_getElem (by rw [MM.out]; exact hlt)⟩
            obtain ⟨b, off, ha⟩ := V.out.addr (by rw [MM.out]; omega)
            subst ha
            obtain ⟨e0, e1, e2⟩ := step_read (V.out.below hB) hd
            have bd := alloc_below0 wr (doObj d.verb d.t d.a)
            have kd := blk_new wr (doObj d.verb d.t d.a)
            obtain ⟨w5, hw5⟩ : ∃ W, W = wr.alloc (doObj d.verb d.t d.a) := ⟨_, rfl⟩
            rw [← hw5] at bd kd
            unfold doObj at hw5
            have B5 := Lib.hid (hB.trans (bd.mono hB.size))
            have p5 := Pair.low hP bd
            have P5 := Lib.hid p5
            obtain ⟨ra, rm, hO, hK⟩ := p5.ref
            have t0 := blk_cell hK 0
            have t1 := blk_cell hK 1
            have t2 := blk_cell hK 2
            obtain ⟨f0, f1, f2⟩ := DoAt.of kd
            rw [hw5] at t0 t1 t2 f0 f1 f2
            have G5 := Lib.hid (Ea.Glob.below B5.out G.out)
            have fd := does_same cb mb c (.slice ra c.L.length rm) d.verb d.t d.a w5 p5.clk hO G5.out NG.out
            unfold refC doVal at fd
            have K5 := Lib.hid hK
            have i1 : IntKind.i64.wrap ((k : Int) + 1) = (k : Int) + 1 := Go.IntWalk.i64_in _ (by omega)
            have j3 : (0 : Int) ≤ (k : Int) := by omega
            have j4 : (k : Int) < (m : Int) := by omega
            clear hk hP hB hd bd kd hO hK
            go_wp2_with fail
            rw [← hw5]
            clear hw5
            refine fd.mono ?_
            rintro ev w6 ⟨v6, rfl, hT, hv6, hkk⟩
            obtain ⟨c', hc'⟩ : ∃ c', c.step d.verb d.t d.a = c' := ⟨_, rfl⟩
            have SC := Lib.hid hc'
            rw [hc'] at hT hv6 ⊢
            obtain ⟨a6, m6, rfl, -, -⟩ := hv6.lenN (n := c'.L.length) rfl
            unfold refC
            have k6 := blk_keep K5.out hkk (P5.out.clk.other K5.out (by decide))
            obtain ⟨z0, z1, z2, z3, z4, z5, -⟩ := three_facts k6 (.int .i64 c'.n) (.int .i64 c'.l) (.slice a6 c'.L.length m6)
            have p7 := Pair.write hT hv6 rfl hT.ok k6
            have b6 := B5.out.trans (hkk.below (n := w.heap.size) CL.out B5.out.size)
            have b7 := below_set (below_set (below_set b6 SR.out 0 (.int .i64 c'.n)) SR.out 1 (.int .i64 c'.l)) SR.out 2 (.slice a6 c'.L.length m6)
            obtain ⟨w7, hw7⟩ : ∃ W, W = ((w6.setCell ⟨rb, 0, none⟩ (.int .i64 c'.n)).setCell ⟨rb, 1, none⟩ (.int .i64 c'.l)).setCell ⟨rb, 2, none⟩ (.slice a6 c'.L.length m6) := ⟨_, rfl⟩
            rw [← hw7] at p7 b7
            have P7 := Lib.hid p7
            have B7 := Lib.hid b7
            clear hT hv6 hkk k6 p7 b6 b7 fd hc'
            go_wp2
            rw [← hw7]
            clear hw7
            go_roundg (m - (k + 1))
            case measure => have := HK.out; omega
            case rel => exact ⟨k + 1, c', by omega, by go_num, P7.out, B7.out⟩
          · obtain rfl : k = m := by omega
            clear hk hP hB
            by_cases ho : c.out x
            · have EA := Lib.hid (show decide (0 < atL c.L x) = false ∧ errV (c.atE x) = .iface 62 (.int .i64 1) from ⟨by rw [atL_out ho]; rfl, by unfold Ck.atE; rw [if_pos ho]; rfl⟩)
              clear ho
              go_wp2_with fail
              refine (at_any _ cb mb _ P0.out.clk x).mono ?_
              rintro ev wa ⟨rfl, hs⟩
              rw [EA.out.1, EA.out.2]
              have PA := Lib.hid (P0.out.low hs)
              have BA := Lib.hid (B9.out.trans (hs.mono B9.out.size))
              clear hs
              go_wp2_with fail
              refine (awakeE _).mono ?_
              rintro ev wg ⟨rfl, hs⟩
              have Bg := Lib.hid (BA.out.trans (hs.mono BA.out.size))
              clear hs
              go_wp2
              go_ret
              exact ⟨rfl, Bg.out⟩
            · by_cases hp : 0 < atL c.L x
              · have EA := Lib.hid (show decide (0 < atL c.L x) = true ∧ errV (c.atE x) = .nilIface from ⟨by simp [hp], by unfold Ck.atE; rw [if_neg ho]; rfl⟩)
                have HP := Lib.hid hp
                clear ho hp
                go_wp2_with fail
                refine (at_any _ cb mb _ P0.out.clk x).mono ?_
                rintro ev wa ⟨rfl, hs⟩
                rw [EA.out.1, EA.out.2]
                have PA := Lib.hid (P0.out.low hs)
                have BA := Lib.hid (B9.out.trans (hs.mono B9.out.size))
                clear hs
                obtain ⟨bb, hbb⟩ : ∃ bb, bb = wa.heap.size := ⟨_, rfl⟩
                have b4 := alloc_below0 wa (.cells #[.pointer none, .int .i64 0] 42)
                have k4 := blk_new wa (.cells #[.pointer none, .int .i64 0] 42)
                rw [← hbb] at k4
                obtain ⟨w4, hw4⟩ : ∃ W, W = wa.alloc (.cells #[.pointer none, .int .i64 0] 42) := ⟨_, rfl⟩
                rw [← hw4] at b4 k4
                have P4 := Lib.hid (PA.out.low b4)
                have I4 := Lib.hid (BinAt.zero k4)
                have B4 := Lib.hid (BA.out.trans (b4.mono BA.out.size))
                have SB := Lib.hid (show w.heap.size ≤ bb by rw [hbb]; exact BA.out.size)
                clear b4 k4
                go_wp2_with fail
                rw [← hw4, ← hbb]
                clear hw4 hbb
                refine (now_any _ cb mb _ P4.out.clk).mono ?_
                rintro ev w8 ⟨rfl, hs⟩
                have P8 := Lib.hid (P4.out.low hs)
                have I8 := Lib.hid (I4.out.low hs)
                have B8 := Lib.hid (B4.out.trans (hs.mono B4.out.size))
                clear hs
                have fa := add_any _ bb [] ⟨c.n, 0, 0, 0⟩ I8.out (by simp)
                unfold It.val at fa
                go_wp2_with fail
                refine fa.mono ?_
                rintro ev w10 ⟨rfl, hI, hkk⟩
                have P10 := Lib.hid (P8.out.bin I8.out hkk)
                have I10 := Lib.hid hI
                have B10 := Lib.hid (B8.out.trans (hkk.below (n := w.heap.size) (fun k e => e ▸ SB.out) B8.out.size))
                clear hI hkk fa
                go_wp2
                go_loopg [77] m' (fun q i wr => ∃ (z : Nat) (e : Ck) (xs : List It), z + q = m' ∧ i = .int .i64 z ∧ (1 ≤ xs.length ∧ xs.length ≤ z + 1) ∧ atL e.L x = atL c.L x ∧ (∀ y ∈ xs, atL c.L x ≤ y.s) ∧ Pair wr cb mb rb e c ∧ BinAt wr bb xs ∧ Below w.heap.size w wr)
                case atStart => exact ⟨0, c, _, by omega, rfl, by simp, rfl, fun y hy => (by
                  rw [List.nil_append, List.mem_singleton] at hy
                  subst hy
                  exact (P10.out.clk.ok.at x).2), P10.out, I10.out, B10.out⟩
                case round =>
                  obtain ⟨z, e, xs, hz, rfl, hxl, hea, hxs, hP, hI, hB⟩ := hrel
                  have HZ := Lib.hid (show z + gk = m' ∧ m' ≤ 200 by omega)
                  have XL := Lib.hid hxl
                  have EA2 := Lib.hid hea
                  have XS := Lib.hid hxs
                  have P0 := Lib.hid hP
                  have I0 := Lib.hid hI
                  have B9' := Lib.hid hB
                  by_cases hlt2 : z < m'
                  · obtain ⟨d, hd⟩ : ∃ d, es[z]? = some d := ⟨_, List.getElem?_eq_getElem (by rw [MM'.out]; exact hlt2)⟩
                    obtain ⟨b, off, ha⟩ := V'.out.addr (by rw [MM'.out]; omega)
                    subst ha
                    obtain ⟨e0, e1, e2⟩ := step_read (V'.out.below hB) hd
                    have bd := alloc_below0 wr (doObj d.verb d.t d.a)
                    have kd := blk_new wr (doObj d.verb d.t d.a)
                    obtain ⟨w5, hw5⟩ : ∃ W, W = wr.alloc (doObj d.verb d.t d.a) := ⟨_, rfl⟩
                    rw [← hw5] at bd kd
                    unfold doObj at hw5
                    have B5 := Lib.hid (hB.trans (bd.mono hB.size))
                    have p5 := Pair.low hP bd
                    have P5 := Lib.hid p5
                    have I5 := Lib.hid (hI.low bd)
                    obtain ⟨ra, rm, hO, hK⟩ := p5.ref
                    have t0 := blk_cell hK 0
                    have t1 := blk_cell hK 1
                    have t2 := blk_cell hK 2
                    obtain ⟨f0, f1, f2⟩ := DoAt.of kd
                    rw [hw5] at t0 t1 t2 f0 f1 f2
                    have G5 := Lib.hid (Ea.Glob.below B5.out G.out)
                    have i1 : IntKind.i64.wrap ((z : Int) + 1) = (z : Int) + 1 := Go.IntWalk.i64_in _ (by omega)
                    have j3 : (0 : Int) ≤ (z : Int) := by omega
                    have j4 : (z : Int) < (m' : Int) := by omega
                    clear kd
                    by_cases hc2 : d.verb = 2
                    · by_cases ht2 : d.t = x
                      · have q1 : (d.verb == 2) = true := by simp [hc2]
                        have q2 : (d.t == x) = true := by simp [ht2]
                        clear p5 hO hK hc2 ht2
                        clear hz hxl hea hxs hP hI hB hd bd
                        try rw [← hw5]
                        go_wp2
                        rw [← hw5]
                        clear hw5
                        go_roundg (m' - (z + 1))
                        case measure => have := HZ.out; omega
                        case rel => exact ⟨z + 1, e, xs, by omega, by go_num, by have := XL.out; omega, EA2.out, XS.out, P5.out, I5.out, B5.out⟩
                      · have q1 : (d.verb == 2) = true := by simp [hc2]
                        have q2 : (d.t == x) = false := by simp [ht2]
                        have NST := Lib.hid (show ¬ (d.verb = 2 ∧ d.t = x) from fun h => ht2 h.2)
                        have fd := does_any cb mb e c (.slice ra c.L.length rm) d.verb d.t d.a w5 p5.clk p5.rok hO G5.out NG.out
                        unfold refC doVal at fd
                        clear p5 hc2 ht2
                        clear hz hxl hea hxs hP hI hB hd bd hO hK
                        go_wp2_with fail
                        rw [← hw5]
                        clear hw5
                        refine fd.mono ?_
                        rintro ev w6 ⟨v6, rfl, hT, hv6, hkk⟩
                        obtain ⟨e', he'⟩ : ∃ e', e.step d.verb d.t d.a = e' := ⟨_, rfl⟩
                        have SE := Lib.hid (show atL e'.L x = atL c.L x by rw [← he', Ck.stay (by rw [EA2.out]; exact HP.out) NST.out]; exact EA2.out)
                        rw [he'] at hT
                        have P6 := Lib.hid (P5.out.step hT hkk)
                        have I6 := Lib.hid (I5.out.clk P5.out.clk hkk)
                        have B6 := Lib.hid (B5.out.trans (hkk.below (n := w.heap.size) CL.out B5.out.size))
                        clear hT hv6 hkk fd he'
                        go_wp2_with fail
                        refine (now_any _ cb mb _ P6.out.clk).mono ?_
                        rintro ev w7 ⟨rfl, hs⟩
                        have P7 := Lib.hid (P6.out.low hs)
                        have I7 := Lib.hid (I6.out.low hs)
                        have B7 := Lib.hid (B6.out.trans (hs.mono B6.out.size))
                        clear hs
                        have fa := add_any _ bb xs ⟨e'.n, 0, 0, 0⟩ I7.out (by have := XL.out; have := HZ.out; omega)
                        unfold It.val at fa
                        go_wp2_with fail
                        refine fa.mono ?_
                        rintro ev w11 ⟨rfl, hI, hkk⟩
                        have P11 := Lib.hid (P7.out.bin I7.out hkk)
                        have I11 := Lib.hid hI
                        have B11 := Lib.hid (B7.out.trans (hkk.below (n := w.heap.size) (fun k e => e ▸ SB.out) B7.out.size))
                        clear hI hkk fa
                        have NX := Lib.hid (show (xs ++ [(⟨e'.n, 0, 0, 0⟩ : It)]).length ≤ z + 1 + 1 ∧ 1 ≤ (xs ++ [(⟨e'.n, 0, 0, 0⟩ : It)]).length ∧ ∀ y ∈ xs ++ [(⟨e'.n, 0, 0, 0⟩ : It)], atL c.L x ≤ y.s from ⟨by rw [List.length_append]; have := XL.out; simp; omega, by rw [List.length_append]; simp, fun y hy => by
                          rcases List.mem_append.1 hy with h | h
                          · exact XS.out y h
                          · rw [List.mem_singleton.1 h, ← SE.out]
                            exact (P11.out.clk.ok.at x).2⟩)
                        obtain ⟨ys, hys⟩ : ∃ ys, xs ++ [(⟨e'.n, 0, 0, 0⟩ : It)] = ys := ⟨_, rfl⟩
                        rw [hys] at NX I11
                        clear hys
                        have NO := Lib.hid (none_old (c := e') (x := x) (xs := ys) (by rw [SE.out]; exact HP.out) (fun y hy => by rw [SE.out]; exact NX.out.2.2 y hy))
                        go_wp2_with fail
                        refine (oldest_any _ cb mb _ P11.out.clk).mono ?_
                        rintro ev w12 ⟨rfl, hs⟩
                        have P12 := Lib.hid (P11.out.low hs)
                        have I12 := Lib.hid (I11.out.low hs)
                        have B12 := Lib.hid (B11.out.trans (hs.mono B11.out.size))
                        have fr := ripe_any w12 bb ys e'.oldest I12.out (by have := NX.out.1; have := HZ.out; omega)
                        clear hs
                        go_wp2_with fail
                        refine fr.mono ?_
                        rintro ev w13 ⟨v13, rfl, hv, hI, hkk⟩
                        rw [NO.out] at hv
                        rw [none_ripe (by rw [NO.out]; rfl)] at hI
                        obtain ⟨a13, c13, rfl, -, -⟩ := hv.lenN (n := 0) rfl
                        have P13 := Lib.hid (P12.out.bin I12.out hkk)
                        have I13 := Lib.hid hI
                        have B13 := Lib.hid (B12.out.trans (hkk.below (n := w.heap.size) (fun k e => e ▸ SB.out) B12.out.size))
                        clear hv hI hkk fr
                        go_wp2
                        go_roundg (m' - (z + 1))
                        case measure => have := HZ.out; omega
                        case rel => exact ⟨z + 1, e', ys, by omega, by go_num, ⟨NX.out.2.1, NX.out.1⟩, SE.out, NX.out.2.2, P13.out, I13.out, B13.out⟩
                    · have q1 : (d.verb == 2) = false := by simp [hc2]
                      have NST := Lib.hid (show ¬ (d.verb = 2 ∧ d.t = x) from fun h => hc2 h.1)
                      have fd := does_any cb mb e c (.slice ra c.L.length rm) d.verb d.t d.a w5 p5.clk p5.rok hO G5.out NG.out
                      unfold refC doVal at fd
                      clear p5 hc2
                      clear hz hxl hea hxs hP hI hB hd bd hO hK
                      go_wp2_with fail
                      rw [← hw5]
                      clear hw5
                      refine fd.mono ?_
                      rintro ev w6 ⟨v6, rfl, hT, hv6, hkk⟩
                      obtain ⟨e', he'⟩ : ∃ e', e.step d.verb d.t d.a = e' := ⟨_, rfl⟩
                      have SE := Lib.hid (show atL e'.L x = atL c.L x by rw [← he', Ck.stay (by rw [EA2.out]; exact HP.out) NST.out]; exact EA2.out)
                      rw [he'] at hT
                      have P6 := Lib.hid (P5.out.step hT hkk)
                      have I6 := Lib.hid (I5.out.clk P5.out.clk hkk)
                      have B6 := Lib.hid (B5.out.trans (hkk.below (n := w.heap.size) CL.out B5.out.size))
                      clear hT hv6 hkk fd he'
                      go_wp2_with fail
                      refine (now_any _ cb mb _ P6.out.clk).mono ?_
                      rintro ev w7 ⟨rfl, hs⟩
                      have P7 := Lib.hid (P6.out.low hs)
                      have I7 := Lib.hid (I6.out.low hs)
                      have B7 := Lib.hid (B6.out.trans (hs.mono B6.out.size))
                      clear hs
                      have fa := add_any _ bb xs ⟨e'.n, 0, 0, 0⟩ I7.out (by have := XL.out; have := HZ.out; omega)
                      unfold It.val at fa
                      go_wp2_with fail
                      refine fa.mono ?_
                      rintro ev w11 ⟨rfl, hI, hkk⟩
                      have P11 := Lib.hid (P7.out.bin I7.out hkk)
                      have I11 := Lib.hid hI
                      have B11 := Lib.hid (B7.out.trans (hkk.below (n := w.heap.size) (fun k e => e ▸ SB.out) B7.out.size))
                      clear hI hkk fa
                      have NX := Lib.hid (show (xs ++ [(⟨e'.n, 0, 0, 0⟩ : It)]).length ≤ z + 1 + 1 ∧ 1 ≤ (xs ++ [(⟨e'.n, 0, 0, 0⟩ : It)]).length ∧ ∀ y ∈ xs ++ [(⟨e'.n, 0, 0, 0⟩ : It)], atL c.L x ≤ y.s from ⟨by rw [List.length_append]; have := XL.out; simp; omega, by rw [List.length_append]; simp, fun y hy => by
                        rcases List.mem_append.1 hy with h | h
                        · exact XS.out y h
                        · rw [List.mem_singleton.1 h, ← SE.out]
                          exact (P11.out.clk.ok.at x).2⟩)
                      obtain ⟨ys, hys⟩ : ∃ ys, xs ++ [(⟨e'.n, 0, 0, 0⟩ : It)] = ys := ⟨_, rfl⟩
                      rw [hys] at NX I11
                      clear hys
                      have NO := Lib.hid (none_old (c := e') (x := x) (xs := ys) (by rw [SE.out]; exact HP.out) (fun y hy => by rw [SE.out]; exact NX.out.2.2 y hy))
                      go_wp2_with fail
                      refine (oldest_any _ cb mb _ P11.out.clk).mono ?_
                      rintro ev w12 ⟨rfl, hs⟩
                      have P12 := Lib.hid (P11.out.low hs)
                      have I12 := Lib.hid (I11.out.low hs)
                      have B12 := Lib.hid (B11.out.trans (hs.mono B11.out.size))
                      have fr := ripe_any w12 bb ys e'.oldest I12.out (by have := NX.out.1; have := HZ.out; omega)
                      clear hs
                      go_wp2_with fail
                      refine fr.mono ?_
                      rintro ev w13 ⟨v13, rfl, hv, hI, hkk⟩
                      rw [NO.out] at hv
                      rw [none_ripe (by rw [NO.out]; rfl)] at hI
                      obtain ⟨a13, c13, rfl, -, -⟩ := hv.lenN (n := 0) rfl
                      have P13 := Lib.hid (P12.out.bin I12.out hkk)
                      have I13 := Lib.hid hI
                      have B13 := Lib.hid (B12.out.trans (hkk.below (n := w.heap.size) (fun k e => e ▸ SB.out) B12.out.size))
                      clear hv hI hkk fr
                      go_wp2
                      go_roundg (m' - (z + 1))
                      case measure => have := HZ.out; omega
                      case rel => exact ⟨z + 1, e', ys, by omega, by go_num, ⟨NX.out.2.1, NX.out.1⟩, SE.out, NX.out.2.2, P13.out, I13.out, B13.out⟩
                  · obtain rfl : z = m' := by omega
                    have q1 : (1 : Int) ≤ (xs.length : Int) := by omega
                    clear hz hxl hea hxs hP hI hB
                    go_wp2_with fail
                    refine (len_any _ bb xs I0.out).mono ?_
                    rintro ev w7 ⟨rfl, hs⟩
                    have B7 := Lib.hid (B9'.out.trans (hs.mono B9'.out.size))
                    clear hs
                    go_wp2_with fail
                    refine (awakeE _).mono ?_
                    rintro ev wg ⟨rfl, hs⟩
                    have Bg := Lib.hid (B7.out.trans (hs.mono B7.out.size))
                    clear hs
                    go_wp2
                    go_ret
                    exact ⟨rfl, Bg.out⟩
              · have EA := Lib.hid (show decide (0 < atL c.L x) = false ∧ errV (c.atE x) = .nilIface from ⟨by simp; omega, by unfold Ck.atE; rw [if_neg ho]; rfl⟩)
                clear ho hp
                go_wp2_with fail
                refine (at_any _ cb mb _ P0.out.clk x).mono ?_
                rintro ev wa ⟨rfl, hs⟩
                rw [EA.out.1, EA.out.2]
                have PA := Lib.hid (P0.out.low hs)
                have BA := Lib.hid (B9.out.trans (hs.mono B9.out.size))
                clear hs
                go_wp2_with fail
                refine (awakeE _).mono ?_
                rintro ev wg ⟨rfl, hs⟩
                have Bg := Lib.hid (BA.out.trans (hs.mono BA.out.size))
                clear hs
                go_wp2
                go_ret
                exact ⟨rfl, Bg.out⟩
      · have NO := Lib.hid hmay
        clear hmay
        go_enter Tryd.func4, Tryd.ntmps4
        go_wp2_with fail
        refine (new_no t l _ NO.out).mono ?_
        rintro ev w1 ⟨rfl, hs⟩
        have B1 := Lib.hid (B0.out.trans (hs.mono B0.out.size))
        clear hs
        go_wp2_with fail
        refine (awakeE _).mono ?_
        rintro ev w3 ⟨rfl, hs⟩
        have B3 := Lib.hid (B1.out.trans (hs.mono B1.out.size))
        clear hs
        go_wp2
        go_ret
        exact ⟨rfl, B3.out⟩
end Go.Proofs.YtocigedgicgonaaDoor
