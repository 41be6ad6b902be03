/- The walk of the law EpochCopies. -/
import Derived.Test.YtocigedgicgonaaDoorEpSame
import Derived.Test.YtocigedgicgonaaDoorEpNil
import Derived.Test.YtocigedgicgonaaDoorArLast
namespace Go.Proofs.YtocigedgicgonaaDoor
open Go.RowKit

theorem Lay.flat_drop {α : Type} (E : Lay α) : ∀ (xs : List α) (k : Nat), (E.flat xs).drop (k * E.sz) = E.flat (xs.drop k)
  | [], _ => by simp [Lay.flat]
  | _ :: _, 0 => by simp
  | x :: xs, k + 1 => by
    simp only [Lay.flat, List.drop_succ_cons]
    rw [List.drop_append, List.drop_of_length_le (by rw [E.len, Nat.add_mul]; omega), E.len, Nat.add_mul, show k * E.sz + 1 * E.sz - E.sz = k * E.sz by omega, E.flat_drop xs k, List.nil_append]
theorem SV.dropV {α : Type} {E : Lay α} {w : World} {b off n cap k : Nat} {xs : List α} (h : SV E w (.slice (some ⟨b, off, none⟩) n cap) xs) (hk : k ≤ xs.length) (hc : k < cap) : SV E w (.slice (some ⟨b, off + k * E.sz, none⟩) (n - k) (cap - k)) (xs.drop k) := by
  obtain ⟨a', cap', h1, h2, h3, h4, b', off', h5, h6⟩ := h
  obtain ⟨e, rfl, rfl⟩ := Value.slice.inj h1
  refine ⟨_, cap - k, by rw [List.length_drop], by rw [List.length_drop]; omega, by omega, fun h => (by cases h), b, off + k * E.sz, fun _ x hx => (Option.some.inj hx).symm, fun j u hu => ?_⟩
  have hlt : j < (xs.length - k) * E.sz := by
    have := (List.getElem?_eq_some_iff.1 hu).1
    rw [E.flat_len, List.length_drop] at this; exact this
  have hne : ¬ xs.length = 0 := fun h0 => by rw [h0] at hlt; simp at hlt
  have e2 := h5 hne _ e.symm
  obtain ⟨rfl, rfl⟩ : b = b' ∧ off = off' := by simpa using e2
  rw [← E.flat_drop, List.getElem?_drop] at hu
  rw [Nat.add_assoc]
  exact h6 _ u hu
theorem alloc_drew_size (w : World) (o : Obj) : (w.alloc o).drew.heap.size = w.heap.size + 1 := by
  show (w.alloc o).heap.size = _
  simp
theorem drewB {n : Nat} {w w' : World} (h : Below n w w') : Below n w w'.drew := h.drew
/-- two pairs that share no block -/
def Apart (cb mb rb ob om qb : Nat) : Prop := (¬ CS cb mb ob ∧ ¬ CS cb mb om ∧ ¬ CS cb mb qb) ∧ (¬ ob = rb ∧ ¬ om = rb ∧ ¬ qb = rb)
theorem apart_of {s cb mb rb ob om qb : Nat} (h1 : cb < s ∧ mb < s ∧ rb < s) (h2 : s ≤ ob ∧ s ≤ om ∧ s ≤ qb) : Apart cb mb rb ob om qb ∧ Apart ob om qb cb mb rb :=
  ⟨⟨⟨fun e => by rcases e with e | e <;> omega, fun e => by rcases e with e | e <;> omega, fun e => by rcases e with e | e <;> omega⟩, by omega, by omega, by omega⟩,
    ⟨fun e => by rcases e with e | e <;> omega, fun e => by rcases e with e | e <;> omega, fun e => by rcases e with e | e <;> omega⟩, by omega, by omega, by omega⟩
theorem Pair.beside {w w' : World} {cb mb rb ob om qb : Nat} {c o r : Ck} (h : Pair w ob om qb o o) (p : Pair w cb mb rb c r) (hk : Kept (CS cb mb) w w') (hA : Apart cb mb rb ob om qb) : Pair w' ob om qb o o :=
  h.keep hk hA.1.1 hA.1.2.1 hA.1.2.2 (fun _ _ e => p.clk.other e (by decide))
theorem Pair.besideW {w : World} {cb mb rb ob om qb : Nat} {o : Ck} (h : Pair w ob om qb o o) {x : Array Value} (hb : w.heap[rb]? = some (.cells x 28 (0, 0))) (hA : Apart cb mb rb ob om qb) (u0 u1 u2 : Value) :
    Pair (((w.setCell ⟨rb, 0, none⟩ u0).setCell ⟨rb, 1, none⟩ u1).setCell ⟨rb, 2, none⟩ u2) ob om qb o o :=
  h.keep ((((Kept.refl (fun k => k = rb) w).setCell 0 u0).setCell 1 u1).setCell 2 u2) hA.2.1 hA.2.2.1 hA.2.2.2 (fun k cs e ek => by
    subst ek
    rw [hb] at e
    simp only [Option.some.injEq, Obj.cells.injEq] at e
    exact absurd e.2.1 (by decide))
set_option maxRecDepth 100000 in
set_option maxHeartbeats 4000000 in
theorem lawCopies (t l z : Int) (v : Value) (ds : List DoD) (w : World) (hz : 0 ≤ z ∧ z ≤ 255) (hv : SV lDo w v ds) (hg : Ea.Glob w) : Calls Tryd.prog 5 #[.int .i64 t, .int .i64 l, v, .int .u8 z] w fun ev w' => ev = .returned (.bool true) ∧ Below w.heap.size w w' := by
  obtain ⟨a, c0, rfl, hlc, hcm⟩ := hv.lenform
  obtain ⟨m, hm⟩ : ∃ m, ds.length = m := ⟨_, rfl⟩
  rw [hm] at hv hlc ⊢
  have V := Lib.hid hv
  have G := Lib.hid hg
  have MM := Lib.hid hm
  have B0 := Lib.hid (Below.refl w.heap.size w)
  clear hv hg hm
  by_cases h1 : 200 < (m : Int)
  · go_enter Tryd.func5, Tryd.ntmps5
    go_wp2_with fail
    refine (awakeE _).mono ?_
    rintro ev w3 ⟨rfl, hs⟩
    have B3 := Lib.hid (B0.out.trans (hs.mono B0.out.size))
    clear hs
    go_wp2
    go_ret
    exact ⟨rfl, B3.out⟩
  · by_cases hmay : Ck.may t l
    · obtain ⟨T, rfl⟩ : ∃ T : Nat, t = T := ⟨t.toNat, by unfold Ck.may at hmay; omega⟩
      have MY := Lib.hid hmay
      clear hmay

      go_enter Tryd.func5, Tryd.ntmps5
      go_wp2_with fail
      refine (new_any T l _ MY.out).mono ?_
      rintro ev w1 ⟨cb, mb, rfl, hT, ga, gb, hs⟩
      have T1 := Lib.hid hT
      have S1 := Lib.hid (show w.heap.size ≤ cb ∧ w.heap.size ≤ mb from ⟨ga, gb⟩)
      have B1 := Lib.hid hs
      clear hs hT ga gb
      go_wp2_with fail
      refine (rf_new T l _ MY.out).mono ?_
      rintro ev w2 ⟨v2, rfl, ho, hs⟩
      obtain ⟨a2, c2, rfl, -, -⟩ := ho.lenN (n := (Ck.new T l).L.length) rfl
      unfold refC
      have b3 := alloc_below0 w2 (refO (Ck.new T l).n (Ck.new T l).l (.slice a2 (Ck.new T l).L.length c2))
      have k3 := blk_new w2 (refO (Ck.new T l).n (Ck.new T l).l (.slice a2 (Ck.new T l).L.length c2))
      obtain ⟨rb, hrb⟩ : ∃ rb, rb = w2.heap.size := ⟨_, rfl⟩
      obtain ⟨w3, hw3⟩ : ∃ W, W = w2.alloc (refO (Ck.new T l).n (Ck.new T l).l (.slice a2 (Ck.new T l).L.length c2)) := ⟨_, rfl⟩
      rw [← hw3] at b3 k3
      rw [← hrb] at k3
      have B2 := B1.out.trans (hs.mono B1.out.size)
      have P3 := Lib.hid (show Pair w3 cb mb rb (Ck.new T l) (Ck.new T l) from ⟨(T1.out.low hs).low b3, Ck.new_ok MY.out, a2, c2, (ho.mono (Nat.zero_le _)).below b3, k3⟩)
      have B3 := Lib.hid (B2.trans (b3.mono B2.size))
      have SR := Lib.hid (show w.heap.size ≤ rb by rw [hrb]; exact B2.size)
      unfold refO at hw3
      clear hs ho b3 k3 B2
      have NG := Lib.hid (cs_glob G.out S1.out.1 S1.out.2)
      have CL := Lib.hid (cs_low S1.out.1 S1.out.2)
      obtain ⟨K, hK0, hKm⟩ : ∃ K : Nat, z % ((m : Int) + 1) = (K : Int) ∧ K ≤ m := ⟨(z % ((m : Int) + 1)).toNat, by
        have := Int.emod_nonneg z (b := (m : Int) + 1) (by omega); omega, by
        have := Int.emod_lt_of_pos z (b := (m : Int) + 1) (by omega)
        have := Int.emod_nonneg z (b := (m : Int) + 1) (by omega); omega⟩
      have kc : K ≤ c0 := by omega

      go_wp2_with fail
      rw [← hw3, ← hrb]
      clear hw3 hrb
      rw [hK0]
      clear hK0
      go_loopg [63] K (fun q i wr => ∃ (k : Nat) (c : Ck), k + q = K ∧ i = .int .i64 k ∧ Pair wr cb mb rb c c ∧ Below w.heap.size w wr)
      case atStart => exact ⟨0, _, by omega, rfl, P3.out, B3.out⟩
      case round =>
        obtain ⟨k, c, hk, rfl, hP, hB⟩ := hrel
        have HK := Lib.hid (show k + gk = K ∧ K ≤ m ∧ m ≤ 200 from ⟨hk, hKm, by omega⟩)
        have P0 := Lib.hid hP
        have B9 := Lib.hid hB
        by_cases hlt : k < K
        · obtain ⟨d, hd⟩ : ∃ d, ds[k]? = some d := ⟨_, List.getElem?_eq_getElem (by rw [MM.out]; omega)⟩
          obtain ⟨b, off, ha⟩ := V.out.addr (by rw [MM.out]; omega)
          subst ha
          obtain ⟨e0, e1, e2⟩ := step_read (V.out.below hB) hd
          have bd := alloc_below0 wr (doObj d.verb d.t d.a)
          have kd := blk_new wr (doObj d.verb d.t d.a)
          obtain ⟨w5, hw5⟩ : ∃ W, W = wr.alloc (doObj d.verb d.t d.a) := ⟨_, rfl⟩
          rw [← hw5] at bd kd
          unfold doObj at hw5
          have B5 := Lib.hid (hB.trans (bd.mono hB.size))
          have p5 := Pair.low hP bd
          have P5 := Lib.hid p5
          obtain ⟨ra, rm, hO, hK⟩ := p5.ref
          have t0 := blk_cell hK 0
          have t1 := blk_cell hK 1
          have t2 := blk_cell hK 2
          obtain ⟨f0, f1, f2⟩ := DoAt.of kd
          rw [hw5] at t0 t1 t2 f0 f1 f2
          have G5 := Lib.hid (Ea.Glob.below B5.out G.out)
          have fd := does_same cb mb c (.slice ra c.L.length rm) d.verb d.t d.a w5 p5.clk hO G5.out NG.out
          unfold refC doVal at fd
          have K5 := Lib.hid hK
          have i1 : IntKind.i64.wrap ((k : Int) + 1) = (k : Int) + 1 := Go.IntWalk.i64_in _ (by omega)
          have j3 : (0 : Int) ≤ (k : Int) := by omega
          have j4 : (k : Int) < (K : Int) := by omega
          clear hk hP hB hd bd kd hO hK
          go_wp2_with fail
          rw [← hw5]
          clear hw5
          refine fd.mono ?_
          rintro ev w6 ⟨v6, rfl, hT, hv6, hkk⟩
          obtain ⟨c', hc'⟩ : ∃ c', c.step d.verb d.t d.a = c' := ⟨_, rfl⟩
          have SC := Lib.hid hc'
          rw [hc'] at hT hv6 ⊢
          obtain ⟨a6, m6, rfl, -, -⟩ := hv6.lenN (n := c'.L.length) rfl
          unfold refC
          have k6 := blk_keep K5.out hkk (P5.out.clk.other K5.out (by decide))
          obtain ⟨z0, z1, z2, z3, z4, z5, -⟩ := three_facts k6 (.int .i64 c'.n) (.int .i64 c'.l) (.slice a6 c'.L.length m6)
          have p7 := Pair.write hT hv6 rfl hT.ok k6
          have b6 := B5.out.trans (hkk.below (n := w.heap.size) CL.out B5.out.size)
          have b7 := below_set (below_set (below_set b6 SR.out 0 (.int .i64 c'.n)) SR.out 1 (.int .i64 c'.l)) SR.out 2 (.slice a6 c'.L.length m6)
          obtain ⟨w7, hw7⟩ : ∃ W, W = ((w6.setCell ⟨rb, 0, none⟩ (.int .i64 c'.n)).setCell ⟨rb, 1, none⟩ (.int .i64 c'.l)).setCell ⟨rb, 2, none⟩ (.slice a6 c'.L.length m6) := ⟨_, rfl⟩
          rw [← hw7] at p7 b7
          have P7 := Lib.hid p7
          have B7 := Lib.hid b7
          clear hT hv6 hkk k6 p7 b6 b7 fd hc'
          go_wp2
          rw [← hw7]
          clear hw7
          go_roundg (K - (k + 1))
          case measure => have := HK.out; omega
          case rel => exact ⟨k + 1, c', by omega, by go_num, P7.out, B7.out⟩
        · obtain rfl : k = K := by omega
          clear hk hP hB
          have P3 := P0
          have B3 := B9
          clear P0 B9
          obtain ⟨wa, hwa⟩ : ∃ u, u = wr := ⟨_, rfl⟩
          subst hwa
          obtain ⟨kq, hkq⟩ : ∃ u, u = k := ⟨_, rfl⟩
          subst hkq
          obtain ⟨c1, hc1⟩ : ∃ u, u = c := ⟨_, rfl⟩
          subst hc1
          obtain ⟨ra, rm, hO, hK⟩ := P3.out.ref
          obtain ⟨N, hN⟩ : ∃ N, c1.L.length = N := ⟨_, rfl⟩
          rw [hN] at hO hK
          have O3 := Lib.hid hO
          have K3 := Lib.hid hK
          have NN := Lib.hid hN
          have LT := Lib.hid (show cb < wa.heap.size ∧ mb < wa.heap.size ∧ rb < wa.heap.size from ⟨P3.out.clk.ltC, P3.out.clk.ltM, (Array.getElem?_eq_some_iff.1 hK).1⟩)
          have t0 : wa.cell? ⟨rb, 0, none⟩ = some (.int .i64 c1.n) := blk_cell K3.out 0
          have t1 : wa.cell? ⟨rb, 1, none⟩ = some (.int .i64 c1.l) := blk_cell K3.out 1
          have t2 : wa.cell? ⟨rb, 2, none⟩ = some (.slice ra N rm) := blk_cell K3.out 2
          have BZ := Lib.hid (alloc_below0 wa (.cells #[.int .i64 0, .int .i64 0, .slice none 0 0] 28))
          have KZ := Lib.hid (blk_new wa (.cells #[.int .i64 0, .int .i64 0, .slice none 0 0] 28))
          have n0 := World.new_ne wa _ t0
          have n1 := World.new_ne wa _ t1
          have n2 := World.new_ne wa _ t2
          clear hO hK hN
          go_wp2_with fail
          go_region_held3 (fun w' => w'.cell? ⟨rb, 0, none⟩ = some (.int .i64 c1.n) ∧ w'.cell? ⟨rb, 1, none⟩ = some (.int .i64 c1.l) ∧ w'.cell? ⟨rb, 2, none⟩ = some (.slice ra N rm)) (first | exact ⟨by assumption, by assumption, by assumption⟩ | go_keep)
            (first
              | (go_at_call 20; (with_reducible refine (copy_any _ cb mb c1 ?_).mono ?_); exact P3.out.clk.low (Below.refl _ _).drew; rintro e5 w5 ⟨ob, om, rfl, hT5, ha5, hp5, hs⟩; have BD := Lib.hid ((Below.refl _ wa).drew.trans hs); have u0 := cell_step t0 BD.out; have u1 := cell_step t1 BD.out; have u2 := cell_step t2 BD.out; have m0 := World.new_ne w5 _ u0; have m1 := World.new_ne w5 _ u1; have m2 := World.new_ne w5 _ u2; have T5 := Lib.hid (show ClkAt w5 ob om c1 ∧ wa.heap.size ≤ ob ∧ wa.heap.size ≤ om from ⟨hT5, ha5, hp5⟩); clear hs hT5 ha5 hp5)
              | (go_at_call 20; (with_reducible refine (copy_any _ cb mb c1 ?_).mono ?_); exact P3.out.clk.low BZ.out.drew; rintro e5 w5 ⟨ob, om, rfl, hT5, ha5, hp5, hs⟩; have BD := Lib.hid (BZ.out.drew.trans (hs.mono BZ.out.size)); have u0 := cell_step t0 BD.out; have u1 := cell_step t1 BD.out; have u2 := cell_step t2 BD.out; have T5 := Lib.hid (show ClkAt w5 ob om c1 ∧ wa.heap.size + 1 ≤ ob ∧ wa.heap.size + 1 ≤ om from ⟨hT5, Nat.le_trans (Nat.le_of_eq (alloc_drew_size _ _).symm) ha5, Nat.le_trans (Nat.le_of_eq (alloc_drew_size _ _).symm) hp5⟩); have KZ5 := Lib.hid (blk_step KZ.out ((Below.refl _ _).drew.trans hs)); obtain ⟨q0, q1, q2, q3, q4, q5, -⟩ := three_facts KZ5.out (.int .i64 c1.n) (.int .i64 c1.l) (.slice ra N rm); clear hs hT5 ha5 hp5))
          · obtain ⟨qb, hqb⟩ : ∃ q, w5.heap.size = q := ⟨_, rfl⟩
            have b5 := alloc_below0 w5 (.cells #[.int .i64 c1.n, .int .i64 c1.l, .slice ra N rm] 28)
            have k5 := blk_new w5 (.cells #[.int .i64 c1.n, .int .i64 c1.l, .slice ra N rm] 28)
            obtain ⟨w6, hw6⟩ : ∃ W, W = w5.alloc (.cells #[.int .i64 c1.n, .int .i64 c1.l, .slice ra N rm] 28) := ⟨_, rfl⟩
            rw [← hw6, hqb] at k5
            rw [← hw6] at b5
            rw [← hw6, hqb]
            have P6 := Lib.hid ((P3.out.low BD.out).low b5)
            have C6 := Lib.hid (show Pair w6 ob om qb c1 c1 from ⟨T5.out.1.low b5, P3.out.rok, ra, rm, by rw [NN.out]; exact (O3.out.below BD.out).below b5, by rw [NN.out]; exact k5⟩)
            have B5 := Lib.hid (BD.out.trans (b5.mono BD.out.size))
            have LE : wa.heap.size ≤ qb := hqb ▸ BD.out.size
            have AP := Lib.hid (apart_of LT.out ⟨T5.out.2.1, T5.out.2.2, LE⟩)
            have B6 := Lib.hid (B3.out.trans (B5.out.mono B3.out.size))
            have SO := Lib.hid (show (w.heap.size ≤ ob ∧ w.heap.size ≤ om) ∧ w.heap.size ≤ qb from by have := T5.out; have := B3.out.size; omega)
            clear b5 k5 hw6 hqb LE m0 m1 m2 t0 t1 t2 u0 u1 u2 n0 n1 n2
            have NO := Lib.hid (cs_glob G.out SO.out.1.1 SO.out.1.2)
            have CO := Lib.hid (cs_low SO.out.1.1 SO.out.1.2)
            have HM := Lib.hid (show kq ≤ m ∧ m ≤ 200 from ⟨HK.out.2.1, HK.out.2.2⟩)
            by_cases hkm : kq = m
            · obtain rfl : m = kq := hkm.symm
              clear hkm
              have i0 : IntKind.i64.wrap ((m : Int) - 1) = (m : Int) - 1 := Go.IntWalk.i64_in _ (by have := HM.out; omega)
              by_cases hck : m = c0
              · subst hck
                go_wp2_with fail
                go_loopg [82] 0 (fun r i wz => i = .int .i64 0 ∧ wz = w6)
                case atStart => exact ⟨by go_num, rfl⟩
                case round =>
                  obtain ⟨rfl, rfl⟩ := hrel
                  go_wp2_with fail
                  go_loopg [19] 0 (fun r i wz => i = .int .i64 ((m : Int) - 1) ∧ wz = wr)
                  case atStart => exact ⟨by go_num, rfl⟩
                  case round =>
                    obtain ⟨rfl, rfl⟩ := hrel
                    have kn : ¬ (m : Int) ≤ (m : Int) - 1 := by omega
                    obtain ⟨a8, m8, hO1, hK1⟩ := P6.out.ref
                    obtain ⟨a9, m9, hO2, hK2⟩ := C6.out.ref
                    have OO := Lib.hid (show _ ∧ _ from ⟨hO1, hO2⟩)
                    have KK := Lib.hid (show _ ∧ _ from ⟨hK1, hK2⟩)
                    have r0 := blk_cell hK1 0
                    have r1 := blk_cell hK1 1
                    have r2 := blk_cell hK1 2
                    clear hO1 hO2 hK1 hK2
                    have f1 := same_any cb mb _ _ wr P6.out.clk OO.out.1
                    unfold refC at f1
                    go_wp2_with fail
                    refine f1.mono ?_
                    rintro ev wx ⟨rfl, hs⟩
                    have CX := Lib.hid (C6.out.low hs)
                    have BX := Lib.hid (B6.out.trans (hs.mono B6.out.size))
                    have OX := Lib.hid (OO.out.2.below hs)
                    have s0 := blk_cell (blk_step KK.out.2 hs) 0
                    have s1 := blk_cell (blk_step KK.out.2 hs) 1
                    have s2 := blk_cell (blk_step KK.out.2 hs) 2
                    have f2 := same_any ob om _ _ wx CX.out.clk OX.out
                    unfold refC at f2
                    clear hs r0 r1 r2 f1
                    go_wp2_with fail
                    refine f2.mono ?_
                    rintro ev wy ⟨rfl, hs⟩
                    have BY := Lib.hid (BX.out.trans (hs.mono BX.out.size))
                    clear hs s0 s1 s2 f2
                    go_wp2_with fail
                    refine (awakeE _).mono ?_
                    rintro ev wz ⟨rfl, hs⟩
                    have BW := Lib.hid (BY.out.trans (hs.mono BY.out.size))
                    clear hs
                    go_wp2
                    go_ret
                    exact ⟨rfl, BW.out⟩
              · go_wp2_with fail
                go_loopg [82] 0 (fun r i wz => i = .int .i64 0 ∧ wz = w6)
                case atStart => exact ⟨by go_num, rfl⟩
                case round =>
                  obtain ⟨rfl, rfl⟩ := hrel
                  go_wp2_with fail
                  go_loopg [19] 0 (fun r i wz => i = .int .i64 ((m : Int) - 1) ∧ wz = wr)
                  case atStart => exact ⟨by go_num, rfl⟩
                  case round =>
                    obtain ⟨rfl, rfl⟩ := hrel
                    have kn : ¬ (m : Int) ≤ (m : Int) - 1 := by omega
                    obtain ⟨a8, m8, hO1, hK1⟩ := P6.out.ref
                    obtain ⟨a9, m9, hO2, hK2⟩ := C6.out.ref
                    have OO := Lib.hid (show _ ∧ _ from ⟨hO1, hO2⟩)
                    have KK := Lib.hid (show _ ∧ _ from ⟨hK1, hK2⟩)
                    have r0 := blk_cell hK1 0
                    have r1 := blk_cell hK1 1
                    have r2 := blk_cell hK1 2
                    clear hO1 hO2 hK1 hK2
                    have f1 := same_any cb mb _ _ wr P6.out.clk OO.out.1
                    unfold refC at f1
                    go_wp2_with fail
                    refine f1.mono ?_
                    rintro ev wx ⟨rfl, hs⟩
                    have CX := Lib.hid (C6.out.low hs)
                    have BX := Lib.hid (B6.out.trans (hs.mono B6.out.size))
                    have OX := Lib.hid (OO.out.2.below hs)
                    have s0 := blk_cell (blk_step KK.out.2 hs) 0
                    have s1 := blk_cell (blk_step KK.out.2 hs) 1
                    have s2 := blk_cell (blk_step KK.out.2 hs) 2
                    have f2 := same_any ob om _ _ wx CX.out.clk OX.out
                    unfold refC at f2
                    clear hs r0 r1 r2 f1
                    go_wp2_with fail
                    refine f2.mono ?_
                    rintro ev wy ⟨rfl, hs⟩
                    have BY := Lib.hid (BX.out.trans (hs.mono BX.out.size))
                    clear hs s0 s1 s2 f2
                    go_wp2_with fail
                    refine (awakeE _).mono ?_
                    rintro ev wz ⟨rfl, hs⟩
                    have BW := Lib.hid (BY.out.trans (hs.mono BY.out.size))
                    clear hs
                    go_wp2
                    go_ret
                    exact ⟨rfl, BW.out⟩
            · obtain ⟨b, off, ha⟩ := V.out.addr (by rw [MM.out]; omega)
              subst ha
              have hck : ¬ c0 = kq := by omega
              go_wp2_with fail
              go_loopg [82] (m - kq) (fun q i wr => ∃ (k : Nat) (c : Ck), k + q = m - kq ∧ i = .int .i64 k ∧ Pair wr cb mb rb c c ∧ Pair wr ob om qb c1 c1 ∧ Below w.heap.size w wr)
              case atStart => exact ⟨0, c1, by omega, by go_num, P6.out, C6.out, B6.out⟩
              case round =>
                obtain ⟨k, c, hk, rfl, hP, hC, hB⟩ := hrel
                have HK2 := Lib.hid (show k + gk = m - kq ∧ kq ≤ m ∧ m ≤ 200 from ⟨hk, HM.out.1, HM.out.2⟩)
                have P0 := Lib.hid hP
                have C0 := Lib.hid hC
                have B9 := Lib.hid hB
                by_cases hlt : k < m - kq
                · obtain ⟨d, hd⟩ : ∃ d, (ds.drop kq)[k]? = some d := ⟨_, List.getElem?_eq_getElem (by rw [List.length_drop, MM.out]; exact hlt)⟩
                  have VD : SV lDo wr (.slice (some ⟨b, off + kq * 3, none⟩) (m - kq) (c0 - kq)) (ds.drop kq) := (V.out.below hB).dropV (k := kq) (by rw [MM.out]; omega) (by omega)
                  obtain ⟨e0, e1, e2⟩ := step_read VD hd
                  have bd := alloc_below0 wr (doObj d.verb d.t d.a)
                  have kd := blk_new wr (doObj d.verb d.t d.a)
                  obtain ⟨w5, hw5⟩ : ∃ W, W = wr.alloc (doObj d.verb d.t d.a) := ⟨_, rfl⟩
                  rw [← hw5] at bd kd
                  unfold doObj at hw5
                  have B5 := Lib.hid (hB.trans (bd.mono hB.size))
                  have C5 := Lib.hid (hC.low bd)
                  have p5 := Pair.low hP bd
                  have P5 := Lib.hid p5
                  obtain ⟨ra, rm, hO, hK⟩ := p5.ref
                  have t0 := blk_cell hK 0
                  have t1 := blk_cell hK 1
                  have t2 := blk_cell hK 2
                  obtain ⟨f0, f1, f2⟩ := DoAt.of kd
                  rw [hw5] at t0 t1 t2 f0 f1 f2
                  have G5 := Lib.hid (Ea.Glob.below B5.out G.out)
                  have fd := does_same cb mb c (.slice ra c.L.length rm) d.verb d.t d.a w5 p5.clk hO G5.out NG.out
                  unfold refC doVal at fd
                  have K5 := Lib.hid hK
                  have i1 : IntKind.i64.wrap ((k : Int) + 1) = (k : Int) + 1 := Go.IntWalk.i64_in _ (by omega)
                  have j3 : (0 : Int) ≤ (k : Int) := by omega
                  have j4 : (k : Int) < ((m - kq : Nat) : Int) := by omega
                  clear hk hP hB hC hd bd kd hO hK VD
                  go_wp2_with fail
                  rw [← hw5]
                  clear hw5
                  refine fd.mono ?_
                  rintro ev w6 ⟨v6, rfl, hT, hv6, hkk⟩
                  obtain ⟨c', hc'⟩ : ∃ c', c.step d.verb d.t d.a = c' := ⟨_, rfl⟩
                  have SC := Lib.hid hc'
                  rw [hc'] at hT hv6 ⊢
                  obtain ⟨a6, m6, rfl, -, -⟩ := hv6.lenN (n := c'.L.length) rfl
                  unfold refC
                  have k6 := blk_keep K5.out hkk (P5.out.clk.other K5.out (by decide))
                  obtain ⟨z0, z1, z2, z3, z4, z5, -⟩ := three_facts k6 (.int .i64 c'.n) (.int .i64 c'.l) (.slice a6 c'.L.length m6)
                  have p7 := Pair.write hT hv6 rfl hT.ok k6
                  have c7 := ((C5.out.beside P5.out hkk AP.out.1).besideW k6 AP.out.1 (.int .i64 c'.n) (.int .i64 c'.l) (.slice a6 c'.L.length m6))
                  have b6 := B5.out.trans (hkk.below (n := w.heap.size) CL.out B5.out.size)
                  have b7 := below_set (below_set (below_set b6 SR.out 0 (.int .i64 c'.n)) SR.out 1 (.int .i64 c'.l)) SR.out 2 (.slice a6 c'.L.length m6)
                  obtain ⟨w7, hw7⟩ : ∃ W, W = ((w6.setCell ⟨rb, 0, none⟩ (.int .i64 c'.n)).setCell ⟨rb, 1, none⟩ (.int .i64 c'.l)).setCell ⟨rb, 2, none⟩ (.slice a6 c'.L.length m6) := ⟨_, rfl⟩
                  rw [← hw7] at p7 b7 c7
                  have P7 := Lib.hid p7
                  have B7 := Lib.hid b7
                  have C7 := Lib.hid c7
                  clear hT hv6 hkk k6 p7 b6 b7 c7 fd hc'
                  go_wp2
                  rw [← hw7]
                  clear hw7
                  go_roundg (m - kq - (k + 1))
                  case measure => have := HK2.out; omega
                  case rel => exact ⟨k + 1, c', by omega, by go_num, P7.out, C7.out, B7.out⟩
                · clear hk hP hB hC
                  have P7 := P0
                  have C7 := C0
                  have B7 := B9
                  clear P0 C0 B9
                  obtain ⟨c7, hc7⟩ : ∃ u, u = c := ⟨_, rfl⟩
                  subst hc7
                  obtain ⟨k7, hk7⟩ : ∃ u, u = k := ⟨_, rfl⟩
                  subst hk7
                  obtain ⟨w70, hw70⟩ : ∃ u, u = wr := ⟨_, rfl⟩
                  subst hw70
                  have i0 : IntKind.i64.wrap ((m : Int) - 1) = (m : Int) - 1 := Go.IntWalk.i64_in _ (by have := HM.out; omega)
                  go_wp2_with fail
                  go_loopg [19] (m - kq) (fun r i wz => ∃ (ji : Int) (c : Ck), i = .int .i64 ji ∧ ji = (kq : Int) + r - 1 ∧ r ≤ m - kq ∧ Pair wz ob om qb c c ∧ Pair wz cb mb rb c7 c7 ∧ Below w.heap.size w wz)
                  case atStart => exact ⟨_, c1, rfl, by have := HM.out; omega, Nat.le_refl _, C7.out, P7.out, B7.out⟩
                  case round =>
                    obtain ⟨ji, c, rfl, hji, hr, hC, hP, hB⟩ := hrel
                    have HK3 := Lib.hid (show ji = (kq : Int) + gk - 1 ∧ gk ≤ m - kq from ⟨hji, hr⟩)
                    by_cases hlt : (kq : Int) ≤ ji
                    · obtain ⟨j, rfl⟩ : ∃ j : Nat, ji = j := ⟨ji.toNat, by omega⟩
                      have HJ := Lib.hid (show j < m ∧ m ≤ 200 ∧ 1 ≤ gk ∧ (j : Int) = (kq : Int) + gk - 1 from by have := HM.out; omega)
                      obtain ⟨d, hd⟩ : ∃ d, ds[j]? = some d := ⟨_, List.getElem?_eq_getElem (by rw [MM.out]; exact HJ.out.1)⟩
                      have i1 : IntKind.i64.wrap ((j : Int) - 1) = (j : Int) - 1 := Go.IntWalk.i64_in _ (by have := HJ.out; omega)
                      have j3 : (0 : Int) ≤ (j : Int) := by omega
                      have j4 : (j : Int) < (m : Int) := by have := HJ.out; omega
                      have HD := Lib.hid hd
                      have HS := Lib.hid (show ∀ w', Below w.heap.size w w' → w'.cell? ⟨b, off + j * 3, none⟩ = some (.int .i64 d.verb) ∧ w'.cell? ⟨b, off + j * 3 + 1, none⟩ = some (.int .i64 d.t) ∧ w'.cell? ⟨b, off + j * 3 + 2, none⟩ = some (.int .i64 d.a) from fun w' h1 => step_read (V.out.below h1) HD.out)
                      have BD := Lib.hid (drewB hB)
                      have CD := Lib.hid (hC.low (Below.refl _ wr).drew)
                      have PD := Lib.hid (hP.low (Below.refl _ wr).drew)
                      obtain ⟨ra, rm, hO, hK⟩ := CD.out.ref
                      have O3 := Lib.hid hO
                      have KD := Lib.hid hK
                      have G3 := Lib.hid (Ea.Glob.below BD.out G.out)
                      have SD := Lib.hid (HS.out wr.drew BD.out)
                      have fd := does_same ob om c (.slice ra c.L.length rm) d.verb d.t d.a wr.drew CD.out.clk O3.out G3.out NO.out
                      unfold refC doVal at fd
                      clear hji hr hC hP hB hd hO hK
                      go_wp2_with fail
                      refine AnyBut.region (fun w' => w'.cell? ⟨b, off + j * 3, none⟩ = some (.int .i64 d.verb) ∧ w'.cell? ⟨b, off + j * 3 + 1, none⟩ = some (.int .i64 d.t) ∧ w'.cell? ⟨b, off + j * 3 + 2, none⟩ = some (.int .i64 d.a)) 10 (by kernel_rfl) ?_
                      refine AnyBut.take (i := 0) (oi := ⟨some 103, _, _, _, _, none⟩) (v := ?vp0) rfl (by kernel_rfl) (by kernel_rfl) (by kernel_rfl) (by kernel_rfl) (fun _ _ _ h => h) (Or.inl ⟨by rfl, ?hyp0⟩) SD.out ?restp0
                      case hyp0 => (intro w hSw; go_simp; try (with_reducible rfl))
                      simp only [Act.put, List.setIfInBounds_toArray, List.set_cons_zero, List.set_cons_succ]
                      refine AnyBut.take (i := 2) (oi := ⟨some 105, _, _, _, _, none⟩) (v := ?vp2) rfl (by kernel_rfl) (by kernel_rfl) (by kernel_rfl) (by kernel_rfl) (fun _ _ _ h => h) (Or.inl ⟨by rfl, ?hyp2⟩) SD.out ?restp2
                      case hyp2 => (intro w hSw; go_simp; try (with_reducible rfl))
                      simp only [Act.put, List.setIfInBounds_toArray, List.set_cons_zero, List.set_cons_succ]
                      refine AnyBut.take (i := 3) (oi := ⟨some 106, _, _, _, _, none⟩) (v := ?vp3) rfl (by kernel_rfl) (by kernel_rfl) (by kernel_rfl) (by kernel_rfl) (fun _ _ _ h => h) (Or.inl ⟨by rfl, ?hyp3⟩) SD.out ?restp3
                      case hyp3 => (intro w hSw; go_simp; try (with_reducible rfl))
                      simp only [Act.put, List.setIfInBounds_toArray, List.set_cons_zero, List.set_cons_succ]
                      refine AnyBut.take (i := 4) (oi := ⟨some 107, _, _, _, _, none⟩) (v := ?vp4) rfl (by kernel_rfl) (by kernel_rfl) (by kernel_rfl) (by kernel_rfl) (fun _ _ _ h => h) (Or.inl ⟨by rfl, ?hyp4⟩) SD.out ?restp4
                      case hyp4 => (intro w hSw; go_simp; try (with_reducible rfl))
                      simp only [Act.put, List.setIfInBounds_toArray, List.set_cons_zero, List.set_cons_succ]
                      refine AnyBut.take (i := 5) (oi := ⟨some 108, _, _, _, _, none⟩) (v := ?vp5) rfl (by kernel_rfl) (by kernel_rfl) (by kernel_rfl) (by kernel_rfl) (fun _ _ _ h => h) (Or.inl ⟨by rfl, ?hyp5⟩) SD.out ?restp5
                      case hyp5 => (intro w hSw; go_simp; try (with_reducible rfl))
                      simp only [Act.put, List.setIfInBounds_toArray, List.set_cons_zero, List.set_cons_succ]
                      have t0 := blk_cell KD.out 0
                      have t1 := blk_cell KD.out 1
                      have t2 := blk_cell KD.out 2
                      refine AnyBut.one (i := 1) (o := ⟨some 104, _, _, _, _, none⟩) (by kernel_rfl) rfl (fun K hK => ?_)
                      go_simp
                      refine hK.out _ _ (fun _ => SD.out) ?_
                      clear hK K t0 t1 t2
                      try simp only [Act.put, List.setIfInBounds_toArray, List.set_cons_zero, List.set_cons_succ]
                      refine AnyBut.one (i := 6) (o := ⟨some 109, _, _, _, _, none⟩) (by kernel_rfl) rfl (fun K hK => ?_)
                      go_simp
                      refine fd.mono ?_
                      rintro ev w6 ⟨v6, rfl, hT, hv6, hkk⟩
                      obtain ⟨c', hc'⟩ : ∃ c', c.step d.verb d.t d.a = c' := ⟨_, rfl⟩
                      have SC := Lib.hid hc'
                      rw [hc'] at hT hv6 ⊢
                      obtain ⟨a6, m6, rfl, -, -⟩ := hv6.lenN (n := c'.L.length) rfl
                      unfold refC
                      have k6 := blk_keep KD.out hkk (CD.out.clk.other KD.out (by decide))
                      obtain ⟨z0, z1, z2, z3, z4, z5, -⟩ := three_facts k6 (.int .i64 c'.n) (.int .i64 c'.l) (.slice a6 c'.L.length m6)
                      have Cn := Lib.hid (Pair.write hT hv6 rfl hT.ok k6)
                      have Pn := Lib.hid ((PD.out.beside CD.out hkk AP.out.2).besideW k6 AP.out.2 (.int .i64 c'.n) (.int .i64 c'.l) (.slice a6 c'.L.length m6))
                      have B5 := Lib.hid (BD.out.trans (hkk.below (n := w.heap.size) CO.out BD.out.size))
                      have Bn := Lib.hid (below_set (below_set (below_set B5.out SO.out.2 0 (.int .i64 c'.n)) SO.out.2 1 (.int .i64 c'.l)) SO.out.2 2 (.slice a6 c'.L.length m6))
                      have S4 := Lib.hid (HS.out w6 B5.out)
                      clear hT hv6 hkk fd k6 hc'
                      simp only
                      refine hK.out _ _ (fun _ => S4.out) ?_
                      clear hK K
                      try simp only [Act.put, List.setIfInBounds_toArray, List.set_cons_zero, List.set_cons_succ]
                      refine AnyBut.take (i := 7) (oi := ⟨some 102, _, _, _, _, none⟩) (v := ?vp7) rfl (by kernel_rfl) (by kernel_rfl) (by kernel_rfl) (by kernel_rfl) (fun _ _ _ h => h) (Or.inl ⟨by rfl, ?hyp7⟩) S4.out ?restp7
                      case hyp7 => (intro w hSw; go_simp; try (with_reducible rfl))
                      simp only [Act.put, List.setIfInBounds_toArray, List.set_cons_zero, List.set_cons_succ]
                      refine AnyBut.take (i := 8) (oi := ⟨some 110, _, _, _, _, none⟩) (v := ?vp8) rfl (by kernel_rfl) (by kernel_rfl) (by kernel_rfl) (by kernel_rfl) (fun _ _ _ h => h) (Or.inl ⟨by rfl, ?hyp8⟩) S4.out ?restp8
                      case hyp8 => (intro w hSw; go_simp; try (with_reducible rfl))
                      simp only [Act.put, List.setIfInBounds_toArray, List.set_cons_zero, List.set_cons_succ]
                      refine AnyBut.two (i := 9) (j := 10) (o := ⟨some 111, _, _, _, _, none⟩) (u := ⟨none, _, _, _, _, none⟩) (by kernel_rfl) rfl rfl (fun K hK => ?_) (fun K hK => ?_)
                      · go_simp
                        refine hK.out _ _ (fun _ => S4.out) ?_
                        clear hK K
                        try simp only [Act.put, List.setIfInBounds_toArray, List.set_cons_zero, List.set_cons_succ]
                        refine AnyBut.one (i := 10) (o := ⟨none, _, _, _, _, none⟩) (by kernel_rfl) rfl (fun K hK => ?_)
                        go_simp
                        refine hK.out _ _ (fun h => absurd rfl h) ?_
                        clear hK K z0 z1 z2 z3 z4 z5
                        try simp only [Act.put, List.setIfInBounds_toArray, List.set_cons_zero, List.set_cons_succ]
                        refine AnyBut.done (by kernel_rfl) ?_ _
                        go_wp2
                        go_roundg (gk - 1)
                        case measure => have := HJ.out; omega
                        case rel => exact ⟨(j : Int) - 1, c', by go_num, by have := HJ.out; omega, by have := HK3.out; omega, Cn.out, Pn.out, Bn.out⟩
                      · go_simp
                        refine hK.out _ _ (fun h => absurd rfl h) ?_
                        clear hK K z0 z1 z2 z3 z4 z5
                        try simp only [Act.put, List.setIfInBounds_toArray, List.set_cons_zero, List.set_cons_succ]
                        refine AnyBut.one (i := 9) (o := ⟨some 111, _, _, _, _, none⟩) (by kernel_rfl) rfl (fun K hK => ?_)
                        go_simp
                        refine hK.out _ _ (fun _ => HS.out _ Bn.out) ?_
                        clear hK K
                        try simp only [Act.put, List.setIfInBounds_toArray, List.set_cons_zero, List.set_cons_succ]
                        refine AnyBut.done (by kernel_rfl) ?_ _
                        go_wp2
                        go_roundg (gk - 1)
                        case measure => have := HJ.out; omega
                        case rel => exact ⟨(j : Int) - 1, c', by go_num, by have := HJ.out; omega, by have := HK3.out; omega, Cn.out, Pn.out, Bn.out⟩
                    · have C3 := Lib.hid hC
                      have P3 := Lib.hid hP
                      have B8 := Lib.hid hB
                      clear hC hP hB
                      obtain ⟨a8, m8, hO1, hK1⟩ := P3.out.ref
                      obtain ⟨a9, m9, hO2, hK2⟩ := C3.out.ref
                      have OO := Lib.hid (show _ ∧ _ from ⟨hO1, hO2⟩)
                      have KK := Lib.hid (show _ ∧ _ from ⟨hK1, hK2⟩)
                      have r0 := blk_cell hK1 0
                      have r1 := blk_cell hK1 1
                      have r2 := blk_cell hK1 2
                      clear hO1 hO2 hK1 hK2
                      have f1 := same_any cb mb _ _ wr P3.out.clk OO.out.1
                      unfold refC at f1
                      go_wp2_with fail
                      refine f1.mono ?_
                      rintro ev wx ⟨rfl, hs⟩
                      have CX := Lib.hid (C3.out.low hs)
                      have BX := Lib.hid (B8.out.trans (hs.mono B8.out.size))
                      have OX := Lib.hid (OO.out.2.below hs)
                      have s0 := blk_cell (blk_step KK.out.2 hs) 0
                      have s1 := blk_cell (blk_step KK.out.2 hs) 1
                      have s2 := blk_cell (blk_step KK.out.2 hs) 2
                      have f2 := same_any ob om _ _ wx CX.out.clk OX.out
                      unfold refC at f2
                      clear hs r0 r1 r2 f1
                      go_wp2_with fail
                      refine f2.mono ?_
                      rintro ev wy ⟨rfl, hs⟩
                      have BY := Lib.hid (BX.out.trans (hs.mono BX.out.size))
                      clear hs s0 s1 s2 f2
                      go_wp2_with fail
                      refine (awakeE _).mono ?_
                      rintro ev wz ⟨rfl, hs⟩
                      have BW := Lib.hid (BY.out.trans (hs.mono BY.out.size))
                      clear hs
                      go_wp2
                      go_ret
                      exact ⟨rfl, BW.out⟩
          · obtain ⟨qb, hqb⟩ : ∃ q, wa.heap.size = q := ⟨_, rfl⟩
            have KQ := KZ5.out
            rw [hqb] at KQ
            have LE : qb + 1 ≤ ob ∧ qb + 1 ≤ om ∧ wa.heap.size = qb := ⟨hqb ▸ T5.out.2.1, hqb ▸ T5.out.2.2, hqb⟩
            have C6 := Pair.write T5.out.1 (O3.out.below BD.out) NN.out P3.out.rok KQ
            have B5 := Lib.hid (below_set (below_set (below_set BD.out (b := qb) (by omega) 0 (.int .i64 c1.n)) (b := qb) (by omega) 1 (.int .i64 c1.l)) (b := qb) (by omega) 2 (.slice ra N rm))
            have AP := Lib.hid (apart_of LT.out (show wa.heap.size ≤ ob ∧ wa.heap.size ≤ om ∧ wa.heap.size ≤ qb by omega))
            have P6 := (P3.out.low BD.out).besideW (cb := ob) (mb := om) KQ AP.out.2 (.int .i64 c1.n) (.int .i64 c1.l) (.slice ra N rm)
            obtain ⟨w6, hw6⟩ : ∃ W, W = ((w5.setCell ⟨qb, 0, none⟩ (.int .i64 c1.n)).setCell ⟨qb, 1, none⟩ (.int .i64 c1.l)).setCell ⟨qb, 2, none⟩ (.slice ra N rm) := ⟨_, rfl⟩
            rw [← hw6] at C6 B5 P6
            rw [hqb, ← hw6]
            have P6 := Lib.hid P6
            have C6 := Lib.hid C6
            have B6 := Lib.hid (B3.out.trans (B5.out.mono B3.out.size))
            have SO := Lib.hid (show (w.heap.size ≤ ob ∧ w.heap.size ≤ om) ∧ w.heap.size ≤ qb from by have := T5.out; have := B3.out.size; omega)
            clear KQ hw6 hqb LE q0 q1 q2 q3 q4 q5 t0 t1 t2 u0 u1 u2 n0 n1 n2
            have NO := Lib.hid (cs_glob G.out SO.out.1.1 SO.out.1.2)
            have CO := Lib.hid (cs_low SO.out.1.1 SO.out.1.2)
            have HM := Lib.hid (show kq ≤ m ∧ m ≤ 200 from ⟨HK.out.2.1, HK.out.2.2⟩)
            by_cases hkm : kq = m
            · obtain rfl : m = kq := hkm.symm
              clear hkm
              have i0 : IntKind.i64.wrap ((m : Int) - 1) = (m : Int) - 1 := Go.IntWalk.i64_in _ (by have := HM.out; omega)
              by_cases hck : m = c0
              · subst hck
                go_wp2_with fail
                go_loopg [82] 0 (fun r i wz => i = .int .i64 0 ∧ wz = w6)
                case atStart => exact ⟨by go_num, rfl⟩
                case round =>
                  obtain ⟨rfl, rfl⟩ := hrel
                  go_wp2_with fail
                  go_loopg [19] 0 (fun r i wz => i = .int .i64 ((m : Int) - 1) ∧ wz = wr)
                  case atStart => exact ⟨by go_num, rfl⟩
                  case round =>
                    obtain ⟨rfl, rfl⟩ := hrel
                    have kn : ¬ (m : Int) ≤ (m : Int) - 1 := by omega
                    obtain ⟨a8, m8, hO1, hK1⟩ := P6.out.ref
                    obtain ⟨a9, m9, hO2, hK2⟩ := C6.out.ref
                    have OO := Lib.hid (show _ ∧ _ from ⟨hO1, hO2⟩)
                    have KK := Lib.hid (show _ ∧ _ from ⟨hK1, hK2⟩)
                    have r0 := blk_cell hK1 0
                    have r1 := blk_cell hK1 1
                    have r2 := blk_cell hK1 2
                    clear hO1 hO2 hK1 hK2
                    have f1 := same_any cb mb _ _ wr P6.out.clk OO.out.1
                    unfold refC at f1
                    go_wp2_with fail
                    refine f1.mono ?_
                    rintro ev wx ⟨rfl, hs⟩
                    have CX := Lib.hid (C6.out.low hs)
                    have BX := Lib.hid (B6.out.trans (hs.mono B6.out.size))
                    have OX := Lib.hid (OO.out.2.below hs)
                    have s0 := blk_cell (blk_step KK.out.2 hs) 0
                    have s1 := blk_cell (blk_step KK.out.2 hs) 1
                    have s2 := blk_cell (blk_step KK.out.2 hs) 2
                    have f2 := same_any ob om _ _ wx CX.out.clk OX.out
                    unfold refC at f2
                    clear hs r0 r1 r2 f1
                    go_wp2_with fail
                    refine f2.mono ?_
                    rintro ev wy ⟨rfl, hs⟩
                    have BY := Lib.hid (BX.out.trans (hs.mono BX.out.size))
                    clear hs s0 s1 s2 f2
                    go_wp2_with fail
                    refine (awakeE _).mono ?_
                    rintro ev wz ⟨rfl, hs⟩
                    have BW := Lib.hid (BY.out.trans (hs.mono BY.out.size))
                    clear hs
                    go_wp2
                    go_ret
                    exact ⟨rfl, BW.out⟩
              · go_wp2_with fail
                go_loopg [82] 0 (fun r i wz => i = .int .i64 0 ∧ wz = w6)
                case atStart => exact ⟨by go_num, rfl⟩
                case round =>
                  obtain ⟨rfl, rfl⟩ := hrel
                  go_wp2_with fail
                  go_loopg [19] 0 (fun r i wz => i = .int .i64 ((m : Int) - 1) ∧ wz = wr)
                  case atStart => exact ⟨by go_num, rfl⟩
                  case round =>
                    obtain ⟨rfl, rfl⟩ := hrel
                    have kn : ¬ (m : Int) ≤ (m : Int) - 1 := by omega
                    obtain ⟨a8, m8, hO1, hK1⟩ := P6.out.ref
                    obtain ⟨a9, m9, hO2, hK2⟩ := C6.out.ref
                    have OO := Lib.hid (show _ ∧ _ from ⟨hO1, hO2⟩)
                    have KK := Lib.hid (show _ ∧ _ from ⟨hK1, hK2⟩)
                    have r0 := blk_cell hK1 0
                    have r1 := blk_cell hK1 1
                    have r2 := blk_cell hK1 2
                    clear hO1 hO2 hK1 hK2
                    have f1 := same_any cb mb _ _ wr P6.out.clk OO.out.1
                    unfold refC at f1
                    go_wp2_with fail
                    refine f1.mono ?_
                    rintro ev wx ⟨rfl, hs⟩
                    have CX := Lib.hid (C6.out.low hs)
                    have BX := Lib.hid (B6.out.trans (hs.mono B6.out.size))
                    have OX := Lib.hid (OO.out.2.below hs)
                    have s0 := blk_cell (blk_step KK.out.2 hs) 0
                    have s1 := blk_cell (blk_step KK.out.2 hs) 1
                    have s2 := blk_cell (blk_step KK.out.2 hs) 2
                    have f2 := same_any ob om _ _ wx CX.out.clk OX.out
                    unfold refC at f2
                    clear hs r0 r1 r2 f1
                    go_wp2_with fail
                    refine f2.mono ?_
                    rintro ev wy ⟨rfl, hs⟩
                    have BY := Lib.hid (BX.out.trans (hs.mono BX.out.size))
                    clear hs s0 s1 s2 f2
                    go_wp2_with fail
                    refine (awakeE _).mono ?_
                    rintro ev wz ⟨rfl, hs⟩
                    have BW := Lib.hid (BY.out.trans (hs.mono BY.out.size))
                    clear hs
                    go_wp2
                    go_ret
                    exact ⟨rfl, BW.out⟩
            · obtain ⟨b, off, ha⟩ := V.out.addr (by rw [MM.out]; omega)
              subst ha
              have hck : ¬ c0 = kq := by omega
              go_wp2_with fail
              go_loopg [82] (m - kq) (fun q i wr => ∃ (k : Nat) (c : Ck), k + q = m - kq ∧ i = .int .i64 k ∧ Pair wr cb mb rb c c ∧ Pair wr ob om qb c1 c1 ∧ Below w.heap.size w wr)
              case atStart => exact ⟨0, c1, by omega, by go_num, P6.out, C6.out, B6.out⟩
              case round =>
                obtain ⟨k, c, hk, rfl, hP, hC, hB⟩ := hrel
                have HK2 := Lib.hid (show k + gk = m - kq ∧ kq ≤ m ∧ m ≤ 200 from ⟨hk, HM.out.1, HM.out.2⟩)
                have P0 := Lib.hid hP
                have C0 := Lib.hid hC
                have B9 := Lib.hid hB
                by_cases hlt : k < m - kq
                · obtain ⟨d, hd⟩ : ∃ d, (ds.drop kq)[k]? = some d := ⟨_, List.getElem?_eq_getElem (by rw [List.length_drop, MM.out]; exact hlt)⟩
                  have VD : SV lDo wr (.slice (some ⟨b, off + kq * 3, none⟩) (m - kq) (c0 - kq)) (ds.drop kq) := (V.out.below hB).dropV (k := kq) (by rw [MM.out]; omega) (by omega)
                  obtain ⟨e0, e1, e2⟩ := step_read VD hd
                  have bd := alloc_below0 wr (doObj d.verb d.t d.a)
                  have kd := blk_new wr (doObj d.verb d.t d.a)
                  obtain ⟨w5, hw5⟩ : ∃ W, W = wr.alloc (doObj d.verb d.t d.a) := ⟨_, rfl⟩
                  rw [← hw5] at bd kd
                  unfold doObj at hw5
                  have B5 := Lib.hid (hB.trans (bd.mono hB.size))
                  have C5 := Lib.hid (hC.low bd)
                  have p5 := Pair.low hP bd
                  have P5 := Lib.hid p5
                  obtain ⟨ra, rm, hO, hK⟩ := p5.ref
                  have t0 := blk_cell hK 0
                  have t1 := blk_cell hK 1
                  have t2 := blk_cell hK 2
                  obtain ⟨f0, f1, f2⟩ := DoAt.of kd
                  rw [hw5] at t0 t1 t2 f0 f1 f2
                  have G5 := Lib.hid (Ea.Glob.below B5.out G.out)
                  have fd := does_same cb mb c (.slice ra c.L.length rm) d.verb d.t d.a w5 p5.clk hO G5.out NG.out
                  unfold refC doVal at fd
                  have K5 := Lib.hid hK
                  have i1 : IntKind.i64.wrap ((k : Int) + 1) = (k : Int) + 1 := Go.IntWalk.i64_in _ (by omega)
                  have j3 : (0 : Int) ≤ (k : Int) := by omega
                  have j4 : (k : Int) < ((m - kq : Nat) : Int) := by omega
                  clear hk hP hB hC hd bd kd hO hK VD
                  go_wp2_with fail
                  rw [← hw5]
                  clear hw5
                  refine fd.mono ?_
                  rintro ev w6 ⟨v6, rfl, hT, hv6, hkk⟩
                  obtain ⟨c', hc'⟩ : ∃ c', c.step d.verb d.t d.a = c' := ⟨_, rfl⟩
                  have SC := Lib.hid hc'
                  rw [hc'] at hT hv6 ⊢
                  obtain ⟨a6, m6, rfl, -, -⟩ := hv6.lenN (n := c'.L.length) rfl
                  unfold refC
                  have k6 := blk_keep K5.out hkk (P5.out.clk.other K5.out (by decide))
                  obtain ⟨z0, z1, z2, z3, z4, z5, -⟩ := three_facts k6 (.int .i64 c'.n) (.int .i64 c'.l) (.slice a6 c'.L.length m6)
                  have p7 := Pair.write hT hv6 rfl hT.ok k6
                  have c7 := ((C5.out.beside P5.out hkk AP.out.1).besideW k6 AP.out.1 (.int .i64 c'.n) (.int .i64 c'.l) (.slice a6 c'.L.length m6))
                  have b6 := B5.out.trans (hkk.below (n := w.heap.size) CL.out B5.out.size)
                  have b7 := below_set (below_set (below_set b6 SR.out 0 (.int .i64 c'.n)) SR.out 1 (.int .i64 c'.l)) SR.out 2 (.slice a6 c'.L.length m6)
                  obtain ⟨w7, hw7⟩ : ∃ W, W = ((w6.setCell ⟨rb, 0, none⟩ (.int .i64 c'.n)).setCell ⟨rb, 1, none⟩ (.int .i64 c'.l)).setCell ⟨rb, 2, none⟩ (.slice a6 c'.L.length m6) := ⟨_, rfl⟩
                  rw [← hw7] at p7 b7 c7
                  have P7 := Lib.hid p7
                  have B7 := Lib.hid b7
                  have C7 := Lib.hid c7
                  clear hT hv6 hkk k6 p7 b6 b7 c7 fd hc'
                  go_wp2
                  rw [← hw7]
                  clear hw7
                  go_roundg (m - kq - (k + 1))
                  case measure => have := HK2.out; omega
                  case rel => exact ⟨k + 1, c', by omega, by go_num, P7.out, C7.out, B7.out⟩
                · clear hk hP hB hC
                  have P7 := P0
                  have C7 := C0
                  have B7 := B9
                  clear P0 C0 B9
                  obtain ⟨c7, hc7⟩ : ∃ u, u = c := ⟨_, rfl⟩
                  subst hc7
                  obtain ⟨k7, hk7⟩ : ∃ u, u = k := ⟨_, rfl⟩
                  subst hk7
                  obtain ⟨w70, hw70⟩ : ∃ u, u = wr := ⟨_, rfl⟩
                  subst hw70
                  have i0 : IntKind.i64.wrap ((m : Int) - 1) = (m : Int) - 1 := Go.IntWalk.i64_in _ (by have := HM.out; omega)
                  go_wp2_with fail
                  go_loopg [19] (m - kq) (fun r i wz => ∃ (ji : Int) (c : Ck), i = .int .i64 ji ∧ ji = (kq : Int) + r - 1 ∧ r ≤ m - kq ∧ Pair wz ob om qb c c ∧ Pair wz cb mb rb c7 c7 ∧ Below w.heap.size w wz)
                  case atStart => exact ⟨_, c1, rfl, by have := HM.out; omega, Nat.le_refl _, C7.out, P7.out, B7.out⟩
                  case round =>
                    obtain ⟨ji, c, rfl, hji, hr, hC, hP, hB⟩ := hrel
                    have HK3 := Lib.hid (show ji = (kq : Int) + gk - 1 ∧ gk ≤ m - kq from ⟨hji, hr⟩)
                    by_cases hlt : (kq : Int) ≤ ji
                    · obtain ⟨j, rfl⟩ : ∃ j : Nat, ji = j := ⟨ji.toNat, by omega⟩
                      have HJ := Lib.hid (show j < m ∧ m ≤ 200 ∧ 1 ≤ gk ∧ (j : Int) = (kq : Int) + gk - 1 from by have := HM.out; omega)
                      obtain ⟨d, hd⟩ : ∃ d, ds[j]? = some d := ⟨_, List.getElem?_eq_getElem (by rw [MM.out]; exact HJ.out.1)⟩
                      have i1 : IntKind.i64.wrap ((j : Int) - 1) = (j : Int) - 1 := Go.IntWalk.i64_in _ (by have := HJ.out; omega)
                      have j3 : (0 : Int) ≤ (j : Int) := by omega
                      have j4 : (j : Int) < (m : Int) := by have := HJ.out; omega
                      have HD := Lib.hid hd
                      have HS := Lib.hid (show ∀ w', Below w.heap.size w w' → w'.cell? ⟨b, off + j * 3, none⟩ = some (.int .i64 d.verb) ∧ w'.cell? ⟨b, off + j * 3 + 1, none⟩ = some (.int .i64 d.t) ∧ w'.cell? ⟨b, off + j * 3 + 2, none⟩ = some (.int .i64 d.a) from fun w' h1 => step_read (V.out.below h1) HD.out)
                      have BD := Lib.hid (drewB hB)
                      have CD := Lib.hid (hC.low (Below.refl _ wr).drew)
                      have PD := Lib.hid (hP.low (Below.refl _ wr).drew)
                      obtain ⟨ra, rm, hO, hK⟩ := CD.out.ref
                      have O3 := Lib.hid hO
                      have KD := Lib.hid hK
                      have G3 := Lib.hid (Ea.Glob.below BD.out G.out)
                      have SD := Lib.hid (HS.out wr.drew BD.out)
                      have fd := does_same ob om c (.slice ra c.L.length rm) d.verb d.t d.a wr.drew CD.out.clk O3.out G3.out NO.out
                      unfold refC doVal at fd
                      clear hji hr hC hP hB hd hO hK
                      go_wp2_with fail
                      refine AnyBut.region (fun w' => w'.cell? ⟨b, off + j * 3, none⟩ = some (.int .i64 d.verb) ∧ w'.cell? ⟨b, off + j * 3 + 1, none⟩ = some (.int .i64 d.t) ∧ w'.cell? ⟨b, off + j * 3 + 2, none⟩ = some (.int .i64 d.a)) 10 (by kernel_rfl) ?_
                      refine AnyBut.take (i := 0) (oi := ⟨some 103, _, _, _, _, none⟩) (v := ?vq0) rfl (by kernel_rfl) (by kernel_rfl) (by kernel_rfl) (by kernel_rfl) (fun _ _ _ h => h) (Or.inl ⟨by rfl, ?hyq0⟩) SD.out ?restq0
                      case hyq0 => (intro w hSw; go_simp; try (with_reducible rfl))
                      simp only [Act.put, List.setIfInBounds_toArray, List.set_cons_zero, List.set_cons_succ]
                      refine AnyBut.take (i := 2) (oi := ⟨some 105, _, _, _, _, none⟩) (v := ?vq2) rfl (by kernel_rfl) (by kernel_rfl) (by kernel_rfl) (by kernel_rfl) (fun _ _ _ h => h) (Or.inl ⟨by rfl, ?hyq2⟩) SD.out ?restq2
                      case hyq2 => (intro w hSw; go_simp; try (with_reducible rfl))
                      simp only [Act.put, List.setIfInBounds_toArray, List.set_cons_zero, List.set_cons_succ]
                      refine AnyBut.take (i := 3) (oi := ⟨some 106, _, _, _, _, none⟩) (v := ?vq3) rfl (by kernel_rfl) (by kernel_rfl) (by kernel_rfl) (by kernel_rfl) (fun _ _ _ h => h) (Or.inl ⟨by rfl, ?hyq3⟩) SD.out ?restq3
                      case hyq3 => (intro w hSw; go_simp; try (with_reducible rfl))
                      simp only [Act.put, List.setIfInBounds_toArray, List.set_cons_zero, List.set_cons_succ]
                      refine AnyBut.take (i := 4) (oi := ⟨some 107, _, _, _, _, none⟩) (v := ?vq4) rfl (by kernel_rfl) (by kernel_rfl) (by kernel_rfl) (by kernel_rfl) (fun _ _ _ h => h) (Or.inl ⟨by rfl, ?hyq4⟩) SD.out ?restq4
                      case hyq4 => (intro w hSw; go_simp; try (with_reducible rfl))
                      simp only [Act.put, List.setIfInBounds_toArray, List.set_cons_zero, List.set_cons_succ]
                      refine AnyBut.take (i := 5) (oi := ⟨some 108, _, _, _, _, none⟩) (v := ?vq5) rfl (by kernel_rfl) (by kernel_rfl) (by kernel_rfl) (by kernel_rfl) (fun _ _ _ h => h) (Or.inl ⟨by rfl, ?hyq5⟩) SD.out ?restq5
                      case hyq5 => (intro w hSw; go_simp; try (with_reducible rfl))
                      simp only [Act.put, List.setIfInBounds_toArray, List.set_cons_zero, List.set_cons_succ]
                      have t0 := blk_cell KD.out 0
                      have t1 := blk_cell KD.out 1
                      have t2 := blk_cell KD.out 2
                      refine AnyBut.one (i := 1) (o := ⟨some 104, _, _, _, _, none⟩) (by kernel_rfl) rfl (fun K hK => ?_)
                      go_simp
                      refine hK.out _ _ (fun _ => SD.out) ?_
                      clear hK K t0 t1 t2
                      try simp only [Act.put, List.setIfInBounds_toArray, List.set_cons_zero, List.set_cons_succ]
                      refine AnyBut.one (i := 6) (o := ⟨some 109, _, _, _, _, none⟩) (by kernel_rfl) rfl (fun K hK => ?_)
                      go_simp
                      refine fd.mono ?_
                      rintro ev w6 ⟨v6, rfl, hT, hv6, hkk⟩
                      obtain ⟨c', hc'⟩ : ∃ c', c.step d.verb d.t d.a = c' := ⟨_, rfl⟩
                      have SC := Lib.hid hc'
                      rw [hc'] at hT hv6 ⊢
                      obtain ⟨a6, m6, rfl, -, -⟩ := hv6.lenN (n := c'.L.length) rfl
                      unfold refC
                      have k6 := blk_keep KD.out hkk (CD.out.clk.other KD.out (by decide))
                      obtain ⟨z0, z1, z2, z3, z4, z5, -⟩ := three_facts k6 (.int .i64 c'.n) (.int .i64 c'.l) (.slice a6 c'.L.length m6)
                      have Cn := Lib.hid (Pair.write hT hv6 rfl hT.ok k6)
                      have Pn := Lib.hid ((PD.out.beside CD.out hkk AP.out.2).besideW k6 AP.out.2 (.int .i64 c'.n) (.int .i64 c'.l) (.slice a6 c'.L.length m6))
                      have B5 := Lib.hid (BD.out.trans (hkk.below (n := w.heap.size) CO.out BD.out.size))
                      have Bn := Lib.hid (below_set (below_set (below_set B5.out SO.out.2 0 (.int .i64 c'.n)) SO.out.2 1 (.int .i64 c'.l)) SO.out.2 2 (.slice a6 c'.L.length m6))
                      have S4 := Lib.hid (HS.out w6 B5.out)
                      clear hT hv6 hkk fd k6 hc'
                      simp only
                      refine hK.out _ _ (fun _ => S4.out) ?_
                      clear hK K
                      try simp only [Act.put, List.setIfInBounds_toArray, List.set_cons_zero, List.set_cons_succ]
                      refine AnyBut.take (i := 7) (oi := ⟨some 102, _, _, _, _, none⟩) (v := ?vq7) rfl (by kernel_rfl) (by kernel_rfl) (by kernel_rfl) (by kernel_rfl) (fun _ _ _ h => h) (Or.inl ⟨by rfl, ?hyq7⟩) S4.out ?restq7
                      case hyq7 => (intro w hSw; go_simp; try (with_reducible rfl))
                      simp only [Act.put, List.setIfInBounds_toArray, List.set_cons_zero, List.set_cons_succ]
                      refine AnyBut.take (i := 8) (oi := ⟨some 110, _, _, _, _, none⟩) (v := ?vq8) rfl (by kernel_rfl) (by kernel_rfl) (by kernel_rfl) (by kernel_rfl) (fun _ _ _ h => h) (Or.inl ⟨by rfl, ?hyq8⟩) S4.out ?restq8
                      case hyq8 => (intro w hSw; go_simp; try (with_reducible rfl))
                      simp only [Act.put, List.setIfInBounds_toArray, List.set_cons_zero, List.set_cons_succ]
                      refine AnyBut.two (i := 9) (j := 10) (o := ⟨some 111, _, _, _, _, none⟩) (u := ⟨none, _, _, _, _, none⟩) (by kernel_rfl) rfl rfl (fun K hK => ?_) (fun K hK => ?_)
                      · go_simp
                        refine hK.out _ _ (fun _ => S4.out) ?_
                        clear hK K
                        try simp only [Act.put, List.setIfInBounds_toArray, List.set_cons_zero, List.set_cons_succ]
                        refine AnyBut.one (i := 10) (o := ⟨none, _, _, _, _, none⟩) (by kernel_rfl) rfl (fun K hK => ?_)
                        go_simp
                        refine hK.out _ _ (fun h => absurd rfl h) ?_
                        clear hK K z0 z1 z2 z3 z4 z5
                        try simp only [Act.put, List.setIfInBounds_toArray, List.set_cons_zero, List.set_cons_succ]
                        refine AnyBut.done (by kernel_rfl) ?_ _
                        go_wp2
                        go_roundg (gk - 1)
                        case measure => have := HJ.out; omega
                        case rel => exact ⟨(j : Int) - 1, c', by go_num, by have := HJ.out; omega, by have := HK3.out; omega, Cn.out, Pn.out, Bn.out⟩
                      · go_simp
                        refine hK.out _ _ (fun h => absurd rfl h) ?_
                        clear hK K z0 z1 z2 z3 z4 z5
                        try simp only [Act.put, List.setIfInBounds_toArray, List.set_cons_zero, List.set_cons_succ]
                        refine AnyBut.one (i := 9) (o := ⟨some 111, _, _, _, _, none⟩) (by kernel_rfl) rfl (fun K hK => ?_)
                        go_simp
                        refine hK.out _ _ (fun _ => HS.out _ Bn.out) ?_
                        clear hK K
                        try simp only [Act.put, List.setIfInBounds_toArray, List.set_cons_zero, List.set_cons_succ]
                        refine AnyBut.done (by kernel_rfl) ?_ _
                        go_wp2
                        go_roundg (gk - 1)
                        case measure => have := HJ.out; omega
                        case rel => exact ⟨(j : Int) - 1, c', by go_num, by have := HJ.out; omega, by have := HK3.out; omega, Cn.out, Pn.out, Bn.out⟩
                    · have C3 := Lib.hid hC
                      have P3 := Lib.hid hP
                      have B8 := Lib.hid hB
                      clear hC hP hB
                      obtain ⟨a8, m8, hO1, hK1⟩ := P3.out.ref
                      obtain ⟨a9, m9, hO2, hK2⟩ := C3.out.ref
                      have OO := Lib.hid (show _ ∧ _ from ⟨hO1, hO2⟩)
                      have KK := Lib.hid (show _ ∧ _ from ⟨hK1, hK2⟩)
                      have r0 := blk_cell hK1 0
                      have r1 := blk_cell hK1 1
                      have r2 := blk_cell hK1 2
                      clear hO1 hO2 hK1 hK2
                      have f1 := same_any cb mb _ _ wr P3.out.clk OO.out.1
                      unfold refC at f1
                      go_wp2_with fail
                      refine f1.mono ?_
                      rintro ev wx ⟨rfl, hs⟩
                      have CX := Lib.hid (C3.out.low hs)
                      have BX := Lib.hid (B8.out.trans (hs.mono B8.out.size))
                      have OX := Lib.hid (OO.out.2.below hs)
                      have s0 := blk_cell (blk_step KK.out.2 hs) 0
                      have s1 := blk_cell (blk_step KK.out.2 hs) 1
                      have s2 := blk_cell (blk_step KK.out.2 hs) 2
                      have f2 := same_any ob om _ _ wx CX.out.clk OX.out
                      unfold refC at f2
                      clear hs r0 r1 r2 f1
                      go_wp2_with fail
                      refine f2.mono ?_
                      rintro ev wy ⟨rfl, hs⟩
                      have BY := Lib.hid (BX.out.trans (hs.mono BX.out.size))
                      clear hs s0 s1 s2 f2
                      go_wp2_with fail
                      refine (awakeE _).mono ?_
                      rintro ev wz ⟨rfl, hs⟩
                      have BW := Lib.hid (BY.out.trans (hs.mono BY.out.size))
                      clear hs
                      go_wp2
                      go_ret
                      exact ⟨rfl, BW.out⟩
    · have NO := Lib.hid hmay
      clear hmay
      go_enter Tryd.func5, Tryd.ntmps5
      go_wp2_with fail
      refine (new_no t l _ NO.out).mono ?_
      rintro ev w1 ⟨rfl, hs⟩
      have B1 := Lib.hid (B0.out.trans (hs.mono B0.out.size))
      clear hs
      go_wp2_with fail
      refine (rf_no t l _ NO.out).mono ?_
      rintro ev w2 ⟨rfl, hs⟩
      have b3 := alloc_below0 w2 (refO 0 0 (.slice none 0 0))
      have B2 := Lib.hid ((B1.out.trans (hs.mono B1.out.size)).trans (b3.mono (B1.out.trans (hs.mono B1.out.size)).size))
      unfold refO at b3 B2
      clear hs b3
      go_wp2_with fail
      refine (copy_nil _).mono ?_
      rintro ev w3 ⟨rfl, hs⟩
      have B3 := Lib.hid (B2.out.trans (hs.mono B2.out.size))
      clear hs
      go_wp2_with fail
      refine (awakeE _).mono ?_
      rintro ev w4 ⟨rfl, hs⟩
      have B4 := Lib.hid (B3.out.trans (hs.mono B3.out.size))
      clear hs
      go_wp2
      go_ret
      exact ⟨rfl, B4.out⟩
end Go.Proofs.YtocigedgicgonaaDoor
