/- The walk of the law MappingCopies. -/
import Derived.Test.YtfdgfonffocenaaDoorMpPair
import Derived.Test.YtfdgfonffocenaaDoorMpSame
import Derived.Test.YtfdgfonffocenaaDoorMpCopy
import Derived.Test.YtfdgfonffocenaaDoorArLast
namespace Go.Proofs.YtfdgfonffocenaaDoor
open Go.RowKit

theorem alloc_drew_size (w : World) (o : Obj) : (w.alloc o).drew.heap.size = w.heap.size + 1 := by
  show (w.alloc o).heap.size = _
  simp
set_option maxRecDepth 100000 in
set_option maxHeartbeats 4000000 in
theorem lawCopies (pg : Int) (v : Value) (ds : List DoD) (at_ : Int) (hat : 0 ≤ at_ ∧ at_ ≤ 255) (w : World) (hv : SV lDo w v ds) (hg : Ea.Glob w) : Calls Tryd.prog 4 #[.int .i64 pg, v, .int .u8 at_] w fun ev w' => ev = .returned (.bool true) ∧ Below w.heap.size w w' := by
  obtain ⟨a, c, rfl, hlc, hcm⟩ := hv.lenform
  obtain ⟨m, hm⟩ : ∃ m, ds.length = m := ⟨_, rfl⟩
  rw [hm] at hv hlc ⊢
  obtain ⟨W, hW⟩ : ∃ W, W = w := ⟨_, rfl⟩
  rw [← hW] at hv hg ⊢
  have V := Lib.hid hv
  have G := Lib.hid hg
  have MM := Lib.hid hm
  have B0 := Lib.hid (Below.refl W.heap.size W)
  clear hv hg hm hW w
  by_cases h1 : 100 < (m : Int)
  · go_enter Tryd.func4, Tryd.ntmps4
    go_wp2_with fail
    refine (awakeM _).mono ?_
    rintro ev w1 ⟨rfl, hs⟩
    have B1 := Lib.hid (B0.out.trans (hs.mono B0.out.size))
    clear hs
    go_wp2
    go_ret
    exact ⟨rfl, B1.out⟩
  · by_cases h2 : pg < 1
    · go_enter Tryd.func4, Tryd.ntmps4
      go_wp2_with fail
      refine (awakeM _).mono ?_
      rintro ev w1 ⟨rfl, hs⟩
      have B1 := Lib.hid (B0.out.trans (hs.mono B0.out.size))
      clear hs
      go_wp2
      go_ret
      exact ⟨rfl, B1.out⟩
    · by_cases h3 : 100 < pg
      · go_enter Tryd.func4, Tryd.ntmps4
        go_wp2_with fail
        refine (awakeM _).mono ?_
        rintro ev w1 ⟨rfl, hs⟩
        have B1 := Lib.hid (B0.out.trans (hs.mono B0.out.size))
        clear hs
        go_wp2
        go_ret
        exact ⟨rfl, B1.out⟩
      · obtain ⟨n, rfl⟩ : ∃ n : Nat, pg = n := ⟨pg.toNat, by omega⟩
        have g1 : 1 ≤ n := by omega
        have g2 : n ≤ 100 := by omega
        go_enter Tryd.func4, Tryd.ntmps4
        go_wp2_with fail
        refine (new_any n _ g1 (by omega)).mono ?_
        rintro ev w1 ⟨ab, pb, rfl, hT, ga, gb, hs⟩
        have T1 := Lib.hid hT
        have S1 := Lib.hid (show W.heap.size ≤ ab ∧ W.heap.size ≤ pb from ⟨ga, gb⟩)
        have B1 := Lib.hid hs
        clear hs hT ga gb
        go_wp2_with fail
        refine (rf_new n _).mono ?_
        rintro ev w2 ⟨rfl, hs⟩
        unfold refT
        have b2 := alloc_below0 w2 (.cells #[.int .i64 n, .slice none 0 0] 28)
        have k2 := blk_new w2 (.cells #[.int .i64 n, .slice none 0 0] 28)
        obtain ⟨W2, hW2⟩ : ∃ W, W = w2.alloc (.cells #[.int .i64 n, .slice none 0 0] 28) := ⟨_, rfl⟩
        obtain ⟨rb, hrb⟩ : ∃ rb, w2.heap.size = rb := ⟨_, rfl⟩
        have PR := Lib.hid (show pb < w2.heap.size ∧ ab < w2.heap.size from ⟨(T1.out.low hs).ltP, (T1.out.low hs).ltA⟩)
        rw [hrb] at k2 PR
        rw [← hW2] at b2 k2
        have B2 := Lib.hid ((B1.out.trans (hs.mono B1.out.size)).trans (b2.mono (B1.out.trans (hs.mono B1.out.size)).size))
        have P2 := Lib.hid (show Pair W2 ab pb n rb (pages0 n) [] 0 from ⟨(T1.out.low hs).low b2, ⟨none, 0, OwnS.nil _ _ _, k2⟩, RefOk.nil n, Nat.le_refl _⟩)
        have SR := Lib.hid (show W.heap.size ≤ rb ∧ ¬ rb = pb ∧ ¬ rb = ab ∧ ¬ ab = rb ∧ ¬ pb = rb from ⟨by have := S1.out; have := PR.out; omega, by have := PR.out; omega, by have := PR.out; omega, by have := PR.out; omega, by have := PR.out; omega⟩)
        obtain ⟨K, hK, hKm⟩ : ∃ K : Nat, at_ % ((m : Int) + 1) = (K : Int) ∧ K ≤ m := ⟨(at_ % ((m : Int) + 1)).toNat, by
          have := Int.emod_nonneg at_ (b := (m : Int) + 1) (by omega); omega, by
          have := Int.emod_lt_of_pos at_ (b := (m : Int) + 1) (by omega)
          have := Int.emod_nonneg at_ (b := (m : Int) + 1) (by omega); omega⟩
        have kc : K ≤ c := by omega
        have GP := Lib.hid (show ¬ 0 = pb by have := lt_of_cell G.out; have := S1.out; omega)
        clear hs b2 k2
        go_wp2_with fail
        rw [← hW2]
        clear hW2 hrb
        rw [hK]
        clear hK
        go_loopg [49] K (fun r i wz => ∃ (k : Nat) (us : List Up) (L : List Pg), k + r = K ∧ i = .int .i64 k ∧ Pair wz ab pb n rb L us k ∧ Below W.heap.size W wz)
        case atStart => exact ⟨0, [], pages0 n, by omega, rfl, P2.out, B2.out⟩
        case round =>
          obtain ⟨k, us, L, hk, rfl, hP, hB⟩ := hrel
          have HK := Lib.hid (show k + gk = K ∧ K ≤ m ∧ m ≤ 100 from ⟨hk, hKm, by omega⟩)
          by_cases hlt : k < K
          · obtain ⟨d, hd⟩ : ∃ d, ds[k]? = some d := ⟨_, List.getElem?_eq_getElem (by rw [MM.out]; omega)⟩
            obtain ⟨b, off, ha⟩ := V.out.addr (by rw [MM.out]; omega)
            subst ha
            have i1 : IntKind.i64.wrap ((k : Int) + 1) = (k : Int) + 1 := Go.IntWalk.i64_in _ (by omega)
            have j3 : (0 : Int) ≤ (k : Int) := by omega
            have j4 : (k : Int) < (K : Int) := by omega
            obtain ⟨k0, hk0⟩ : ∃ k0, k0 = k := ⟨_, rfl⟩
            rw [← hk0] at hP
            clear hk
            obtain ⟨e0, e1, e2, e3, e4, e5, e6⟩ := step_read (V.out.below hB) hd
            have bd := alloc_below0 wr (doObj d.verb d.x d.right d.os d.og d.ns d.ng)
            have kd := DoAt.new d.verb d.x d.right d.os d.og d.ns d.ng wr
            obtain ⟨w3, hw3⟩ : ∃ W, W = wr.alloc (doObj d.verb d.x d.right d.os d.og d.ns d.ng) := ⟨_, rfl⟩
            rw [← hw3] at bd kd
            unfold doObj at hw3
            have P3 := Lib.hid (hP.low bd)
            skip
            have B4 := Lib.hid (hB.trans (bd.mono hB.size))
            have G3 := Lib.hid (Ea.Glob.below B4.out G.out)
            obtain ⟨aa, cc, hO, hK⟩ := P3.out.ref
            have K3 := Lib.hid hK
            have O3 := Lib.hid hO
            have t0 := blk_cell K3.out 0
            have t1 := blk_cell K3.out 1
            obtain ⟨f0, f1, f2, f3, f4, f5, f6⟩ := kd
            rw [hw3] at t0 t1 f0 f1 f2 f3 f4 f5 f6
            have fd := does_any ab pb n L _ us d.verb d.x d.right d.os d.og d.ns d.ng w3 P3.out.tab O3.out P3.out.ok (by have := P3.out.small; omega) G3.out GP.out
            unfold refT doVal at fd
            clear hP hB hd bd hO hK 
            go_wp2_with fail
            rw [← hw3]
            refine fd.mono ?_
            rintro ev w4 ⟨v4, us4, rfl, hT, hv4, hr4, hl4, hkk⟩
            unfold refT
            obtain ⟨N4, hN4⟩ : ∃ N4, us4.length = N4 := ⟨_, rfl⟩
            obtain ⟨a4, c4, rfl, -, -⟩ := hv4.lenN hN4
            have K4 := Lib.hid (blk_keep K3.out hkk SR.out.2.1)
            skip
            have B5 := Lib.hid (B4.out.trans (hkk.below (n := W.heap.size) (fun k e => e ▸ S1.out.2) B4.out.size))
            have Pw := Lib.hid (Pair.write (show TabAt w4 ab pb n (d.step L) from hT) hv4 hN4 hr4 (show N4 ≤ k0 + 1 by have := P3.out.small; omega) K4.out SR.out.2.2.2.1 SR.out.2.2.2.2)
            skip
            have Bw := Lib.hid (below_set (below_set B5.out SR.out.1 0 (.int .i64 n)) SR.out.1 1 (.slice a4 N4 c4))
            obtain ⟨z0, z1, z2, z3, -⟩ := two_facts K4.out (.int .i64 n) (.slice a4 N4 c4)
            clear hT hv4 hr4 hl4 hkk fd t0 t1 f0 f1 f2 f3 f4 f5 f6 e0 e1 e2 e3 e4 e5 e6 hN4
            go_wp2
            go_roundg (K - (k + 1))
            case measure => have := HK.out; omega
            case rel => exact ⟨k + 1, us4, d.step L, by omega, by go_num, by rw [hk0] at Pw; exact Pw.out, Bw.out⟩
          · obtain rfl : k = K := by omega
            have P3 := Lib.hid hP
            have B3 := Lib.hid hB
            clear hP hB
            obtain ⟨wa, hwa⟩ : ∃ u, u = wr := ⟨_, rfl⟩
            subst hwa
            obtain ⟨kq, hkq⟩ : ∃ u, u = k := ⟨_, rfl⟩
            subst hkq
            obtain ⟨L1, hL1⟩ : ∃ u, u = L := ⟨_, rfl⟩
            subst hL1
            obtain ⟨us1, hu1⟩ : ∃ u, u = us := ⟨_, rfl⟩
            subst hu1
            obtain ⟨aa, cc, hO, hK⟩ := P3.out.ref
            obtain ⟨N, hN⟩ : ∃ N, us1.length = N := ⟨_, rfl⟩
            rw [hN] at hO hK
            have O3 := Lib.hid hO
            have K3 := Lib.hid hK
            have NN := Lib.hid hN
            have LT := Lib.hid (show ab < wa.heap.size ∧ pb < wa.heap.size ∧ rb < wa.heap.size from ⟨P3.out.tab.ltA, P3.out.tab.ltP, (Array.getElem?_eq_some_iff.1 hK).1⟩)
            have t0 : wa.cell? ⟨rb, 0, none⟩ = some (.int .i64 n) := blk_cell K3.out 0
            have t1 : wa.cell? ⟨rb, 1, none⟩ = some (.slice aa N cc) := blk_cell K3.out 1
            have BZ := Lib.hid (alloc_below0 wa (.cells #[.int .i64 0, .slice none 0 0] 28))
            have KZ := Lib.hid (blk_new wa (.cells #[.int .i64 0, .slice none 0 0] 28))
            have n0 := World.new_ne wa _ t0
            have n1 := World.new_ne wa _ t1
            clear hO hK hN
            go_wp2_with fail
            go_region_held3 (fun w' => w'.cell? ⟨rb, 0, none⟩ = some (.int .i64 n) ∧ w'.cell? ⟨rb, 1, none⟩ = some (.slice aa N cc)) (first | exact ⟨by assumption, by assumption⟩ | go_keep)
              (first
                | (go_at_call 11; (with_reducible refine (copy_any _ ab pb n L1 ?_).mono ?_); exact P3.out.tab.low (Below.refl _ _).drew; rintro e5 w5 ⟨a5, p5, rfl, hT5, ha5, hp5, hs⟩; have BD := Lib.hid ((Below.refl _ wa).drew.trans hs); have u0 := cell_step t0 BD.out; have u1 := cell_step t1 BD.out; have m0 := World.new_ne w5 _ u0; have m1 := World.new_ne w5 _ u1; have T5 := Lib.hid (show TabAt w5 a5 p5 n L1 ∧ wa.heap.size ≤ a5 ∧ wa.heap.size ≤ p5 from ⟨hT5, ha5, hp5⟩); clear hs hT5 ha5 hp5)
                | (go_at_call 11; (with_reducible refine (copy_any _ ab pb n L1 ?_).mono ?_); exact P3.out.tab.low BZ.out.drew; rintro e5 w5 ⟨a5, p5, rfl, hT5, ha5, hp5, hs⟩; have BD := Lib.hid (BZ.out.drew.trans (hs.mono BZ.out.size)); have u0 := cell_step t0 BD.out; have u1 := cell_step t1 BD.out; have T5 := Lib.hid (show TabAt w5 a5 p5 n L1 ∧ wa.heap.size + 1 ≤ a5 ∧ wa.heap.size + 1 ≤ p5 from ⟨hT5, Nat.le_trans (Nat.le_of_eq (alloc_drew_size _ _).symm) ha5, Nat.le_trans (Nat.le_of_eq (alloc_drew_size _ _).symm) hp5⟩); have KZ5 := Lib.hid (blk_step KZ.out ((Below.refl _ _).drew.trans hs)); obtain ⟨q0, q1, q2, q3, -⟩ := two_facts KZ5.out (.int .i64 n) (.slice aa N cc); clear hs hT5 ha5 hp5))
            · obtain ⟨qb, hqb⟩ : ∃ q, w5.heap.size = q := ⟨_, rfl⟩
              have b5 := alloc_below0 w5 (.cells #[.int .i64 n, .slice aa N cc] 28)
              have k5 := blk_new w5 (.cells #[.int .i64 n, .slice aa N cc] 28)
              obtain ⟨w6, hw6⟩ : ∃ W, W = w5.alloc (.cells #[.int .i64 n, .slice aa N cc] 28) := ⟨_, rfl⟩
              rw [← hw6, hqb] at k5
              rw [← hw6] at b5
              rw [← hw6, hqb]
              have P6 := Lib.hid ((P3.out.low BD.out).low b5)
              have C6 := Lib.hid (show Pair w6 a5 p5 n qb L1 us1 kq from ⟨T5.out.1.low b5, ⟨aa, cc, by rw [NN.out]; exact (O3.out.below BD.out).below b5, by rw [NN.out]; exact k5⟩, P3.out.ok, P3.out.small⟩)
              have B5 := Lib.hid (BD.out.trans (b5.mono BD.out.size))
              have LE : wa.heap.size ≤ qb ∧ a5 < qb ∧ p5 < qb := ⟨hqb ▸ BD.out.size, hqb ▸ T5.out.1.ltA, hqb ▸ T5.out.1.ltP⟩
              clear b5 k5 hw6
              have B6 := Lib.hid (B3.out.trans (B5.out.mono B3.out.size))
              have S5 := Lib.hid (show W.heap.size ≤ p5 from by have := T5.out; have := B3.out.size; omega)
              have SQ := Lib.hid (show W.heap.size ≤ qb ∧ ¬ qb = p5 ∧ ¬ qb = a5 ∧ ¬ a5 = qb ∧ ¬ p5 = qb from by have := B3.out.size; omega)
              have GQ := Lib.hid (show ¬ 0 = p5 by have := lt_of_cell G.out; have := S5.out; omega)
              have CR := Lib.hid (show (¬ a5 = pb ∧ ¬ p5 = pb ∧ ¬ qb = pb) ∧ (¬ a5 = rb ∧ ¬ p5 = rb ∧ ¬ qb = rb) from by have := LT.out; have := T5.out; omega)
              have CT := Lib.hid (show (¬ ab = p5 ∧ ¬ pb = p5 ∧ ¬ rb = p5) ∧ (¬ ab = qb ∧ ¬ pb = qb ∧ ¬ rb = qb) from by have := LT.out; have := T5.out; omega)
              clear hqb LE
              clear m0 m1 t0 t1 u0 u1 n0 n1
              have HM := Lib.hid (show kq ≤ m ∧ m ≤ 100 from ⟨HK.out.2.1, HK.out.2.2⟩)
              by_cases hkm : kq = m
              · have HC := Lib.hid hlc
                obtain rfl : m = kq := hkm.symm
                clear hkm
                have i0 : IntKind.i64.wrap ((m : Int) - 1) = (m : Int) - 1 := Go.IntWalk.i64_in _ (by have := HM.out; omega)
                by_cases hck : m = c
                · subst hck
                  go_wp2_with fail
                  go_loopg [68] 0 (fun r i wz => i = .int .i64 0 ∧ wz = w6)
                  case atStart => exact ⟨by go_num, rfl⟩
                  case round =>
                    obtain ⟨rfl, rfl⟩ := hrel
                    go_wp2_with fail
                    go_loopg [17] 0 (fun r i wz => i = .int .i64 ((m : Int) - 1) ∧ wz = wr)
                    case atStart => exact ⟨by go_num, rfl⟩
                    case round =>
                      obtain ⟨rfl, rfl⟩ := hrel
                      have kn : ¬ (m : Int) ≤ (m : Int) - 1 := by omega
                      obtain ⟨a1, c1, hO1, hK1⟩ := P6.out.ref
                      obtain ⟨a2, c2, hO2, hK2⟩ := C6.out.ref
                      have OO := Lib.hid (show _ ∧ _ from ⟨hO1, hO2⟩)
                      have KK := Lib.hid (show _ ∧ _ from ⟨hK1, hK2⟩)
                      have r0 := blk_cell hK1 0
                      have r1 := blk_cell hK1 1
                      have G8 := Lib.hid (Ea.Glob.below B6.out G.out)
                      clear hO1 hO2 hK1 hK2
                      have f1 := same_any ab pb n _ _ _ wr P6.out.tab OO.out.1 P6.out.ok G8.out
                      unfold refT at f1
                      go_wp2_with fail
                      refine f1.mono ?_
                      rintro ev w9 ⟨rfl, hs⟩
                      have C9 := Lib.hid (C6.out.low hs)
                      have B9 := Lib.hid (B6.out.trans (hs.mono B6.out.size))
                      have G9 := Lib.hid (Ea.Glob.below B9.out G.out)
                      have O9 := Lib.hid (OO.out.2.below hs)
                      have s0 := blk_cell (blk_step KK.out.2 hs) 0
                      have s1 := blk_cell (blk_step KK.out.2 hs) 1
                      have f2 := same_any a5 p5 n _ _ _ w9 C9.out.tab O9.out C9.out.ok G9.out
                      unfold refT at f2
                      clear hs r0 r1 f1
                      go_wp2_with fail
                      refine f2.mono ?_
                      rintro ev w10 ⟨rfl, hs⟩
                      have B10 := Lib.hid (B9.out.trans (hs.mono B9.out.size))
                      clear hs s0 s1 f2
                      go_wp2_with fail
                      refine (awakeM _).mono ?_
                      rintro ev w11 ⟨rfl, hs⟩
                      have B11 := Lib.hid (B10.out.trans (hs.mono B10.out.size))
                      clear hs
                      go_wp2
                      go_ret
                      exact ⟨rfl, B11.out⟩
                · skip
                  go_wp2_with fail
                  go_loopg [68] 0 (fun r i wz => i = .int .i64 0 ∧ wz = w6)
                  case atStart => exact ⟨by go_num, rfl⟩
                  case round =>
                    obtain ⟨rfl, rfl⟩ := hrel
                    go_wp2_with fail
                    go_loopg [17] 0 (fun r i wz => i = .int .i64 ((m : Int) - 1) ∧ wz = wr)
                    case atStart => exact ⟨by go_num, rfl⟩
                    case round =>
                      obtain ⟨rfl, rfl⟩ := hrel
                      have kn : ¬ (m : Int) ≤ (m : Int) - 1 := by omega
                      obtain ⟨a1, c1, hO1, hK1⟩ := P6.out.ref
                      obtain ⟨a2, c2, hO2, hK2⟩ := C6.out.ref
                      have OO := Lib.hid (show _ ∧ _ from ⟨hO1, hO2⟩)
                      have KK := Lib.hid (show _ ∧ _ from ⟨hK1, hK2⟩)
                      have r0 := blk_cell hK1 0
                      have r1 := blk_cell hK1 1
                      have G8 := Lib.hid (Ea.Glob.below B6.out G.out)
                      clear hO1 hO2 hK1 hK2
                      have f1 := same_any ab pb n _ _ _ wr P6.out.tab OO.out.1 P6.out.ok G8.out
                      unfold refT at f1
                      go_wp2_with fail
                      refine f1.mono ?_
                      rintro ev w9 ⟨rfl, hs⟩
                      have C9 := Lib.hid (C6.out.low hs)
                      have B9 := Lib.hid (B6.out.trans (hs.mono B6.out.size))
                      have G9 := Lib.hid (Ea.Glob.below B9.out G.out)
                      have O9 := Lib.hid (OO.out.2.below hs)
                      have s0 := blk_cell (blk_step KK.out.2 hs) 0
                      have s1 := blk_cell (blk_step KK.out.2 hs) 1
                      have f2 := same_any a5 p5 n _ _ _ w9 C9.out.tab O9.out C9.out.ok G9.out
                      unfold refT at f2
                      clear hs r0 r1 f1
                      go_wp2_with fail
                      refine f2.mono ?_
                      rintro ev w10 ⟨rfl, hs⟩
                      have B10 := Lib.hid (B9.out.trans (hs.mono B9.out.size))
                      clear hs s0 s1 f2
                      go_wp2_with fail
                      refine (awakeM _).mono ?_
                      rintro ev w11 ⟨rfl, hs⟩
                      have B11 := Lib.hid (B10.out.trans (hs.mono B10.out.size))
                      clear hs
                      go_wp2
                      go_ret
                      exact ⟨rfl, B11.out⟩
              · obtain ⟨b, off, ha⟩ := V.out.addr (by rw [MM.out]; omega)
                subst ha
                have hck : ¬ c = kq := by omega
                go_wp2_with fail
                go_loopg [68] (m - kq) (fun r i wz => ∃ (k : Nat) (us : List Up) (L : List Pg), k + r = m - kq ∧ i = .int .i64 k ∧ Pair wz ab pb n rb L us (kq + k) ∧ Pair wz a5 p5 n qb L1 us1 kq ∧ Below W.heap.size W wz)
                case atStart => exact ⟨0, us1, L1, by omega, by go_num, P6.out, C6.out, B6.out⟩
                case round =>
                  obtain ⟨k, us, L, hk, rfl, hP, hC, hB⟩ := hrel
                  have HK2 := Lib.hid (show k + gk = m - kq ∧ kq ≤ m ∧ m ≤ 100 from ⟨hk, HM.out.1, HM.out.2⟩)
                  by_cases hlt : k < m - kq
                  · obtain ⟨d, hd⟩ : ∃ d, (ds.drop kq)[k]? = some d := ⟨_, List.getElem?_eq_getElem (by rw [List.length_drop, MM.out]; exact hlt)⟩
                    have VD : SV lDo wr (.slice (some ⟨b, off + kq * 7, none⟩) (m - kq) (c - kq)) (ds.drop kq) := (V.out.below hB).dropV (k := kq) (by rw [MM.out]; omega) (by omega)
                    have i1 : IntKind.i64.wrap ((k : Int) + 1) = (k : Int) + 1 := Go.IntWalk.i64_in _ (by omega)
                    have j3 : (0 : Int) ≤ (k : Int) := by omega
                    have j4 : (k : Int) < ((m - kq : Nat) : Int) := by omega
                    obtain ⟨k0, hk0⟩ : ∃ k0, k0 = kq + k := ⟨_, rfl⟩
                    rw [← hk0] at hP
                    have KB := Lib.hid (show k0 ≤ 100 by omega)
                    clear hk
                    obtain ⟨e0, e1, e2, e3, e4, e5, e6⟩ := step_read VD hd
                    have bd := alloc_below0 wr (doObj d.verb d.x d.right d.os d.og d.ns d.ng)
                    have kd := DoAt.new d.verb d.x d.right d.os d.og d.ns d.ng wr
                    obtain ⟨w3, hw3⟩ : ∃ W, W = wr.alloc (doObj d.verb d.x d.right d.os d.og d.ns d.ng) := ⟨_, rfl⟩
                    rw [← hw3] at bd kd
                    unfold doObj at hw3
                    have P3 := Lib.hid (hP.low bd)
                    have C3 := Lib.hid (hC.low bd)
                    have B4 := Lib.hid (hB.trans (bd.mono hB.size))
                    have G3 := Lib.hid (Ea.Glob.below B4.out G.out)
                    obtain ⟨aa, cc, hO, hK⟩ := P3.out.ref
                    have K3 := Lib.hid hK
                    have O3 := Lib.hid hO
                    have t0 := blk_cell K3.out 0
                    have t1 := blk_cell K3.out 1
                    obtain ⟨f0, f1, f2, f3, f4, f5, f6⟩ := kd
                    rw [hw3] at t0 t1 f0 f1 f2 f3 f4 f5 f6
                    have fd := does_any ab pb n L _ us d.verb d.x d.right d.os d.og d.ns d.ng w3 P3.out.tab O3.out P3.out.ok (by have := P3.out.small; have := KB.out; omega) G3.out GP.out
                    unfold refT doVal at fd
                    clear hP hB hd bd VD hO hK hC
                    go_wp2_with fail
                    rw [← hw3]
                    refine fd.mono ?_
                    rintro ev w4 ⟨v4, us4, rfl, hT, hv4, hr4, hl4, hkk⟩
                    unfold refT
                    obtain ⟨N4, hN4⟩ : ∃ N4, us4.length = N4 := ⟨_, rfl⟩
                    obtain ⟨a4, c4, rfl, -, -⟩ := hv4.lenN hN4
                    have K4 := Lib.hid (blk_keep K3.out hkk SR.out.2.1)
                    obtain ⟨cp, hcp⟩ := P3.out.tab.blkP
                    have C4 := Lib.hid (C3.out.keep hkk hcp (by decide) CR.out.1.1 CR.out.1.2.1 CR.out.1.2.2)
                    have B5 := Lib.hid (B4.out.trans (hkk.below (n := W.heap.size) (fun k e => e ▸ S1.out.2) B4.out.size))
                    have Pw := Lib.hid (Pair.write (show TabAt w4 ab pb n (d.step L) from hT) hv4 hN4 hr4 (show N4 ≤ k0 + 1 by have := P3.out.small; omega) K4.out SR.out.2.2.2.1 SR.out.2.2.2.2)
                    have Cw := Lib.hid (C4.out.keep (((Kept.refl (fun k => k = rb) w4).setCell 0 (.int .i64 n)).setCell 1 (.slice a4 N4 c4)) K4.out (by decide) CR.out.2.1 CR.out.2.2.1 CR.out.2.2.2)
                    have Bw := Lib.hid (below_set (below_set B5.out SR.out.1 0 (.int .i64 n)) SR.out.1 1 (.slice a4 N4 c4))
                    obtain ⟨z0, z1, z2, z3, -⟩ := two_facts K4.out (.int .i64 n) (.slice a4 N4 c4)
                    clear hT hv4 hr4 hl4 hkk fd t0 t1 f0 f1 f2 f3 f4 f5 f6 e0 e1 e2 e3 e4 e5 e6 hN4
                    go_wp2
                    go_roundg (m - kq - (k + 1))
                    case measure => have := HK2.out; omega
                    case rel => exact ⟨k + 1, us4, d.step L, by omega, by go_num, by rw [hk0] at Pw; exact Pw.out, Cw.out, Bw.out⟩
                  · have P7 := Lib.hid hP
                    have C7 := Lib.hid hC
                    have B7 := Lib.hid hB
                    have E2 := Lib.hid (show k = m - kq by omega)
                    clear hP hC hB
                    obtain ⟨L7, hL7⟩ : ∃ u, u = L := ⟨_, rfl⟩
                    subst hL7
                    obtain ⟨us7, hu7⟩ : ∃ u, u = us := ⟨_, rfl⟩
                    subst hu7
                    obtain ⟨k7, hk7⟩ : ∃ u, u = k := ⟨_, rfl⟩
                    subst hk7
                    obtain ⟨w70, hw70⟩ : ∃ u, u = wr := ⟨_, rfl⟩
                    subst hw70
                    have i0 : IntKind.i64.wrap ((m : Int) - 1) = (m : Int) - 1 := Go.IntWalk.i64_in _ (by have := HM.out; omega)
                    go_wp2_with fail
                    go_loopg [17] (m - kq) (fun r i wz => ∃ (ji : Int) (k0 : Nat) (us : List Up) (L : List Pg), i = .int .i64 ji ∧ ji = (kq : Int) + r - 1 ∧ k0 + r ≤ 100 ∧ r ≤ m - kq ∧ Pair wz a5 p5 n qb L us k0 ∧ Pair wz ab pb n rb L7 us7 (kq + k7) ∧ Below W.heap.size W wz)
                    case atStart => exact ⟨_, kq, us1, L1, rfl, by have := HM.out; omega, by have := HM.out; omega, Nat.le_refl _, C7.out, P7.out, B7.out⟩
                    case round =>
                      obtain ⟨ji, k0, us, L, rfl, hji, hk0, hr, hC, hP, hB⟩ := hrel
                      have HK3 := Lib.hid (show ji = (kq : Int) + gk - 1 ∧ k0 + gk ≤ 100 ∧ gk ≤ m - kq from ⟨hji, hk0, hr⟩)
                      by_cases hlt : (kq : Int) ≤ ji
                      · obtain ⟨j, rfl⟩ : ∃ j : Nat, ji = j := ⟨ji.toNat, by omega⟩
                        have HJ := Lib.hid (show j < m ∧ m ≤ 100 ∧ 1 ≤ gk ∧ (j : Int) = (kq : Int) + gk - 1 from by have := HM.out; omega)
                        obtain ⟨d, hd⟩ : ∃ d, ds[j]? = some d := ⟨_, List.getElem?_eq_getElem (by rw [MM.out]; exact HJ.out.1)⟩
                        have i1 : IntKind.i64.wrap ((j : Int) - 1) = (j : Int) - 1 := Go.IntWalk.i64_in _ (by have := HJ.out; omega)
                        have j3 : (0 : Int) ≤ (j : Int) := by omega
                        have j4 : (j : Int) < (m : Int) := by have := HJ.out; omega
                        have C3 := Lib.hid hC
                        have P3 := Lib.hid hP
                        have B8 := Lib.hid hB
                        obtain ⟨aa, cc, hO, hK⟩ := C3.out.ref
                        obtain ⟨N, hN⟩ : ∃ N, us.length = N := ⟨_, rfl⟩
                        rw [hN] at hO hK
                        have LN := Lib.hid hN
                        have O3 := Lib.hid hO
                        have K3 := Lib.hid hK
                        have HD := Lib.hid hd
                        have BL := Lib.hid (show b < W.heap.size from lt_of_cell (step_read V.out hd).1)
                        have HS := Lib.hid (show ∀ w', Below W.heap.size W w' → w'.cell? ⟨b, off + j * 7, none⟩ = some (.int .i64 d.verb) ∧ w'.cell? ⟨b, off + j * 7 + 1, none⟩ = some (.int .i64 d.x) ∧ w'.cell? ⟨b, off + j * 7 + 2, none⟩ = some (.bool d.right) ∧ w'.cell? ⟨b, off + j * 7 + 3, none⟩ = some (.int .i64 d.os) ∧ w'.cell? ⟨b, off + j * 7 + 4, none⟩ = some (.int .i64 d.og) ∧ w'.cell? ⟨b, off + j * 7 + 5, none⟩ = some (.int .i64 d.ns) ∧ w'.cell? ⟨b, off + j * 7 + 6, none⟩ = some (.int .i64 d.ng) from fun w' h1 => step_read (V.out.below h1) HD.out)
                        have BD := Lib.hid (below_drew B8.out)
                        have KD := Lib.hid (show wr.drew.heap[qb]? = some (.cells #[.int .i64 n, .slice aa N cc] 28 (0, 0)) from K3.out)
                        have G3 := Lib.hid (Ea.Glob.below BD.out G.out)
                        have SD := Lib.hid (HS.out wr.drew BD.out)
                        have fd := does_any a5 p5 n L _ us d.verb d.x d.right d.os d.og d.ns d.ng wr.drew (C3.out.low (Below.refl _ _).drew).tab (O3.out.below (Below.refl _ _).drew) C3.out.ok (by have := C3.out.small; have := HK3.out; omega) G3.out GQ.out
                        unfold refT doVal at fd
                        clear hji hk0 hr hC hP hB hd hO hK hN
                        go_wp2_with fail
                        refine AnyBut.region (fun w' => w'.cell? ⟨b, off + j * 7, none⟩ = some (.int .i64 d.verb) ∧ w'.cell? ⟨b, off + j * 7 + 1, none⟩ = some (.int .i64 d.x) ∧ w'.cell? ⟨b, off + j * 7 + 2, none⟩ = some (.bool d.right) ∧ w'.cell? ⟨b, off + j * 7 + 3, none⟩ = some (.int .i64 d.os) ∧ w'.cell? ⟨b, off + j * 7 + 4, none⟩ = some (.int .i64 d.og) ∧ w'.cell? ⟨b, off + j * 7 + 5, none⟩ = some (.int .i64 d.ns) ∧ w'.cell? ⟨b, off + j * 7 + 6, none⟩ = some (.int .i64 d.ng)) 10 (by kernel_rfl) ?_
                        refine AnyBut.take (i := 0) (oi := ⟨some 89, _, _, _, _, none⟩) (v := ?vp0) rfl (by kernel_rfl) (by kernel_rfl) (by kernel_rfl) (by kernel_rfl) (fun _ _ _ h => h) (Or.inl ⟨by rfl, ?hyp0⟩) SD.out ?restp0
                        case hyp0 => (intro w hSw; go_simp; try (with_reducible rfl))
                        simp only [Act.put, List.setIfInBounds_toArray, List.set_cons_zero, List.set_cons_succ]
                        refine AnyBut.take (i := 2) (oi := ⟨some 91, _, _, _, _, none⟩) (v := ?vp2) rfl (by kernel_rfl) (by kernel_rfl) (by kernel_rfl) (by kernel_rfl) (fun _ _ _ h => h) (Or.inl ⟨by rfl, ?hyp2⟩) SD.out ?restp2
                        case hyp2 => (intro w hSw; go_simp; try (with_reducible rfl))
                        simp only [Act.put, List.setIfInBounds_toArray, List.set_cons_zero, List.set_cons_succ]
                        refine AnyBut.take (i := 3) (oi := ⟨some 92, _, _, _, _, none⟩) (v := ?vp3) rfl (by kernel_rfl) (by kernel_rfl) (by kernel_rfl) (by kernel_rfl) (fun _ _ _ h => h) (Or.inl ⟨by rfl, ?hyp3⟩) SD.out ?restp3
                        case hyp3 => (intro w hSw; go_simp; try (with_reducible rfl))
                        simp only [Act.put, List.setIfInBounds_toArray, List.set_cons_zero, List.set_cons_succ]
                        refine AnyBut.take (i := 4) (oi := ⟨some 93, _, _, _, _, none⟩) (v := ?vp4) rfl (by kernel_rfl) (by kernel_rfl) (by kernel_rfl) (by kernel_rfl) (fun _ _ _ h => h) (Or.inl ⟨by rfl, ?hyp4⟩) SD.out ?restp4
                        case hyp4 => (intro w hSw; go_simp; try (with_reducible rfl))
                        simp only [Act.put, List.setIfInBounds_toArray, List.set_cons_zero, List.set_cons_succ]
                        refine AnyBut.take (i := 5) (oi := ⟨some 94, _, _, _, _, none⟩) (v := ?vp5) rfl (by kernel_rfl) (by kernel_rfl) (by kernel_rfl) (by kernel_rfl) (fun _ _ _ h => h) (Or.inl ⟨by rfl, ?hyp5⟩) SD.out ?restp5
                        case hyp5 => (intro w hSw; go_simp; try (with_reducible rfl))
                        simp only [Act.put, List.setIfInBounds_toArray, List.set_cons_zero, List.set_cons_succ]
                        have t0 := blk_cell KD.out 0
                        have t1 := blk_cell KD.out 1
                        refine AnyBut.one (i := 1) (o := ⟨some 90, _, _, _, _, none⟩) (by kernel_rfl) rfl (fun K hK => ?_)
                        go_simp
                        refine hK.out _ _ (fun _ => SD.out) ?_
                        clear hK K t0 t1
                        try simp only [Act.put, List.setIfInBounds_toArray, List.set_cons_zero, List.set_cons_succ]
                        refine AnyBut.one (i := 6) (o := ⟨some 95, _, _, _, _, none⟩) (by kernel_rfl) rfl (fun K hK => ?_)
                        go_simp
                        refine fd.mono ?_
                        rintro ev w4 ⟨v4, us4, rfl, hT, hv4, hr4, hl4, hkk⟩
                        unfold refT
                        obtain ⟨N4, hN4⟩ : ∃ N4, us4.length = N4 := ⟨_, rfl⟩
                        obtain ⟨a4, c4, rfl, -, -⟩ := hv4.lenN hN4
                        have K4 := Lib.hid (blk_keep KD.out hkk SQ.out.2.1)
                        obtain ⟨cp, hcp⟩ := (C3.out.low (Below.refl _ _).drew).tab.blkP
                        have P4 := Lib.hid ((P3.out.low (Below.refl _ wr).drew).keep hkk hcp (by decide) CT.out.1.1 CT.out.1.2.1 CT.out.1.2.2)
                        have Pn := Lib.hid (P4.out.keep (((Kept.refl (fun k => k = qb) w4).setCell 0 (.int .i64 n)).setCell 1 (.slice a4 N4 c4)) K4.out (by decide) CT.out.2.1 CT.out.2.2.1 CT.out.2.2.2)
                        have B5 := Lib.hid (BD.out.trans (hkk.below (n := W.heap.size) (fun k e => e ▸ S5.out) BD.out.size))
                        have Cn := Lib.hid (Pair.write (show TabAt w4 a5 p5 n (d.step L) from hT) hv4 hN4 hr4 (show N4 ≤ k0 + 1 by have := C3.out.small; omega) K4.out SQ.out.2.2.2.1 SQ.out.2.2.2.2)
                        have Bn := Lib.hid (below_set (below_set B5.out SQ.out.1 0 (.int .i64 n)) SQ.out.1 1 (.slice a4 N4 c4))
                        have S4 := Lib.hid (HS.out w4 B5.out)
                        clear hT hv4 hr4 hl4 hkk hcp fd hN4
                        simp only
                        refine hK.out _ _ (fun _ => S4.out) ?_
                        clear hK K
                        try simp only [Act.put, List.setIfInBounds_toArray, List.set_cons_zero, List.set_cons_succ]
                        refine AnyBut.take (i := 7) (oi := ⟨some 88, _, _, _, _, none⟩) (v := ?vp7) rfl (by kernel_rfl) (by kernel_rfl) (by kernel_rfl) (by kernel_rfl) (fun _ _ _ h => h) (Or.inl ⟨by rfl, ?hyp7⟩) S4.out ?restp7
                        case hyp7 => (intro w hSw; go_simp; try (with_reducible rfl))
                        simp only [Act.put, List.setIfInBounds_toArray, List.set_cons_zero, List.set_cons_succ]
                        refine AnyBut.take (i := 8) (oi := ⟨some 96, _, _, _, _, none⟩) (v := ?vp8) rfl (by kernel_rfl) (by kernel_rfl) (by kernel_rfl) (by kernel_rfl) (fun _ _ _ h => h) (Or.inl ⟨by rfl, ?hyp8⟩) S4.out ?restp8
                        case hyp8 => (intro w hSw; go_simp; try (with_reducible rfl))
                        simp only [Act.put, List.setIfInBounds_toArray, List.set_cons_zero, List.set_cons_succ]
                        obtain ⟨z0, z1, z2, z3, -⟩ := two_facts K4.out (.int .i64 n) (.slice a4 N4 c4)
                        refine AnyBut.two (i := 9) (j := 10) (o := ⟨some 97, _, _, _, _, none⟩) (u := ⟨none, _, _, _, _, none⟩) (by kernel_rfl) rfl rfl (fun K hK => ?_) (fun K hK => ?_)
                        · go_simp
                          refine hK.out _ _ (fun _ => S4.out) ?_
                          clear hK K
                          try simp only [Act.put, List.setIfInBounds_toArray, List.set_cons_zero, List.set_cons_succ]
                          refine AnyBut.one (i := 10) (o := ⟨none, _, _, _, _, none⟩) (by kernel_rfl) rfl (fun K hK => ?_)
                          go_simp
                          refine hK.out _ _ (fun h => absurd rfl h) ?_
                          clear hK K z0 z1 z2 z3
                          try simp only [Act.put, List.setIfInBounds_toArray, List.set_cons_zero, List.set_cons_succ]
                          refine AnyBut.done (by kernel_rfl) ?_ _
                          go_wp2
                          go_roundg (gk - 1)
                          case measure => have := HJ.out; omega
                          case rel => exact ⟨(j : Int) - 1, k0 + 1, us4, d.step L, by go_num, by have := HJ.out; omega, by have := HJ.out; have := HK3.out; omega, by have := HK3.out; omega, Cn.out, Pn.out, Bn.out⟩
                        · go_simp
                          refine hK.out _ _ (fun h => absurd rfl h) ?_
                          clear hK K z0 z1 z2 z3
                          try simp only [Act.put, List.setIfInBounds_toArray, List.set_cons_zero, List.set_cons_succ]
                          refine AnyBut.one (i := 9) (o := ⟨some 97, _, _, _, _, none⟩) (by kernel_rfl) rfl (fun K hK => ?_)
                          go_simp
                          refine hK.out _ _ (fun _ => HS.out _ Bn.out) ?_
                          clear hK K
                          try simp only [Act.put, List.setIfInBounds_toArray, List.set_cons_zero, List.set_cons_succ]
                          refine AnyBut.done (by kernel_rfl) ?_ _
                          go_wp2
                          go_roundg (gk - 1)
                          case measure => have := HJ.out; omega
                          case rel => exact ⟨(j : Int) - 1, k0 + 1, us4, d.step L, by go_num, by have := HJ.out; omega, by have := HJ.out; have := HK3.out; omega, by have := HK3.out; omega, Cn.out, Pn.out, Bn.out⟩
                      · have C3 := Lib.hid hC
                        have P3 := Lib.hid hP
                        have B8 := Lib.hid hB
                        clear hC hP hB
                        obtain ⟨a1, c1, hO1, hK1⟩ := P3.out.ref
                        obtain ⟨a2, c2, hO2, hK2⟩ := C3.out.ref
                        have OO := Lib.hid (show _ ∧ _ from ⟨hO1, hO2⟩)
                        have KK := Lib.hid (show _ ∧ _ from ⟨hK1, hK2⟩)
                        have r0 := blk_cell hK1 0
                        have r1 := blk_cell hK1 1
                        have G8 := Lib.hid (Ea.Glob.below B8.out G.out)
                        clear hO1 hO2 hK1 hK2
                        have f1 := same_any ab pb n _ _ _ wr P3.out.tab OO.out.1 P3.out.ok G8.out
                        unfold refT at f1
                        go_wp2_with fail
                        refine f1.mono ?_
                        rintro ev w9 ⟨rfl, hs⟩
                        have C9 := Lib.hid (C3.out.low hs)
                        have B9 := Lib.hid (B8.out.trans (hs.mono B8.out.size))
                        have G9 := Lib.hid (Ea.Glob.below B9.out G.out)
                        have O9 := Lib.hid (OO.out.2.below hs)
                        have s0 := blk_cell (blk_step KK.out.2 hs) 0
                        have s1 := blk_cell (blk_step KK.out.2 hs) 1
                        have f2 := same_any a5 p5 n _ _ _ w9 C9.out.tab O9.out C9.out.ok G9.out
                        unfold refT at f2
                        clear hs r0 r1 f1
                        go_wp2_with fail
                        refine f2.mono ?_
                        rintro ev w10 ⟨rfl, hs⟩
                        have B10 := Lib.hid (B9.out.trans (hs.mono B9.out.size))
                        clear hs s0 s1 f2
                        go_wp2_with fail
                        refine (awakeM _).mono ?_
                        rintro ev w11 ⟨rfl, hs⟩
                        have B11 := Lib.hid (B10.out.trans (hs.mono B10.out.size))
                        clear hs
                        go_wp2
                        go_ret
                        exact ⟨rfl, B11.out⟩
            · obtain ⟨qb, hqb⟩ : ∃ q, wa.heap.size = q := ⟨_, rfl⟩
              have kk := ((Kept.refl (fun k => k = qb) w5).setCell 0 (.int .i64 n)).setCell 1 (.slice aa N cc)
              have KQ := KZ5.out
              rw [hqb] at KQ
              have LE : a5 ≥ qb + 1 ∧ p5 ≥ qb + 1 ∧ wa.heap.size = qb := ⟨hqb ▸ T5.out.2.1, hqb ▸ T5.out.2.2, hqb⟩
              have C6 := Pair.write (k := kq) (L := L1) T5.out.1 (O3.out.below BD.out) NN.out P3.out.ok (show N ≤ kq from NN.out ▸ P3.out.small) KQ (by omega) (by omega)
              have B5 := Lib.hid (below_set (below_set BD.out (b := qb) (by omega) 0 (.int .i64 n)) (b := qb) (by omega) 1 (.slice aa N cc))
              obtain ⟨w6, hw6⟩ : ∃ W, W = (w5.setCell ⟨qb, 0, none⟩ (.int .i64 n)).setCell ⟨qb, 1, none⟩ (.slice aa N cc) := ⟨_, rfl⟩
              rw [← hw6] at kk C6 B5
              rw [hqb, ← hw6]
              have P6 := Lib.hid ((P3.out.low BD.out).keep kk KQ (by decide) (by have := LT.out; omega) (by have := LT.out; omega) (by have := LT.out; omega))
              have C6 := Lib.hid C6
              clear kk KQ hw6 q0 q1 q2 q3
              have B6 := Lib.hid (B3.out.trans (B5.out.mono B3.out.size))
              have S5 := Lib.hid (show W.heap.size ≤ p5 from by have := T5.out; have := B3.out.size; omega)
              have SQ := Lib.hid (show W.heap.size ≤ qb ∧ ¬ qb = p5 ∧ ¬ qb = a5 ∧ ¬ a5 = qb ∧ ¬ p5 = qb from by have := B3.out.size; omega)
              have GQ := Lib.hid (show ¬ 0 = p5 by have := lt_of_cell G.out; have := S5.out; omega)
              have CR := Lib.hid (show (¬ a5 = pb ∧ ¬ p5 = pb ∧ ¬ qb = pb) ∧ (¬ a5 = rb ∧ ¬ p5 = rb ∧ ¬ qb = rb) from by have := LT.out; have := T5.out; omega)
              have CT := Lib.hid (show (¬ ab = p5 ∧ ¬ pb = p5 ∧ ¬ rb = p5) ∧ (¬ ab = qb ∧ ¬ pb = qb ∧ ¬ rb = qb) from by have := LT.out; have := T5.out; omega)
              clear hqb LE
              clear t0 t1 u0 u1 n0 n1
              have HM := Lib.hid (show kq ≤ m ∧ m ≤ 100 from ⟨HK.out.2.1, HK.out.2.2⟩)
              by_cases hkm : kq = m
              · have HC := Lib.hid hlc
                obtain rfl : m = kq := hkm.symm
                clear hkm
                have i0 : IntKind.i64.wrap ((m : Int) - 1) = (m : Int) - 1 := Go.IntWalk.i64_in _ (by have := HM.out; omega)
                by_cases hck : m = c
                · subst hck
                  go_wp2_with fail
                  go_loopg [68] 0 (fun r i wz => i = .int .i64 0 ∧ wz = w6)
                  case atStart => exact ⟨by go_num, rfl⟩
                  case round =>
                    obtain ⟨rfl, rfl⟩ := hrel
                    go_wp2_with fail
                    go_loopg [17] 0 (fun r i wz => i = .int .i64 ((m : Int) - 1) ∧ wz = wr)
                    case atStart => exact ⟨by go_num, rfl⟩
                    case round =>
                      obtain ⟨rfl, rfl⟩ := hrel
                      have kn : ¬ (m : Int) ≤ (m : Int) - 1 := by omega
                      obtain ⟨a1, c1, hO1, hK1⟩ := P6.out.ref
                      obtain ⟨a2, c2, hO2, hK2⟩ := C6.out.ref
                      have OO := Lib.hid (show _ ∧ _ from ⟨hO1, hO2⟩)
                      have KK := Lib.hid (show _ ∧ _ from ⟨hK1, hK2⟩)
                      have r0 := blk_cell hK1 0
                      have r1 := blk_cell hK1 1
                      have G8 := Lib.hid (Ea.Glob.below B6.out G.out)
                      clear hO1 hO2 hK1 hK2
                      have f1 := same_any ab pb n _ _ _ wr P6.out.tab OO.out.1 P6.out.ok G8.out
                      unfold refT at f1
                      go_wp2_with fail
                      refine f1.mono ?_
                      rintro ev w9 ⟨rfl, hs⟩
                      have C9 := Lib.hid (C6.out.low hs)
                      have B9 := Lib.hid (B6.out.trans (hs.mono B6.out.size))
                      have G9 := Lib.hid (Ea.Glob.below B9.out G.out)
                      have O9 := Lib.hid (OO.out.2.below hs)
                      have s0 := blk_cell (blk_step KK.out.2 hs) 0
                      have s1 := blk_cell (blk_step KK.out.2 hs) 1
                      have f2 := same_any a5 p5 n _ _ _ w9 C9.out.tab O9.out C9.out.ok G9.out
                      unfold refT at f2
                      clear hs r0 r1 f1
                      go_wp2_with fail
                      refine f2.mono ?_
                      rintro ev w10 ⟨rfl, hs⟩
                      have B10 := Lib.hid (B9.out.trans (hs.mono B9.out.size))
                      clear hs s0 s1 f2
                      go_wp2_with fail
                      refine (awakeM _).mono ?_
                      rintro ev w11 ⟨rfl, hs⟩
                      have B11 := Lib.hid (B10.out.trans (hs.mono B10.out.size))
                      clear hs
                      go_wp2
                      go_ret
                      exact ⟨rfl, B11.out⟩
                · skip
                  go_wp2_with fail
                  go_loopg [68] 0 (fun r i wz => i = .int .i64 0 ∧ wz = w6)
                  case atStart => exact ⟨by go_num, rfl⟩
                  case round =>
                    obtain ⟨rfl, rfl⟩ := hrel
                    go_wp2_with fail
                    go_loopg [17] 0 (fun r i wz => i = .int .i64 ((m : Int) - 1) ∧ wz = wr)
                    case atStart => exact ⟨by go_num, rfl⟩
                    case round =>
                      obtain ⟨rfl, rfl⟩ := hrel
                      have kn : ¬ (m : Int) ≤ (m : Int) - 1 := by omega
                      obtain ⟨a1, c1, hO1, hK1⟩ := P6.out.ref
                      obtain ⟨a2, c2, hO2, hK2⟩ := C6.out.ref
                      have OO := Lib.hid (show _ ∧ _ from ⟨hO1, hO2⟩)
                      have KK := Lib.hid (show _ ∧ _ from ⟨hK1, hK2⟩)
                      have r0 := blk_cell hK1 0
                      have r1 := blk_cell hK1 1
                      have G8 := Lib.hid (Ea.Glob.below B6.out G.out)
                      clear hO1 hO2 hK1 hK2
                      have f1 := same_any ab pb n _ _ _ wr P6.out.tab OO.out.1 P6.out.ok G8.out
                      unfold refT at f1
                      go_wp2_with fail
                      refine f1.mono ?_
                      rintro ev w9 ⟨rfl, hs⟩
                      have C9 := Lib.hid (C6.out.low hs)
                      have B9 := Lib.hid (B6.out.trans (hs.mono B6.out.size))
                      have G9 := Lib.hid (Ea.Glob.below B9.out G.out)
                      have O9 := Lib.hid (OO.out.2.below hs)
                      have s0 := blk_cell (blk_step KK.out.2 hs) 0
                      have s1 := blk_cell (blk_step KK.out.2 hs) 1
                      have f2 := same_any a5 p5 n _ _ _ w9 C9.out.tab O9.out C9.out.ok G9.out
                      unfold refT at f2
                      clear hs r0 r1 f1
                      go_wp2_with fail
                      refine f2.mono ?_
                      rintro ev w10 ⟨rfl, hs⟩
                      have B10 := Lib.hid (B9.out.trans (hs.mono B9.out.size))
                      clear hs s0 s1 f2
                      go_wp2_with fail
                      refine (awakeM _).mono ?_
                      rintro ev w11 ⟨rfl, hs⟩
                      have B11 := Lib.hid (B10.out.trans (hs.mono B10.out.size))
                      clear hs
                      go_wp2
                      go_ret
                      exact ⟨rfl, B11.out⟩
              · obtain ⟨b, off, ha⟩ := V.out.addr (by rw [MM.out]; omega)
                subst ha
                have hck : ¬ c = kq := by omega
                go_wp2_with fail
                go_loopg [68] (m - kq) (fun r i wz => ∃ (k : Nat) (us : List Up) (L : List Pg), k + r = m - kq ∧ i = .int .i64 k ∧ Pair wz ab pb n rb L us (kq + k) ∧ Pair wz a5 p5 n qb L1 us1 kq ∧ Below W.heap.size W wz)
                case atStart => exact ⟨0, us1, L1, by omega, by go_num, P6.out, C6.out, B6.out⟩
                case round =>
                  obtain ⟨k, us, L, hk, rfl, hP, hC, hB⟩ := hrel
                  have HK2 := Lib.hid (show k + gk = m - kq ∧ kq ≤ m ∧ m ≤ 100 from ⟨hk, HM.out.1, HM.out.2⟩)
                  by_cases hlt : k < m - kq
                  · obtain ⟨d, hd⟩ : ∃ d, (ds.drop kq)[k]? = some d := ⟨_, List.getElem?_eq_getElem (by rw [List.length_drop, MM.out]; exact hlt)⟩
                    have VD : SV lDo wr (.slice (some ⟨b, off + kq * 7, none⟩) (m - kq) (c - kq)) (ds.drop kq) := (V.out.below hB).dropV (k := kq) (by rw [MM.out]; omega) (by omega)
                    have i1 : IntKind.i64.wrap ((k : Int) + 1) = (k : Int) + 1 := Go.IntWalk.i64_in _ (by omega)
                    have j3 : (0 : Int) ≤ (k : Int) := by omega
                    have j4 : (k : Int) < ((m - kq : Nat) : Int) := by omega
                    obtain ⟨k0, hk0⟩ : ∃ k0, k0 = kq + k := ⟨_, rfl⟩
                    rw [← hk0] at hP
                    have KB := Lib.hid (show k0 ≤ 100 by omega)
                    clear hk
                    obtain ⟨e0, e1, e2, e3, e4, e5, e6⟩ := step_read VD hd
                    have bd := alloc_below0 wr (doObj d.verb d.x d.right d.os d.og d.ns d.ng)
                    have kd := DoAt.new d.verb d.x d.right d.os d.og d.ns d.ng wr
                    obtain ⟨w3, hw3⟩ : ∃ W, W = wr.alloc (doObj d.verb d.x d.right d.os d.og d.ns d.ng) := ⟨_, rfl⟩
                    rw [← hw3] at bd kd
                    unfold doObj at hw3
                    have P3 := Lib.hid (hP.low bd)
                    have C3 := Lib.hid (hC.low bd)
                    have B4 := Lib.hid (hB.trans (bd.mono hB.size))
                    have G3 := Lib.hid (Ea.Glob.below B4.out G.out)
                    obtain ⟨aa, cc, hO, hK⟩ := P3.out.ref
                    have K3 := Lib.hid hK
                    have O3 := Lib.hid hO
                    have t0 := blk_cell K3.out 0
                    have t1 := blk_cell K3.out 1
                    obtain ⟨f0, f1, f2, f3, f4, f5, f6⟩ := kd
                    rw [hw3] at t0 t1 f0 f1 f2 f3 f4 f5 f6
                    have fd := does_any ab pb n L _ us d.verb d.x d.right d.os d.og d.ns d.ng w3 P3.out.tab O3.out P3.out.ok (by have := P3.out.small; have := KB.out; omega) G3.out GP.out
                    unfold refT doVal at fd
                    clear hP hB hd bd VD hO hK hC
                    go_wp2_with fail
                    rw [← hw3]
                    refine fd.mono ?_
                    rintro ev w4 ⟨v4, us4, rfl, hT, hv4, hr4, hl4, hkk⟩
                    unfold refT
                    obtain ⟨N4, hN4⟩ : ∃ N4, us4.length = N4 := ⟨_, rfl⟩
                    obtain ⟨a4, c4, rfl, -, -⟩ := hv4.lenN hN4
                    have K4 := Lib.hid (blk_keep K3.out hkk SR.out.2.1)
                    obtain ⟨cp, hcp⟩ := P3.out.tab.blkP
                    have C4 := Lib.hid (C3.out.keep hkk hcp (by decide) CR.out.1.1 CR.out.1.2.1 CR.out.1.2.2)
                    have B5 := Lib.hid (B4.out.trans (hkk.below (n := W.heap.size) (fun k e => e ▸ S1.out.2) B4.out.size))
                    have Pw := Lib.hid (Pair.write (show TabAt w4 ab pb n (d.step L) from hT) hv4 hN4 hr4 (show N4 ≤ k0 + 1 by have := P3.out.small; omega) K4.out SR.out.2.2.2.1 SR.out.2.2.2.2)
                    have Cw := Lib.hid (C4.out.keep (((Kept.refl (fun k => k = rb) w4).setCell 0 (.int .i64 n)).setCell 1 (.slice a4 N4 c4)) K4.out (by decide) CR.out.2.1 CR.out.2.2.1 CR.out.2.2.2)
                    have Bw := Lib.hid (below_set (below_set B5.out SR.out.1 0 (.int .i64 n)) SR.out.1 1 (.slice a4 N4 c4))
                    obtain ⟨z0, z1, z2, z3, -⟩ := two_facts K4.out (.int .i64 n) (.slice a4 N4 c4)
                    clear hT hv4 hr4 hl4 hkk fd t0 t1 f0 f1 f2 f3 f4 f5 f6 e0 e1 e2 e3 e4 e5 e6 hN4
                    go_wp2
                    go_roundg (m - kq - (k + 1))
                    case measure => have := HK2.out; omega
                    case rel => exact ⟨k + 1, us4, d.step L, by omega, by go_num, by rw [hk0] at Pw; exact Pw.out, Cw.out, Bw.out⟩
                  · have P7 := Lib.hid hP
                    have C7 := Lib.hid hC
                    have B7 := Lib.hid hB
                    have E2 := Lib.hid (show k = m - kq by omega)
                    clear hP hC hB
                    obtain ⟨L7, hL7⟩ : ∃ u, u = L := ⟨_, rfl⟩
                    subst hL7
                    obtain ⟨us7, hu7⟩ : ∃ u, u = us := ⟨_, rfl⟩
                    subst hu7
                    obtain ⟨k7, hk7⟩ : ∃ u, u = k := ⟨_, rfl⟩
                    subst hk7
                    obtain ⟨w70, hw70⟩ : ∃ u, u = wr := ⟨_, rfl⟩
                    subst hw70
                    have i0 : IntKind.i64.wrap ((m : Int) - 1) = (m : Int) - 1 := Go.IntWalk.i64_in _ (by have := HM.out; omega)
                    go_wp2_with fail
                    go_loopg [17] (m - kq) (fun r i wz => ∃ (ji : Int) (k0 : Nat) (us : List Up) (L : List Pg), i = .int .i64 ji ∧ ji = (kq : Int) + r - 1 ∧ k0 + r ≤ 100 ∧ r ≤ m - kq ∧ Pair wz a5 p5 n qb L us k0 ∧ Pair wz ab pb n rb L7 us7 (kq + k7) ∧ Below W.heap.size W wz)
                    case atStart => exact ⟨_, kq, us1, L1, rfl, by have := HM.out; omega, by have := HM.out; omega, Nat.le_refl _, C7.out, P7.out, B7.out⟩
                    case round =>
                      obtain ⟨ji, k0, us, L, rfl, hji, hk0, hr, hC, hP, hB⟩ := hrel
                      have HK3 := Lib.hid (show ji = (kq : Int) + gk - 1 ∧ k0 + gk ≤ 100 ∧ gk ≤ m - kq from ⟨hji, hk0, hr⟩)
                      by_cases hlt : (kq : Int) ≤ ji
                      · obtain ⟨j, rfl⟩ : ∃ j : Nat, ji = j := ⟨ji.toNat, by omega⟩
                        have HJ := Lib.hid (show j < m ∧ m ≤ 100 ∧ 1 ≤ gk ∧ (j : Int) = (kq : Int) + gk - 1 from by have := HM.out; omega)
                        obtain ⟨d, hd⟩ : ∃ d, ds[j]? = some d := ⟨_, List.getElem?_eq_getElem (by rw [MM.out]; exact HJ.out.1)⟩
                        have i1 : IntKind.i64.wrap ((j : Int) - 1) = (j : Int) - 1 := Go.IntWalk.i64_in _ (by have := HJ.out; omega)
                        have j3 : (0 : Int) ≤ (j : Int) := by omega
                        have j4 : (j : Int) < (m : Int) := by have := HJ.out; omega
                        have C3 := Lib.hid hC
                        have P3 := Lib.hid hP
                        have B8 := Lib.hid hB
                        obtain ⟨aa, cc, hO, hK⟩ := C3.out.ref
                        obtain ⟨N, hN⟩ : ∃ N, us.length = N := ⟨_, rfl⟩
                        rw [hN] at hO hK
                        have LN := Lib.hid hN
                        have O3 := Lib.hid hO
                        have K3 := Lib.hid hK
                        have HD := Lib.hid hd
                        have BL := Lib.hid (show b < W.heap.size from lt_of_cell (step_read V.out hd).1)
                        have HS := Lib.hid (show ∀ w', Below W.heap.size W w' → w'.cell? ⟨b, off + j * 7, none⟩ = some (.int .i64 d.verb) ∧ w'.cell? ⟨b, off + j * 7 + 1, none⟩ = some (.int .i64 d.x) ∧ w'.cell? ⟨b, off + j * 7 + 2, none⟩ = some (.bool d.right) ∧ w'.cell? ⟨b, off + j * 7 + 3, none⟩ = some (.int .i64 d.os) ∧ w'.cell? ⟨b, off + j * 7 + 4, none⟩ = some (.int .i64 d.og) ∧ w'.cell? ⟨b, off + j * 7 + 5, none⟩ = some (.int .i64 d.ns) ∧ w'.cell? ⟨b, off + j * 7 + 6, none⟩ = some (.int .i64 d.ng) from fun w' h1 => step_read (V.out.below h1) HD.out)
                        have BD := Lib.hid (below_drew B8.out)
                        have KD := Lib.hid (show wr.drew.heap[qb]? = some (.cells #[.int .i64 n, .slice aa N cc] 28 (0, 0)) from K3.out)
                        have G3 := Lib.hid (Ea.Glob.below BD.out G.out)
                        have SD := Lib.hid (HS.out wr.drew BD.out)
                        have fd := does_any a5 p5 n L _ us d.verb d.x d.right d.os d.og d.ns d.ng wr.drew (C3.out.low (Below.refl _ _).drew).tab (O3.out.below (Below.refl _ _).drew) C3.out.ok (by have := C3.out.small; have := HK3.out; omega) G3.out GQ.out
                        unfold refT doVal at fd
                        clear hji hk0 hr hC hP hB hd hO hK hN
                        go_wp2_with fail
                        refine AnyBut.region (fun w' => w'.cell? ⟨b, off + j * 7, none⟩ = some (.int .i64 d.verb) ∧ w'.cell? ⟨b, off + j * 7 + 1, none⟩ = some (.int .i64 d.x) ∧ w'.cell? ⟨b, off + j * 7 + 2, none⟩ = some (.bool d.right) ∧ w'.cell? ⟨b, off + j * 7 + 3, none⟩ = some (.int .i64 d.os) ∧ w'.cell? ⟨b, off + j * 7 + 4, none⟩ = some (.int .i64 d.og) ∧ w'.cell? ⟨b, off + j * 7 + 5, none⟩ = some (.int .i64 d.ns) ∧ w'.cell? ⟨b, off + j * 7 + 6, none⟩ = some (.int .i64 d.ng)) 10 (by kernel_rfl) ?_
                        refine AnyBut.take (i := 0) (oi := ⟨some 89, _, _, _, _, none⟩) (v := ?vq0) rfl (by kernel_rfl) (by kernel_rfl) (by kernel_rfl) (by kernel_rfl) (fun _ _ _ h => h) (Or.inl ⟨by rfl, ?hyq0⟩) SD.out ?restq0
                        case hyq0 => (intro w hSw; go_simp; try (with_reducible rfl))
                        simp only [Act.put, List.setIfInBounds_toArray, List.set_cons_zero, List.set_cons_succ]
                        refine AnyBut.take (i := 2) (oi := ⟨some 91, _, _, _, _, none⟩) (v := ?vq2) rfl (by kernel_rfl) (by kernel_rfl) (by kernel_rfl) (by kernel_rfl) (fun _ _ _ h => h) (Or.inl ⟨by rfl, ?hyq2⟩) SD.out ?restq2
                        case hyq2 => (intro w hSw; go_simp; try (with_reducible rfl))
                        simp only [Act.put, List.setIfInBounds_toArray, List.set_cons_zero, List.set_cons_succ]
                        refine AnyBut.take (i := 3) (oi := ⟨some 92, _, _, _, _, none⟩) (v := ?vq3) rfl (by kernel_rfl) (by kernel_rfl) (by kernel_rfl) (by kernel_rfl) (fun _ _ _ h => h) (Or.inl ⟨by rfl, ?hyq3⟩) SD.out ?restq3
                        case hyq3 => (intro w hSw; go_simp; try (with_reducible rfl))
                        simp only [Act.put, List.setIfInBounds_toArray, List.set_cons_zero, List.set_cons_succ]
                        refine AnyBut.take (i := 4) (oi := ⟨some 93, _, _, _, _, none⟩) (v := ?vq4) rfl (by kernel_rfl) (by kernel_rfl) (by kernel_rfl) (by kernel_rfl) (fun _ _ _ h => h) (Or.inl ⟨by rfl, ?hyq4⟩) SD.out ?restq4
                        case hyq4 => (intro w hSw; go_simp; try (with_reducible rfl))
                        simp only [Act.put, List.setIfInBounds_toArray, List.set_cons_zero, List.set_cons_succ]
                        refine AnyBut.take (i := 5) (oi := ⟨some 94, _, _, _, _, none⟩) (v := ?vq5) rfl (by kernel_rfl) (by kernel_rfl) (by kernel_rfl) (by kernel_rfl) (fun _ _ _ h => h) (Or.inl ⟨by rfl, ?hyq5⟩) SD.out ?restq5
                        case hyq5 => (intro w hSw; go_simp; try (with_reducible rfl))
                        simp only [Act.put, List.setIfInBounds_toArray, List.set_cons_zero, List.set_cons_succ]
                        have t0 := blk_cell KD.out 0
                        have t1 := blk_cell KD.out 1
                        refine AnyBut.one (i := 1) (o := ⟨some 90, _, _, _, _, none⟩) (by kernel_rfl) rfl (fun K hK => ?_)
                        go_simp
                        refine hK.out _ _ (fun _ => SD.out) ?_
                        clear hK K t0 t1
                        try simp only [Act.put, List.setIfInBounds_toArray, List.set_cons_zero, List.set_cons_succ]
                        refine AnyBut.one (i := 6) (o := ⟨some 95, _, _, _, _, none⟩) (by kernel_rfl) rfl (fun K hK => ?_)
                        go_simp
                        refine fd.mono ?_
                        rintro ev w4 ⟨v4, us4, rfl, hT, hv4, hr4, hl4, hkk⟩
                        unfold refT
                        obtain ⟨N4, hN4⟩ : ∃ N4, us4.length = N4 := ⟨_, rfl⟩
                        obtain ⟨a4, c4, rfl, -, -⟩ := hv4.lenN hN4
                        have K4 := Lib.hid (blk_keep KD.out hkk SQ.out.2.1)
                        obtain ⟨cp, hcp⟩ := (C3.out.low (Below.refl _ _).drew).tab.blkP
                        have P4 := Lib.hid ((P3.out.low (Below.refl _ wr).drew).keep hkk hcp (by decide) CT.out.1.1 CT.out.1.2.1 CT.out.1.2.2)
                        have Pn := Lib.hid (P4.out.keep (((Kept.refl (fun k => k = qb) w4).setCell 0 (.int .i64 n)).setCell 1 (.slice a4 N4 c4)) K4.out (by decide) CT.out.2.1 CT.out.2.2.1 CT.out.2.2.2)
                        have B5 := Lib.hid (BD.out.trans (hkk.below (n := W.heap.size) (fun k e => e ▸ S5.out) BD.out.size))
                        have Cn := Lib.hid (Pair.write (show TabAt w4 a5 p5 n (d.step L) from hT) hv4 hN4 hr4 (show N4 ≤ k0 + 1 by have := C3.out.small; omega) K4.out SQ.out.2.2.2.1 SQ.out.2.2.2.2)
                        have Bn := Lib.hid (below_set (below_set B5.out SQ.out.1 0 (.int .i64 n)) SQ.out.1 1 (.slice a4 N4 c4))
                        have S4 := Lib.hid (HS.out w4 B5.out)
                        clear hT hv4 hr4 hl4 hkk hcp fd hN4
                        simp only
                        refine hK.out _ _ (fun _ => S4.out) ?_
                        clear hK K
                        try simp only [Act.put, List.setIfInBounds_toArray, List.set_cons_zero, List.set_cons_succ]
                        refine AnyBut.take (i := 7) (oi := ⟨some 88, _, _, _, _, none⟩) (v := ?vq7) rfl (by kernel_rfl) (by kernel_rfl) (by kernel_rfl) (by kernel_rfl) (fun _ _ _ h => h) (Or.inl ⟨by rfl, ?hyq7⟩) S4.out ?restq7
                        case hyq7 => (intro w hSw; go_simp; try (with_reducible rfl))
                        simp only [Act.put, List.setIfInBounds_toArray, List.set_cons_zero, List.set_cons_succ]
                        refine AnyBut.take (i := 8) (oi := ⟨some 96, _, _, _, _, none⟩) (v := ?vq8) rfl (by kernel_rfl) (by kernel_rfl) (by kernel_rfl) (by kernel_rfl) (fun _ _ _ h => h) (Or.inl ⟨by rfl, ?hyq8⟩) S4.out ?restq8
                        case hyq8 => (intro w hSw; go_simp; try (with_reducible rfl))
                        simp only [Act.put, List.setIfInBounds_toArray, List.set_cons_zero, List.set_cons_succ]
                        obtain ⟨z0, z1, z2, z3, -⟩ := two_facts K4.out (.int .i64 n) (.slice a4 N4 c4)
                        refine AnyBut.two (i := 9) (j := 10) (o := ⟨some 97, _, _, _, _, none⟩) (u := ⟨none, _, _, _, _, none⟩) (by kernel_rfl) rfl rfl (fun K hK => ?_) (fun K hK => ?_)
                        · go_simp
                          refine hK.out _ _ (fun _ => S4.out) ?_
                          clear hK K
                          try simp only [Act.put, List.setIfInBounds_toArray, List.set_cons_zero, List.set_cons_succ]
                          refine AnyBut.one (i := 10) (o := ⟨none, _, _, _, _, none⟩) (by kernel_rfl) rfl (fun K hK => ?_)
                          go_simp
                          refine hK.out _ _ (fun h => absurd rfl h) ?_
                          clear hK K z0 z1 z2 z3
                          try simp only [Act.put, List.setIfInBounds_toArray, List.set_cons_zero, List.set_cons_succ]
                          refine AnyBut.done (by kernel_rfl) ?_ _
                          go_wp2
                          go_roundg (gk - 1)
                          case measure => have := HJ.out; omega
                          case rel => exact ⟨(j : Int) - 1, k0 + 1, us4, d.step L, by go_num, by have := HJ.out; omega, by have := HJ.out; have := HK3.out; omega, by have := HK3.out; omega, Cn.out, Pn.out, Bn.out⟩
                        · go_simp
                          refine hK.out _ _ (fun h => absurd rfl h) ?_
                          clear hK K z0 z1 z2 z3
                          try simp only [Act.put, List.setIfInBounds_toArray, List.set_cons_zero, List.set_cons_succ]
                          refine AnyBut.one (i := 9) (o := ⟨some 97, _, _, _, _, none⟩) (by kernel_rfl) rfl (fun K hK => ?_)
                          go_simp
                          refine hK.out _ _ (fun _ => HS.out _ Bn.out) ?_
                          clear hK K
                          try simp only [Act.put, List.setIfInBounds_toArray, List.set_cons_zero, List.set_cons_succ]
                          refine AnyBut.done (by kernel_rfl) ?_ _
                          go_wp2
                          go_roundg (gk - 1)
                          case measure => have := HJ.out; omega
                          case rel => exact ⟨(j : Int) - 1, k0 + 1, us4, d.step L, by go_num, by have := HJ.out; omega, by have := HJ.out; have := HK3.out; omega, by have := HK3.out; omega, Cn.out, Pn.out, Bn.out⟩
                      · have C3 := Lib.hid hC
                        have P3 := Lib.hid hP
                        have B8 := Lib.hid hB
                        clear hC hP hB
                        obtain ⟨a1, c1, hO1, hK1⟩ := P3.out.ref
                        obtain ⟨a2, c2, hO2, hK2⟩ := C3.out.ref
                        have OO := Lib.hid (show _ ∧ _ from ⟨hO1, hO2⟩)
                        have KK := Lib.hid (show _ ∧ _ from ⟨hK1, hK2⟩)
                        have r0 := blk_cell hK1 0
                        have r1 := blk_cell hK1 1
                        have G8 := Lib.hid (Ea.Glob.below B8.out G.out)
                        clear hO1 hO2 hK1 hK2
                        have f1 := same_any ab pb n _ _ _ wr P3.out.tab OO.out.1 P3.out.ok G8.out
                        unfold refT at f1
                        go_wp2_with fail
                        refine f1.mono ?_
                        rintro ev w9 ⟨rfl, hs⟩
                        have C9 := Lib.hid (C3.out.low hs)
                        have B9 := Lib.hid (B8.out.trans (hs.mono B8.out.size))
                        have G9 := Lib.hid (Ea.Glob.below B9.out G.out)
                        have O9 := Lib.hid (OO.out.2.below hs)
                        have s0 := blk_cell (blk_step KK.out.2 hs) 0
                        have s1 := blk_cell (blk_step KK.out.2 hs) 1
                        have f2 := same_any a5 p5 n _ _ _ w9 C9.out.tab O9.out C9.out.ok G9.out
                        unfold refT at f2
                        clear hs r0 r1 f1
                        go_wp2_with fail
                        refine f2.mono ?_
                        rintro ev w10 ⟨rfl, hs⟩
                        have B10 := Lib.hid (B9.out.trans (hs.mono B9.out.size))
                        clear hs s0 s1 f2
                        go_wp2_with fail
                        refine (awakeM _).mono ?_
                        rintro ev w11 ⟨rfl, hs⟩
                        have B11 := Lib.hid (B10.out.trans (hs.mono B10.out.size))
                        clear hs
                        go_wp2
                        go_ret
                        exact ⟨rfl, B11.out⟩
end Go.Proofs.YtfdgfonffocenaaDoor
