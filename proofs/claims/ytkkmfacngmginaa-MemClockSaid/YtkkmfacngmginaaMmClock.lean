/- The walk of the law MemClock. -/
import Derived.Test.YtkkmfacngmginaaMmFew
import Derived.Test.YtkkmfacngmginaaEpRg
namespace Go.Proofs.Ytkkmfacngmginaa
open Go.RowKit

set_option maxRecDepth 100000 in
set_option maxHeartbeats 8000000 in
theorem lawClock (l : Lim) (v : Value) (ds : List DM) (w : World) (hv : SV lDm w v ds) : Calls Try.prog 6 #[limV l, v] w fun ev w' => ev = .returned (.bool true) ∧ Below w.heap.size w w' := by
  have V := Lib.hid hv
  have B0 := Lib.hid (alloc_below0 w (limObj l))
  have L0 := Lib.hid (LimAt.new w l)
  have ff := fun w h => few_any l v ds w h
  have fr := fun w => rRight_any l w
  have x0 := L0.out.c0
  have x1 := L0.out.c1
  have x2 := L0.out.c2
  have x3 := L0.out.c3
  have x4 := L0.out.c4
  have x5 := L0.out.c5
  obtain ⟨a, c, rfl, hlc, hcm⟩ := hv.lenform
  obtain ⟨n, hn⟩ : ∃ n, ds.length = n := ⟨_, rfl⟩
  have LN := Lib.hid hn
  rw [hn] at V hlc ff ⊢
  unfold maxLen at hcm
  clear hv hn
  unfold limV at ff fr ⊢
  unfold limObj at B0 L0 x0 x1 x2 x3 x4 x5
  go_enter Try.func6, Try.ntmps6
  go_wp2_with fail
  refine (ff _ (V.out.below B0.out)).mono ?_
  rintro ev w1 ⟨b, rfl, hs⟩
  have L1 := Lib.hid (L0.out.step hs)
  have B1 := Lib.hid (B0.out.trans (hs.mono B0.out.size))
  clear hs x0 x1 x2 x3 x4 x5 ff
  have x0 := L1.out.c0
  have x1 := L1.out.c1
  have x2 := L1.out.c2
  have x3 := L1.out.c3
  have x4 := L1.out.c4
  have x5 := L1.out.c5
  cases b with
  | false =>
    go_wp2_with fail
    refine (awakeMm _).mono ?_
    rintro ev w2 ⟨rfl, hs⟩
    have B2 := Lib.hid (B1.out.trans (hs.mono B1.out.size))
    clear hs
    go_wp2
    go_ret
    exact ⟨rfl, B2.out⟩
  | true =>
    go_wp2_with fail
    refine (fr _).mono ?_
    rintro ev w2 ⟨rfl, hs⟩
    have L2 := Lib.hid (L1.out.step hs)
    have B2 := Lib.hid (B1.out.trans (hs.mono B1.out.size))
    clear hs x0 x1 x2 x3 x4 x5 fr
    cases hok : l.okB with
    | false =>
      go_wp2_with fail
      refine (awakeMm _).mono ?_
      rintro ev w3 ⟨rfl, hs⟩
      have B3 := Lib.hid (B2.out.trans (hs.mono B2.out.size))
      clear hs
      go_wp2
      go_ret
      exact ⟨rfl, B3.out⟩
    | true =>
      obtain ⟨ln, rfl, hln⟩ := Lim.ok_of hok
      have OK := Lib.hid hln
      have x0 := L2.out.c0
      have x1 := L2.out.c1
      have x2 := L2.out.c2
      have x3 := L2.out.c3
      have x4 := L2.out.c4
      have x5 := L2.out.c5
      unfold LimN.z at x0 x1 x2 x3 x4 x5 ⊢
      simp only at x0 x1 x2 x3 x4 x5 ⊢
      have fn := fun w => mem_new ln OK.out w
      unfold limV LimN.z at fn
      clear hok hln L0 L1 B0 B1
      go_wp2_with fail
      refine (fn _).mono ?_
      rintro ev w3 ⟨m, S, rfl, hM, hF, hs⟩
      have M3 := Lib.hid hM
      have F3 := Lib.hid hF
      have L3 := Lib.hid (L2.out.step hs)
      have B3 := Lib.hid (B2.out.trans (hs.mono B2.out.size))
      have Z3 := Lib.hid (show w.heap.size + 1 ≤ w3.heap.size by have := lt_of_cell L3.out.c0; omega)
      clear hM hF hs fn x0 x1 x2 x3 x4 x5
      have x2 := L3.out.c2
      have x5 := L3.out.c5
      unfold LimN.z at x2 x5
      simp only at x2 x5
      have FW := Lib.hid (show ∀ k, MS m S k → w.heap.size ≤ k from fun k h => Nat.le_trans B2.out.size (F3.out k h))
      have FL := Lib.hid (show ∀ k, CM m k → w.heap.size ≤ k from fun k h => FW.out k (CM.ms k h))
      have KM := Lib.hid (show Ck.may (ln.t : Int) (ln.c : Int) by have := OK.out.t1; have := OK.out.t2; have := OK.out.c1; have := OK.out.c2; unfold Ck.may; omega)
      go_wp2_with fail
      refine (rf_new ln.t ln.c _ KM.out).mono ?_
      rintro ev w4 ⟨rv, rfl, ho, hs⟩
      have M4 := Lib.hid (M3.out.low hs)
      have B4 := Lib.hid (B3.out.trans (hs.mono B3.out.size))
      have O4 := Lib.hid (ho.mono (Nat.zero_le _))
      have Z4 := Lib.hid (show w.heap.size + 1 ≤ w4.heap.size from Nat.le_trans Z3.out hs.size)
      obtain ⟨ra, rc, rfl, -, -⟩ := ho.sv.lenform
      clear hs ho x2 x5
      generalize Ck.new ln.t (ln.c : Int) = ck at *
      unfold refC
      have b5 := alloc_below0 w4 (refO ck.n ck.l (.slice ra ck.L.length rc))
      have M5 := Lib.hid (M4.out.low b5)
      have B5 := Lib.hid (B4.out.trans (b5.mono B4.out.size))
      have O5 := Lib.hid (O4.out.below b5)
      have K5 := Lib.hid (blk_new w4 (refO ck.n ck.l (.slice ra ck.L.length rc)))
      clear b5
      unfold refO at M5 B5 O5 K5
      go_wp2_with fail
      have F4 := Lib.hid (show ∀ j, MS m S j → j < w4.heap.size from M4.out.lt)
      go_loopg [47] n (fun g i wr => ∃ (k : Nat) (ck : Ck) (rv : Value) (kk : Int), k + g = n ∧ i = .int .i64 k ∧ MemAt wr m S ln kk psB (pgs1 ln.p) ck ∧ OwnS lInt 0 wr rv ck.L ∧ wr.heap[w4.heap.size]? = some (.cells #[.int .i64 ck.n, .int .i64 ck.l, rv] 89 (0, 0)) ∧ Below w.heap.size w wr)
      case atStart => exact ⟨0, ck, _, 0, by omega, rfl, M5.out, O5.out, K5.out, B5.out⟩
      case round =>
        clear M5 O5 K5 M4 O4 B4 M3 L3
        obtain ⟨k, ck, rv, kk, hk, rfl, hM, hO, hK, hB⟩ := hrel
        have MR := Lib.hid hM
        have OR := Lib.hid hO
        have KR := Lib.hid hK
        have BR := Lib.hid hB
        have HK := Lib.hid hk
        obtain ⟨ra, rc, rfl, -, -⟩ := hO.sv.lenform
        clear hO hK hB
        have MO := Lib.hid hM.ck.ok
        clear hM
        skip
        by_cases hlt : k < n
        · have VA := Lib.hid (V.out.below (BR.out.mono (Nat.le_refl _)))
          obtain ⟨b, off, ha⟩ := VA.out.addr (by rw [LN.out]; omega)
          subst ha
          obtain ⟨d, hx⟩ : ∃ d, ds[k]? = some d := ⟨_, List.getElem?_eq_getElem (by rw [LN.out]; exact hlt)⟩
          have hrng : wr.rangeAt b (off + k * 23) d.cells := fun j v hj => VA.out.cellAt (j := j) hx hj
          have i1 : IntKind.i64.wrap ((k : Int) + 1) = (k : Int) + 1 := Go.IntWalk.i64_in _ (by omega)
          clear hx
          go_upto_region 10 with (first
              | (refine wpList_load_mid rfl 52 (.tmp 49) rfl b (off + k * 23) rfl d.cells _ hrng Try.underlying52 rfl (by kernel_rfl) ?_)
              | (refine wpList_store_mid rfl 52 (.tmp 10) (.tmp 50) rfl wr.heap.size 0 d.cells.toArray rfl rfl (there_new wr _ _) (by kernel_rfl) (all_oneCell_toArray d.cells_one) ?_
                 generalize hw2 : World.setCells _ _ _ _ = w2
                 have hq := Lib.hid (show Below wr.heap.size wr w2 ∧ w2.heap[wr.heap.size]? = some (dmObj d) by rw [← hw2]; exact dm_put wr _ d rfl)
                 clear hw2 hrng))
          have D2 := Lib.hid (DmAt.mk hq.out.2)
          have M2 := Lib.hid (MR.out.low hq.out.1)
          have O2 := Lib.hid (OR.out.below hq.out.1)
          have K2 := Lib.hid (blk_step KR.out hq.out.1)
          have B2 := Lib.hid (BR.out.trans (hq.out.1.mono BR.out.size))
          have Z2 := Lib.hid (show wr.heap.size < w2.heap.size from D2.out.lt)
          clear hq MR OR KR VA
          have z0 := D2.out.c0
          by_cases h8 : d.verb = 8
          · have e8 := h8
            go_wp2_with fail
            refine (mBump_any _ m S ln kk _ _ ck M2.out).mono ?_
            rintro ev w6 ⟨ve, rfl, ⟨kk6, hM⟩, hk⟩
            have M6 := Lib.hid hM
            have O6 := Lib.hid (O2.out.kept hk (M2.out.offO O2.out (by decide) (by decide)))
            have K6 := Lib.hid ((hk.block _ (Array.getElem?_eq_some_iff.1 K2.out).1 (M2.out.offC K2.out (by decide) (by decide))).trans K2.out)
            have D6 := Lib.hid (D2.out.keep hk (M2.out.offC D2.out.blk (by decide) (by decide)))
            have B6 := Lib.hid (B2.out.trans (hk.below FL.out B2.out.size))
            have k0 := blk_cell K6.out 0
            have k1 := blk_cell K6.out 1
            have k2 := blk_cell K6.out 2
            skip
            clear hM hk z0
            try clear z1 z2
            have fx := fun w h => rf_bump ck (.slice ra ck.L.length rc) w MO.out h
            unfold refC at fx
            go_wp2_with fail
            refine (fx _ O6.out).mono ?_
            rintro ev w7 ⟨rfl, hs⟩
            have O7 := Lib.hid (show OwnS lInt 0 w7 (.slice ra ck.L.length rc) (ck.bump).L by rw [show (ck.bump).L = ck.L from by unfold Ck.bump; split <;> rfl]; exact O6.out.below hs)
            have M7 := Lib.hid (M6.out.low hs)
            have K7 := Lib.hid (blk_step K6.out hs)
            have B7 := Lib.hid (B6.out.trans (hs.mono B6.out.size))
            clear hs k0 k1 k2 fx
            try clear z1 z2
            obtain ⟨q0, q1, q2, q3, q4, q5, q6⟩ := three_facts K7.out (.int .i64 (ck.bump).n) (.int .i64 (ck.bump).l) (.slice ra ck.L.length rc)
            have K8 := Lib.hid q6
            clear q6
            have hkk : Kept (fun k => k = w4.heap.size) w7 (((w7.setCell ⟨w4.heap.size, 0, none⟩ (.int .i64 (ck.bump).n)).setCell ⟨w4.heap.size, 1, none⟩ (.int .i64 (ck.bump).l)).setCell ⟨w4.heap.size, 2, none⟩ (.slice ra ck.L.length rc)) := (((Kept.refl _ w7).setCell _ _).setCell _ _).setCell _ _
            have M8 := Lib.hid (M7.out.keep hkk (fun j hj hs => by have := F4.out j hj; omega))
            have O8 := Lib.hid (O7.out.kept hkk (fun a n c hv hs => (O7.out.neBlk K7.out (by decide)) a.block (by rw [hv]; rfl) hs))
            have B8 := Lib.hid (B7.out.trans (hkk.below (fun j hj => by have := Z4.out; omega) B7.out.size))
            clear hkk
            go_wp2_with fail
            go_roundg (n - (k + 1))
            case measure => have := HK.out; omega
            case rel => exact ⟨k + 1, ck.bump, _, _, by omega, by go_num, M8.out, O8.out, K8.out, B8.out⟩
          · by_cases h9 : d.verb = 9
            · have e9 := h9
              have z1 := D2.out.c1
              have z2 := D2.out.c2
              go_wp2_with fail
              refine (mEnter_any _ m S ln kk _ _ ck d.n d.at_ M2.out).mono ?_
              rintro ev w6 ⟨ve, rfl, ⟨kk6, hM⟩, hk⟩
              have M6 := Lib.hid hM
              have O6 := Lib.hid (O2.out.kept hk (M2.out.offO O2.out (by decide) (by decide)))
              have K6 := Lib.hid ((hk.block _ (Array.getElem?_eq_some_iff.1 K2.out).1 (M2.out.offC K2.out (by decide) (by decide))).trans K2.out)
              have D6 := Lib.hid (D2.out.keep hk (M2.out.offC D2.out.blk (by decide) (by decide)))
              have B6 := Lib.hid (B2.out.trans (hk.below FL.out B2.out.size))
              have k0 := blk_cell K6.out 0
              have k1 := blk_cell K6.out 1
              have k2 := blk_cell K6.out 2
              skip
              clear hM hk z0
              try clear z1 z2
              have z1 := D6.out.c1
              have z2 := D6.out.c2
              have fx := fun w h => rf_enter ck (.slice ra ck.L.length rc) d.n d.at_ w MO.out h
              unfold refC at fx
              go_wp2_with fail
              refine (fx _ O6.out).mono ?_
              rintro ev w7 ⟨rv7, rfl, ho, hs⟩
              have O7 := Lib.hid ho
              obtain ⟨ra7, rc7, rfl, -, -⟩ := ho.sv.lenform
              clear ho
              have M7 := Lib.hid (M6.out.low hs)
              have K7 := Lib.hid (blk_step K6.out hs)
              have B7 := Lib.hid (B6.out.trans (hs.mono B6.out.size))
              clear hs k0 k1 k2 fx
              try clear z1 z2
              obtain ⟨q0, q1, q2, q3, q4, q5, q6⟩ := three_facts K7.out (.int .i64 (ck.enter d.n d.at_).n) (.int .i64 (ck.enter d.n d.at_).l) (.slice ra7 (ck.enter d.n d.at_).L.length rc7)
              have K8 := Lib.hid q6
              clear q6
              have hkk : Kept (fun k => k = w4.heap.size) w7 (((w7.setCell ⟨w4.heap.size, 0, none⟩ (.int .i64 (ck.enter d.n d.at_).n)).setCell ⟨w4.heap.size, 1, none⟩ (.int .i64 (ck.enter d.n d.at_).l)).setCell ⟨w4.heap.size, 2, none⟩ (.slice ra7 (ck.enter d.n d.at_).L.length rc7)) := (((Kept.refl _ w7).setCell _ _).setCell _ _).setCell _ _
              have M8 := Lib.hid (M7.out.keep hkk (fun j hj hs => by have := F4.out j hj; omega))
              have O8 := Lib.hid (O7.out.kept hkk (fun a n c hv hs => (O7.out.neBlk K7.out (by decide)) a.block (by rw [hv]; rfl) hs))
              have B8 := Lib.hid (B7.out.trans (hkk.below (fun j hj => by have := Z4.out; omega) B7.out.size))
              clear hkk
              go_wp2_with fail
              go_roundg (n - (k + 1))
              case measure => have := HK.out; omega
              case rel => exact ⟨k + 1, ck.enter d.n d.at_, _, _, by omega, by go_num, M8.out, O8.out, K8.out, B8.out⟩
            · by_cases h10 : d.verb = 10
              · have e10 := h10
                have z1 := D2.out.c1
                have z2 := D2.out.c2
                go_wp2_with fail
                refine (mLeave_any _ m S ln kk _ _ ck d.n M2.out).mono ?_
                rintro ev w6 ⟨ve, rfl, ⟨kk6, hM⟩, hk⟩
                have M6 := Lib.hid hM
                have O6 := Lib.hid (O2.out.kept hk (M2.out.offO O2.out (by decide) (by decide)))
                have K6 := Lib.hid ((hk.block _ (Array.getElem?_eq_some_iff.1 K2.out).1 (M2.out.offC K2.out (by decide) (by decide))).trans K2.out)
                have D6 := Lib.hid (D2.out.keep hk (M2.out.offC D2.out.blk (by decide) (by decide)))
                have B6 := Lib.hid (B2.out.trans (hk.below FL.out B2.out.size))
                have k0 := blk_cell K6.out 0
                have k1 := blk_cell K6.out 1
                have k2 := blk_cell K6.out 2
                skip
                clear hM hk z0
                try clear z1 z2
                have z1 := D6.out.c1
                have z2 := D6.out.c2
                have fx := fun w h => rf_leave ck (.slice ra ck.L.length rc) d.n w MO.out h
                unfold refC at fx
                go_wp2_with fail
                refine (fx _ O6.out).mono ?_
                rintro ev w7 ⟨rv7, rfl, ho, hs⟩
                have O7 := Lib.hid ho
                obtain ⟨ra7, rc7, rfl, -, -⟩ := ho.sv.lenform
                clear ho
                have M7 := Lib.hid (M6.out.low hs)
                have K7 := Lib.hid (blk_step K6.out hs)
                have B7 := Lib.hid (B6.out.trans (hs.mono B6.out.size))
                clear hs k0 k1 k2 fx
                try clear z1 z2
                obtain ⟨q0, q1, q2, q3, q4, q5, q6⟩ := three_facts K7.out (.int .i64 (ck.leave d.n).n) (.int .i64 (ck.leave d.n).l) (.slice ra7 (ck.leave d.n).L.length rc7)
                have K8 := Lib.hid q6
                clear q6
                have hkk : Kept (fun k => k = w4.heap.size) w7 (((w7.setCell ⟨w4.heap.size, 0, none⟩ (.int .i64 (ck.leave d.n).n)).setCell ⟨w4.heap.size, 1, none⟩ (.int .i64 (ck.leave d.n).l)).setCell ⟨w4.heap.size, 2, none⟩ (.slice ra7 (ck.leave d.n).L.length rc7)) := (((Kept.refl _ w7).setCell _ _).setCell _ _).setCell _ _
                have M8 := Lib.hid (M7.out.keep hkk (fun j hj hs => by have := F4.out j hj; omega))
                have O8 := Lib.hid (O7.out.kept hkk (fun a n c hv hs => (O7.out.neBlk K7.out (by decide)) a.block (by rw [hv]; rfl) hs))
                have B8 := Lib.hid (B7.out.trans (hkk.below (fun j hj => by have := Z4.out; omega) B7.out.size))
                clear hkk
                go_wp2_with fail
                go_roundg (n - (k + 1))
                case measure => have := HK.out; omega
                case rel => exact ⟨k + 1, ck.leave d.n, _, _, by omega, by go_num, M8.out, O8.out, K8.out, B8.out⟩
              · go_wp2_with fail
                go_roundg (n - (k + 1))
                case measure => have := HK.out; omega
                case rel => exact ⟨k + 1, ck, _, _, by omega, by go_num, M2.out, O2.out, K2.out, B2.out⟩
        · obtain rfl : k = n := by omega
          obtain ⟨wm, hwm⟩ : ∃ x, x = wr := ⟨_, rfl⟩
          subst hwm
          have hpos := MO.out.t1
          have htm := MO.out.tm
          obtain ⟨rb, ro, hra⟩ := OR.out.sv.addr (by omega)
          subst hra
          obtain ⟨N, hN⟩ : ∃ N, ck.L.length = N := ⟨_, rfl⟩
          have HN := Lib.hid hN
          rw [hN] at OR KR hpos htm
          clear hN
          have y2 := blk_cell KR.out 2
          have y2 : wm.cell? ⟨w4.heap.size, 2, none⟩ = some (.slice (some ⟨rb, ro, none⟩) N rc) := blk_cell KR.out 2
          go_wp2_with fail
          go_loopg [97] N (fun g i w' => ∃ (j : Nat) (k2 : Int), j + g = N ∧ i = .int .i64 j ∧ MemAt w' m S ln k2 psB (pgs1 ln.p) ck ∧ OwnS lInt 0 w' (.slice (some ⟨rb, ro, none⟩) N rc) ck.L ∧ w'.heap[w4.heap.size]? = some (.cells #[.int .i64 ck.n, .int .i64 ck.l, .slice (some ⟨rb, ro, none⟩) N rc] 89 (0, 0)) ∧ Below w.heap.size w w')
          case atStart => exact ⟨0, kk, by omega, rfl, MR.out, OR.out, KR.out, BR.out⟩
          case round =>
            clear MR OR KR BR y2
            obtain ⟨j, k2, hj, rfl, hM, hO, hK, hB⟩ := hrel
            have M2 := Lib.hid hM
            have O2 := Lib.hid hO
            have K2 := Lib.hid hK
            have B2 := Lib.hid hB
            have HJ := Lib.hid hj
            clear hM hK hB
            by_cases hjn : j < N
            · obtain ⟨x, hx⟩ : ∃ x, ck.L[j]? = some x := ⟨_, List.getElem?_eq_getElem (by rw [HN.out]; exact hjn)⟩
              have c0 := hO.sv.cellAt (i := j) (j := 0) hx rfl
              have ha := atL_get hx
              have XA := Lib.hid (show ck.atE (j : Int) = 0 by unfold Ck.atE; rw [if_neg (fun h => by unfold Ck.out at h; rw [HN.out] at h; omega)])
              simp only [lInt, Nat.mul_one, Nat.add_zero] at c0
              have HA := Lib.hid ha
              have j3 : (0 : Int) ≤ (j : Int) := by omega
              have j4 : (j : Int) < (N : Int) := by omega
              have i1 : IntKind.i64.wrap ((j : Int) + 1) = (j : Int) + 1 := Go.IntWalk.i64_in _ (by omega)
              clear hO hx ha
              have fA := fun w h => mAt_any w m S ln k2 psB (pgs1 ln.p) ck (j : Int) h
              rw [HA.out] at fA
              go_wp2_with fail
              refine (fA _ M2.out).mono ?_
              rintro ev w6 ⟨ve, rfl, he, ⟨k3, hM⟩, hk⟩
              rw [XA.out] at he
              obtain rfl : ve = .nilIface := by
                rcases he with ⟨-, h⟩ | ⟨h, -⟩
                · exact h
                · exact absurd rfl h
              have M6 := Lib.hid hM
              have O6 := Lib.hid (O2.out.kept hk (M2.out.offO O2.out (by decide) (by decide)))
              have K6 := Lib.hid ((hk.block _ (Array.getElem?_eq_some_iff.1 K2.out).1 (M2.out.offC K2.out (by decide) (by decide))).trans K2.out)
              have B6 := Lib.hid (B2.out.trans (hk.below FL.out B2.out.size))
              clear hM hk he fA c0
              by_cases hx0 : 0 < x
              · go_wp2
                go_roundg (N - (j + 1))
                case measure => have := HJ.out; omega
                case rel => exact ⟨j + 1, k3, by omega, by go_num, M6.out, O6.out, K6.out, B6.out⟩
              · go_wp2
                go_roundg (N - (j + 1))
                case measure => have := HJ.out; omega
                case rel => exact ⟨j + 1, k3, by omega, by go_num, M6.out, O6.out, K6.out, B6.out⟩
            · obtain rfl : j = N := by omega
              have e0 : wr.cell? ⟨w4.heap.size, 0, none⟩ = some (.int .i64 ck.n) := blk_cell K2.out 0
              clear hO
              go_wp2_with fail
              go_region_held3 (fun w' => w'.cell? ⟨w4.heap.size, 0, none⟩ = some (.int .i64 ck.n)) (first | assumption | go_keep)
                (first
                  | (go_at_call 29; (with_reducible refine (mNow_any _ m S ln k2 psB (pgs1 ln.p) ck ?_).mono ?_); exact M2.out.low (Below.refl _ _).drew; rintro e6 w6 ⟨rfl, ⟨k3, hM⟩, hk⟩; have B6 := Lib.hid ((B2.out.drew).trans (hk.below FL.out B2.out.size)); have y0 := hk.cell ((M2.out.low (Below.refl _ wr).drew).offC (blk_step K2.out (Below.refl _ wr).drew) (by decide) (by decide)) (cell_step e0 (Below.refl _ wr).drew); clear hM hk)
                  | (go_at_call 15; (with_reducible refine (awakeMm _).mono ?_); rintro e7 w7 ⟨rfl, hs⟩; have B7 := Lib.hid (B6.out.trans (hs.mono B6.out.size)); have y1 := cell_step y0 hs; clear hs))
              go_wp2
              go_ret
              exact ⟨rfl, B7.out⟩
end Go.Proofs.Ytkkmfacngmginaa
