/- same: both tables have the same used pages and heads, by a contract. -/
import Derived.Test.YtfdgfonffocenaaDoorMpDoes
namespace Go.Proofs.YtfdgfonffocenaaDoor
open Go.RowKit

set_option maxRecDepth 100000 in
set_option maxHeartbeats 4000000 in
theorem same_any (ab pb n : Nat) (L : List Pg) (v : Value) (us : List Up) (w : World) (hT : TabAt w ab pb n L) (hv : OwnS lUp 0 w v us) (hr : RefOk us L) (hg : Ea.Glob w) :
    Calls Tryd.prog 10 #[.pointer (some ⟨ab, 0, none⟩), refT n v] w fun ev w' => ev = .returned (.bool true) ∧ Below w.heap.size w w' := by
  obtain ⟨va, vc, rfl, hlc, hcm⟩ := hv.sv.lenform
  obtain ⟨N, hN⟩ : ∃ N, us.length = N := ⟨_, rfl⟩
  have H := Lib.hid hr
  have HL := Lib.hid (show L.length = n from hT.len)
  rw [hN] at hlc hv ⊢
  obtain ⟨W, hW⟩ : ∃ W, W = w.alloc (.cells #[.int .i64 n, .slice va N vc] 28) := ⟨_, rfl⟩
  have b1 := alloc_below0 w (.cells #[.int .i64 n, .slice va N vc] 28)
  have B0 := Lib.hid (show Below w.heap.size w W by rw [hW]; exact b1)
  have KT0 := Lib.hid (show W.heap[w.heap.size]? = some (.cells #[.int .i64 n, .slice va N vc] 28 (0, 0)) by rw [hW]; exact blk_new w _)
  have T0 := Lib.hid (hT.low B0.out)
  have V0 := Lib.hid (hv.below B0.out)
  have G0 := Lib.hid (Ea.Glob.below B0.out hg)
  clear hT hv hr hN hg b1
  unfold refT
  go_enter Tryd.func10, Tryd.ntmps10
  go_wp2_with fail
  rw [← hW]
  have t0 : W.cell? ⟨w.heap.size, 0, none⟩ = some (.int .i64 n) := blk_cell KT0.out 0
  have t1 : W.cell? ⟨w.heap.size, 1, none⟩ = some (.slice va N vc) := blk_cell KT0.out 1
  obtain ⟨M, hM⟩ : ∃ M, (usedT L).length = M := ⟨_, rfl⟩
  have MM := Lib.hid hM
  have fp := fun w h => rf_pages n (.slice va N vc) us L w h H.out HL.out T0.out.hi
  unfold refT at fp
  clear hW hM
  go_region_held3 (fun w' => w'.cell? ⟨w.heap.size, 0, none⟩ = some (.int .i64 n) ∧ w'.cell? ⟨w.heap.size, 1, none⟩ = some (.slice va N vc)) (first | exact ⟨by assumption, by assumption⟩ | go_keep)
    (first
      | (go_at_call 17; (with_reducible refine (pages_any _ ab pb n L ?_).mono ?_); exact T0.out.low (Below.refl _ _).drew; rintro e w1 ⟨v1, rfl, ho, hs⟩; have B1 := Lib.hid ((Below.refl _ W).drew.trans hs); obtain ⟨a1, c1, rfl, -, -⟩ := ho.lenN MM.out; have P1 := Lib.hid ho; have u0 := cell_step t0 B1.out; have u1 := cell_step t1 B1.out; clear hs ho)
      | (go_at_call 14; (with_reducible refine (fp _ ?_).mono ?_); exact V0.out.sv.below B1.out; rintro e w2 ⟨v2, rfl, ho, hs⟩; have B2 := Lib.hid (B1.out.trans (hs.mono B1.out.size)); obtain ⟨a2, c2, rfl, -, -⟩ := ho.lenN MM.out; have P2 := Lib.hid ho.sv; have P12 := Lib.hid (P1.out.below hs).sv; have x0 := cell_step u0 hs; have x1 := cell_step u1 hs; clear hs ho))
  have G2 := Lib.hid (Ea.Glob.below B2.out G0.out)
  have T2 := Lib.hid (T0.out.low B2.out)
  have V2 := Lib.hid (V0.out.below B2.out)
  have KT2 := Lib.hid (blk_step KT0.out B2.out)
  have fh := fun x w h => rf_head n (.slice va N vc) us L x w h H.out HL.out
  unfold refT refV at fh
  clear t0 t1 u0 u1 x0 x1 fp
  go_wp2
  go_loopg [23] M (fun r i wz => ∃ k : Nat, k + r = M ∧ i = .int .i64 k ∧ Below w2.heap.size w2 wz)
  case atStart => exact ⟨0, by omega, rfl, Below.refl _ _⟩
  case round =>
    obtain ⟨k, hk, rfl, hB⟩ := hrel
    have A := Lib.hid hB
    have HK := Lib.hid hk
    by_cases hlt : k < M
    · obtain ⟨z, hz⟩ : ∃ z, (usedT L)[k]? = some z := ⟨_, List.getElem?_eq_getElem (by rw [MM.out]; exact hlt)⟩
      obtain ⟨b1, f1, ha⟩ := P12.out.addr (by rw [MM.out]; omega)
      subst ha
      obtain ⟨b2, f2, ha⟩ := P2.out.addr (by rw [MM.out]; omega)
      subst ha
      have c1 := (P12.out.below hB).cellAt (j := 0) hz rfl
      have c2 := (P2.out.below hB).cellAt (j := 0) hz rfl
      simp only [lInt, Nat.mul_one, Nat.add_zero] at c1 c2
      have i1 : IntKind.i64.wrap ((k : Int) + 1) = (k : Int) + 1 := Go.IntWalk.i64_in _ (by have := T0.out.hi; have := usedTo_len L L.length; unfold usedT at MM; have := MM.out; have := T0.out.len; omega)
      have j3 : (0 : Int) ≤ (k : Int) := by omega
      have j4 : (k : Int) < (M : Int) := by omega
      obtain ⟨e, he⟩ : ∃ e, errV (codeT L z) = e := ⟨_, rfl⟩
      obtain ⟨⟨y1, y2⟩, hy⟩ : ∃ o, headT L z = o := ⟨_, rfl⟩
      have EE := Lib.hid (show errV (codeT L z) = e ∧ headT L z = (y1, y2) from ⟨he, hy⟩)
      clear hk hB hz he hy
      go_wp2_with fail
      refine (head_any _ ab pb n L z (T2.out.low A.out)).mono ?_
      rintro ev w3 ⟨rfl, hs⟩
      rw [EE.out.1, EE.out.2]
      unfold refV
      have bx := alloc_below0 w3 (.cells #[.int .i64 y1, .int .i64 y2] 32)
      have kx := blk_new w3 (.cells #[.int .i64 y1, .int .i64 y2] 32)
      obtain ⟨w4, hw4⟩ : ∃ W, W = w3.alloc (.cells #[.int .i64 y1, .int .i64 y2] 32) := ⟨_, rfl⟩
      rw [← hw4] at bx kx
      have B3 := Lib.hid (A.out.trans (hs.mono A.out.size))
      have B4 := Lib.hid (B3.out.trans (bx.mono B3.out.size))
      have KX := Lib.hid kx
      have t0 : w4.cell? ⟨w.heap.size, 0, none⟩ = some (.int .i64 n) := blk_cell (blk_step KT2.out B4.out) 0
      have t1 : w4.cell? ⟨w.heap.size, 1, none⟩ = some (.slice va N vc) := blk_cell (blk_step KT2.out B4.out) 1
      have c1 := cell_step (cell_step c1 hs) bx
      have c2 := cell_step (cell_step c2 hs) bx
      have fz := fun w h => fh z w h
      rw [EE.out.2] at fz
      clear hs bx kx
      go_wp2_with fail
      rw [← hw4]
      clear hw4
      have BZ := Lib.hid (alloc_below0 w4 (.cells #[.int .i64 0, .int .i64 0] 32))
      have KY := Lib.hid (blk_new w4 (.cells #[.int .i64 0, .int .i64 0] 32))
      have n0 := World.new_ne w4 _ t0
      have n2 := World.new_ne w4 _ c2
      go_region_held3 (fun w' => w'.cell? ⟨w.heap.size, 0, none⟩ = some (.int .i64 n) ∧ w'.cell? ⟨w.heap.size, 1, none⟩ = some (.slice va N vc) ∧ w'.cell? ⟨b2, f2 + k, none⟩ = some (.int .i64 z)) (first | exact ⟨by assumption, by assumption, by assumption⟩ | go_keep)
        (first
          | (go_at_call 18; (with_reducible refine (fz _ ?_).mono ?_); exact (V2.out.below B4.out.drew).sv; rintro e5 w5 ⟨rfl, hs⟩; have BD := Lib.hid ((Below.refl _ w4).drew.trans hs); have u0 := cell_step t0 BD.out; have u1 := cell_step t1 BD.out; have u2 := cell_step c2 BD.out; have m0 := World.new_ne w5 _ u0; have m2 := World.new_ne w5 _ u2; clear hs)
          | (go_at_call 18; (with_reducible refine (fz _ ?_).mono ?_); exact ((V2.out.below B4.out).below BZ.out.drew).sv; rintro e5 w5 ⟨rfl, hs⟩; have BD := Lib.hid (BZ.out.drew.trans (hs.mono BZ.out.size)); have u0 := cell_step t0 BD.out; have u1 := cell_step t1 BD.out; have u2 := cell_step c2 BD.out; obtain ⟨q0, q1, q2, q3, q4⟩ := two_facts (blk_step KY.out ((Below.refl _ _).drew.trans hs)) (.int .i64 y1) (.int .i64 y2); have Q4 := Lib.hid q4; clear hs q4))
      · obtain ⟨w6, hw6⟩ : ∃ W, W = w5.alloc (.cells #[.int .i64 y1, .int .i64 y2] 32) := ⟨_, rfl⟩
        have RY := Lib.hid (show RfAt w6 w5.heap.size y1 y2 by rw [hw6]; exact RfAt.new w5 y1 y2 _)
        have B6 := Lib.hid (show Below w4.heap.size w4 w6 by rw [hw6]; exact BD.out.trans ((alloc_below0 w5 _).mono BD.out.size))
        rw [← hw6]
        have h1 := blk_cell (blk_step KX.out B6.out) 0
        have h2 := blk_cell (blk_step KX.out B6.out) 1
        have e1 := cell_step c1 B6.out
        have e2 := cell_step c2 B6.out
        have r1 := RY.out.c0
        have r2 := RY.out.c1
        have B7 := Lib.hid (B4.out.trans (B6.out.mono B4.out.size))
        have G7 := Lib.hid (Ea.Glob.below B7.out G2.out)
        have s1 : (z == z) = true := by simp
        have s2 : (y1 == y1) = true := by simp
        have s3 : (y2 == y2) = true := by simp
        have s4 : (codeT L z == codeT L z) = true := by simp
        have fcode := fun w h => code_of (codeT L z) w h
        rw [EE.out.1] at fcode
        clear t0 t1 c1 c2 u0 u1 u2 hw6
        go_wp2_with fail
        go_region_held3 (fun w' => w'.cell? ⟨b1, f1 + k, none⟩ = some (.int .i64 z) ∧ w'.cell? ⟨b2, f2 + k, none⟩ = some (.int .i64 z) ∧ w'.cell? ⟨w3.heap.size, 0, none⟩ = some (.int .i64 y1) ∧ w'.cell? ⟨w3.heap.size, 1, none⟩ = some (.int .i64 y2) ∧ w'.cell? ⟨w5.heap.size, 0, none⟩ = some (.int .i64 y1) ∧ w'.cell? ⟨w5.heap.size, 1, none⟩ = some (.int .i64 y2)) (first | exact ⟨by assumption, by assumption, by assumption, by assumption, by assumption, by assumption⟩ | go_keep)
          (first
            | (go_at_call 20; (with_reducible refine (fcode _ ?_).mono ?_); exact Ea.Glob.below (Below.refl _ _).drew G7.out; rintro e8 w8 ⟨rfl, hs⟩; have BE := Lib.hid ((Below.refl _ w6).drew.trans hs); have h1 := cell_step h1 BE.out; have h2 := cell_step h2 BE.out; have e1 := cell_step e1 BE.out; have e2 := cell_step e2 BE.out; have r1 := cell_step r1 BE.out; have r2 := cell_step r2 BE.out; clear hs))
        go_wp2
        go_roundg (M - (k + 1))
        case measure => have := HK.out; omega
        case rel => exact ⟨k + 1, by omega, by go_num, B7.out.trans (BE.out.mono B7.out.size)⟩
      · obtain ⟨w6, hw6⟩ : ∃ W, W = (w5.setCell ⟨w4.heap.size, 0, none⟩ (.int .i64 y1)).setCell ⟨w4.heap.size, 1, none⟩ (.int .i64 y2) := ⟨_, rfl⟩
        have RY := Lib.hid (show RfAt w6 w4.heap.size y1 y2 by rw [hw6]; exact RfAt.of Q4.out)
        have B6 := Lib.hid (show Below w4.heap.size w4 w6 by rw [hw6]; exact below_set (below_set BD.out (Nat.le_refl _) 0 _) (Nat.le_refl _) 1 _)
        rw [← hw6]
        clear q0 q1 q2 q3
        have h1 := blk_cell (blk_step KX.out B6.out) 0
        have h2 := blk_cell (blk_step KX.out B6.out) 1
        have e1 := cell_step c1 B6.out
        have e2 := cell_step c2 B6.out
        have r1 := RY.out.c0
        have r2 := RY.out.c1
        have B7 := Lib.hid (B4.out.trans (B6.out.mono B4.out.size))
        have G7 := Lib.hid (Ea.Glob.below B7.out G2.out)
        have s1 : (z == z) = true := by simp
        have s2 : (y1 == y1) = true := by simp
        have s3 : (y2 == y2) = true := by simp
        have s4 : (codeT L z == codeT L z) = true := by simp
        have fcode := fun w h => code_of (codeT L z) w h
        rw [EE.out.1] at fcode
        clear t0 t1 c1 c2 u0 u1 u2 hw6
        go_wp2_with fail
        go_region_held3 (fun w' => w'.cell? ⟨b1, f1 + k, none⟩ = some (.int .i64 z) ∧ w'.cell? ⟨b2, f2 + k, none⟩ = some (.int .i64 z) ∧ w'.cell? ⟨w3.heap.size, 0, none⟩ = some (.int .i64 y1) ∧ w'.cell? ⟨w3.heap.size, 1, none⟩ = some (.int .i64 y2) ∧ w'.cell? ⟨w4.heap.size, 0, none⟩ = some (.int .i64 y1) ∧ w'.cell? ⟨w4.heap.size, 1, none⟩ = some (.int .i64 y2)) (first | exact ⟨by assumption, by assumption, by assumption, by assumption, by assumption, by assumption⟩ | go_keep)
          (first
            | (go_at_call 20; (with_reducible refine (fcode _ ?_).mono ?_); exact Ea.Glob.below (Below.refl _ _).drew G7.out; rintro e8 w8 ⟨rfl, hs⟩; have BE := Lib.hid ((Below.refl _ w6).drew.trans hs); have h1 := cell_step h1 BE.out; have h2 := cell_step h2 BE.out; have e1 := cell_step e1 BE.out; have e2 := cell_step e2 BE.out; have r1 := cell_step r1 BE.out; have r2 := cell_step r2 BE.out; clear hs))
        go_wp2
        go_roundg (M - (k + 1))
        case measure => have := HK.out; omega
        case rel => exact ⟨k + 1, by omega, by go_num, B7.out.trans (BE.out.mono B7.out.size)⟩
    · obtain rfl : k = M := by omega
      go_wp2
      go_ret
      exact ⟨rfl, B0.out.trans ((B2.out.trans (A.out.mono B2.out.size)).mono B0.out.size)⟩
end Go.Proofs.YtfdgfonffocenaaDoor
