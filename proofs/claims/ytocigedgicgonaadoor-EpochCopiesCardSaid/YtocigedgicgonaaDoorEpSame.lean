/- same: both clocks have the same number, oldest number and threads, by a contract. -/
import Derived.Test.YtocigedgicgonaaDoorEpPair
import Derived.Test.YtocigedgicgonaaDoorEpIs
namespace Go.Proofs.YtocigedgicgonaaDoor
open Go.RowKit

set_option maxRecDepth 100000 in
set_option maxHeartbeats 4000000 in
theorem same_any (cb mb : Nat) (c : Ck) (v : Value) (w : World) (hT : ClkAt w cb mb c) (hv : OwnS lInt 0 w v c.L) :
    Calls Tryd.prog 13 #[.pointer (some ⟨cb, 0, none⟩), refC c v] w fun ev w' => ev = .returned (.bool true) ∧ Below w.heap.size w w' := by
  obtain ⟨N, hN⟩ : ∃ N, c.L.length = N := ⟨_, rfl⟩
  obtain ⟨va, vc, rfl, -, -⟩ := hv.lenN hN
  obtain ⟨W, hW⟩ : ∃ W, W = w.alloc (refO c.n c.l (.slice va N vc)) := ⟨_, rfl⟩
  have b1 := alloc_below0 w (refO c.n c.l (.slice va N vc))
  have K1 := Lib.hid (show W.heap[w.heap.size]? = some (refO c.n c.l (.slice va N vc)) by rw [hW]; exact blk_new w _)
  have B1 := Lib.hid (show Below w.heap.size w W by rw [hW]; exact b1)
  have V1 := Lib.hid (hv.below B1.out)
  have T1 := Lib.hid (hT.low B1.out)
  have LN := Lib.hid (show c.L.length = N ∧ N ≤ 64 from ⟨hN, hN ▸ hT.ok.tm⟩)
  unfold refO at hW
  unfold refC
  clear b1 hv hN hT
  go_enter Tryd.func13, Tryd.ntmps13
  go_wp2_with fail
  rw [← hW]
  have t0 : W.cell? ⟨w.heap.size, 0, none⟩ = some (.int .i64 c.n) := blk_cell K1.out 0
  have t1 : W.cell? ⟨w.heap.size, 1, none⟩ = some (.int .i64 c.l) := blk_cell K1.out 1
  have t2 : W.cell? ⟨w.heap.size, 2, none⟩ = some (.slice va N vc) := blk_cell K1.out 2
  have s1 : (c.n == c.n) = true := by simp
  have s2 : (c.oldest == c.oldest) = true := by simp
  have fo := fun w h => rf_oldest c (.slice va N vc) w T1.out.ok h
  unfold refC at fo
  clear hW
  go_region_held3 (fun w' => w'.cell? ⟨w.heap.size, 0, none⟩ = some (.int .i64 c.n) ∧ w'.cell? ⟨w.heap.size, 1, none⟩ = some (.int .i64 c.l) ∧ w'.cell? ⟨w.heap.size, 2, none⟩ = some (.slice va N vc)) (first | exact ⟨by assumption, by assumption, by assumption⟩ | go_keep)
    (first
      | (go_at_call 16; (with_reducible refine (now_any _ cb mb c ?_).mono ?_); exact T1.out.low (Below.refl _ _).drew; rintro e w2 ⟨rfl, hs⟩; have BA := Lib.hid ((Below.refl _ W).drew.trans hs); have t0 := cell_step t0 BA.out; have t1 := cell_step t1 BA.out; have t2 := cell_step t2 BA.out; clear hs)
      | (go_at_call 18; (with_reducible refine (oldest_any _ cb mb c ?_).mono ?_); exact T1.out.low BA.out; rintro e w3 ⟨rfl, hs⟩; have BB := Lib.hid (BA.out.trans (hs.mono BA.out.size)); have t0 := cell_step t0 hs; have t1 := cell_step t1 hs; have t2 := cell_step t2 hs; clear hs)
      | (go_at_call 29; (with_reducible refine (fo _ ?_).mono ?_); exact V1.out.below BB.out; rintro e w4 ⟨rfl, hs⟩; have BC := Lib.hid (BB.out.trans (hs.mono BB.out.size)); have t0 := cell_step t0 hs; have t1 := cell_step t1 hs; have t2 := cell_step t2 hs; clear hs))
  have V4 := Lib.hid (V1.out.below BC.out)
  have T4 := Lib.hid (T1.out.low BC.out)
  have B4 := Lib.hid (B1.out.trans (BC.out.mono B1.out.size))
  have K4 := Lib.hid (blk_step K1.out BC.out)
  clear fo s1 s2
  go_wp2
  go_loopg [31] N (fun q i wr => ∃ k : Nat, k + q = N ∧ i = .int .i64 k ∧ Below w4.heap.size w4 wr)
  case atStart => exact ⟨0, by omega, rfl, Below.refl _ _⟩
  case round =>
    obtain ⟨k, hk, rfl, hB⟩ := hrel
    have HK := Lib.hid hk
    have B5 := Lib.hid hB
    have T5 := Lib.hid (T4.out.low hB)
    have V5 := Lib.hid (V4.out.below hB)
    by_cases hlt : k < N
    · obtain ⟨x, hx⟩ : ∃ x, c.L[k]? = some x := ⟨_, List.getElem?_eq_getElem (by rw [LN.out.1]; exact hlt)⟩
      obtain ⟨g, ha⟩ := V5.out.addrN (by omega)
      subst ha
      have x0 := V5.out.sv.cellAt (j := 0) hx rfl
      simp only [lInt, Nat.mul_one, Nat.add_zero, Nat.zero_add] at x0
      have HX := Lib.hid (show atL c.L (k : Int) = x ∧ errV (c.atE (k : Int)) = .nilIface from ⟨atL_get hx, by unfold Ck.atE; rw [if_neg (by unfold Ck.out; have := LN.out.1; omega)]; rfl⟩)
      have i1 : IntKind.i64.wrap ((k : Int) + 1) = (k : Int) + 1 := Go.IntWalk.i64_in _ (by have := LN.out; omega)
      have j3 : (0 : Int) ≤ (k : Int) := by omega
      have j4 : (k : Int) < (N : Int) := by omega
      have x1 : (x == x) = true := by simp
      clear hk hB hx
      by_cases p : 0 < x
      · have hd : decide (0 < x) = true := by simp; omega
        go_wp2_with fail
        refine (at_any _ cb mb _ T5.out (k : Int)).mono ?_
        rintro ev w6 ⟨rfl, hs⟩
        rw [HX.out.1, HX.out.2, hd]
        have B6 := Lib.hid (B5.out.trans (hs.mono B5.out.size))
        clear hs
        go_wp2
        go_roundg (N - (k + 1))
        case measure => have := HK.out; omega
        case rel => exact ⟨k + 1, by omega, by go_num, B6.out⟩
      · have hd : decide (0 < x) = false := by simp; omega
        go_wp2_with fail
        refine (at_any _ cb mb _ T5.out (k : Int)).mono ?_
        rintro ev w6 ⟨rfl, hs⟩
        rw [HX.out.1, HX.out.2, hd]
        have B6 := Lib.hid (B5.out.trans (hs.mono B5.out.size))
        clear hs
        go_wp2
        go_roundg (N - (k + 1))
        case measure => have := HK.out; omega
        case rel => exact ⟨k + 1, by omega, by go_num, B6.out⟩
    · obtain rfl : k = N := by omega
      have OUT := Lib.hid (show errV (c.atE (k : Int)) = .iface 62 (.int .i64 1) ∧ errV (c.atE (-1)) = .iface 62 (.int .i64 1) from ⟨by unfold Ck.atE; rw [if_pos (by unfold Ck.out; have := LN.out.1; omega)]; rfl, by unfold Ck.atE; rw [if_pos (by unfold Ck.out; omega)]; rfl⟩)
      have K5 := Lib.hid (blk_step K4.out hB)
      have t2 := blk_cell K5.out 2
      clear hk hB
      go_wp2_with fail
      refine (at_any _ cb mb _ T5.out (k : Int)).mono ?_
      rintro ev w6 ⟨rfl, hs⟩
      rw [OUT.out.1]
      have T6 := Lib.hid (T5.out.low hs)
      have B6 := Lib.hid (B5.out.trans (hs.mono B5.out.size))
      clear hs t2
      go_wp2_with fail
      refine (at_any _ cb mb _ T6.out (-1)).mono ?_
      rintro ev w7 ⟨rfl, hs⟩
      rw [OUT.out.2]
      have B7 := Lib.hid (B6.out.trans (hs.mono B6.out.size))
      clear hs
      go_wp2_with fail
      refine (fIs_code 1 1 _).mono ?_
      rintro ev w8 ⟨rfl, hs⟩
      rw [show ((1 : Int) == 1) = true from rfl]
      have B8 := Lib.hid (B7.out.trans (hs.mono B7.out.size))
      clear hs
      go_wp2_with fail
      refine (fIs_code 1 1 _).mono ?_
      rintro ev w9 ⟨rfl, hs⟩
      rw [show ((1 : Int) == 1) = true from rfl]
      have B9 := Lib.hid (B8.out.trans (hs.mono B8.out.size))
      clear hs
      go_wp2
      go_ret
      exact ⟨rfl, B4.out.trans (B9.out.mono B4.out.size)⟩
end Go.Proofs.YtocigedgicgonaaDoor
