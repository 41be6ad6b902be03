/- The walk of the law MappingFills. -/
import Derived.Test.YtfdgfonffocenaaMpDo
namespace Go.Proofs.Ytfdgfonffocenaa
open Go.RowKit

/-- the first k pages are used -/
def fillT (n k : Nat) : List Pg := (List.range n).map fun i => if i < k then some (0, 0) else none
theorem fillT_at {n k i : Nat} (h : i < n) : (fillT n k)[i]? = some (if i < k then some (0, 0) else none) := by
  unfold fillT; rw [List.getElem?_map, List.getElem?_range h]; rfl
theorem fillT_len (n k : Nat) : (fillT n k).length = n := by simp [fillT]
theorem fillT_zero (n : Nat) : pages0 n = fillT n 0 := by
  apply List.ext_getElem?
  intro i
  by_cases h : i < n
  · rw [pages0_at h, fillT_at h, if_neg (by omega)]
  · rw [List.getElem?_eq_none (by rw [pages0_len]; omega), List.getElem?_eq_none (by rw [fillT_len]; omega)]
theorem fillT_used {n k j : Nat} (h : j < n) (hk : j < k) : (pageAt (fillT n k) (j : Int)).isSome = true := by
  rw [pageAt_get (fillT_at h), if_pos hk]; rfl
theorem fillT_take {n k : Nat} (h : k < n) : takeN (fillT n k) = k ∧ takeE (fillT n k) = 0 ∧ takeL (fillT n k) = fillT n (k + 1) := by
  have hf : firstFree (fillT n k) = some k := firstFree_hit (fun j hj => fillT_used (by omega) hj) (by rw [fillT_at h, if_neg (by omega)])
  unfold takeN takeE takeL
  rw [hf]
  refine ⟨rfl, rfl, ?_⟩
  apply List.ext_getElem?
  intro i
  by_cases hi : i < n
  · rw [List.getElem?_set, fillT_len, fillT_at hi, fillT_at hi]
    by_cases e : k = i
    · subst e; simp [h]
    · rw [if_neg e]
      by_cases h2 : i < k
      · rw [if_pos h2, if_pos (by omega)]
      · rw [if_neg h2, if_neg (by omega)]
  · rw [List.getElem?_eq_none (by rw [List.length_set, fillT_len]; omega), List.getElem?_eq_none (by rw [fillT_len]; omega)]
theorem fillT_full (n : Nat) : takeN (fillT n n) = 0 ∧ takeE (fillT n n) = 3 ∧ takeL (fillT n n) = fillT n n := by
  have hf : firstFree (fillT n n) = none := firstFree_none (fun j hj => by rw [fillT_len] at hj; exact fillT_used hj hj)
  unfold takeN takeE takeL
  rw [hf]
  exact ⟨rfl, rfl, rfl⟩
/-- a page of a full table is given -/
def gapT (n g : Nat) : List Pg := (fillT n n).set g none
theorem full_code {n g : Nat} (h : g < n) : codeT (fillT n n) g = 0 := by rw [codeT_at (fillT_at h), if_pos h]; rfl
theorem full_give {n g : Nat} (h : g < n) : giveL (fillT n n) g = gapT n g := by unfold giveL; rw [if_pos (full_code h)]; rfl
theorem full_head {n g : Nat} (h : g < n) : headT (fillT n n) g = (0, 0) := by rw [headT_at (r := (0, 0)) (by rw [fillT_at h, if_pos h])]
theorem gap_take {n g : Nat} (h : g < n) : takeN (gapT n g) = g ∧ takeE (gapT n g) = 0 ∧ takeL (gapT n g) = fillT n n := by
  have hg : (gapT n g)[g]? = some none := by unfold gapT; rw [List.getElem?_set, if_pos rfl, if_pos (by rw [fillT_len]; exact h)]
  have hf : firstFree (gapT n g) = some g := firstFree_hit (fun j hj => by
    have e : (gapT n g)[j]? = some (some (0, 0)) := by unfold gapT; rw [List.getElem?_set, if_neg (by omega), fillT_at (by omega), if_pos (by omega)]
    rw [pageAt_get e]; rfl) hg
  unfold takeN takeE takeL
  rw [hf]
  refine ⟨rfl, rfl, ?_⟩
  apply List.ext_getElem?
  intro i
  simp only [gapT, List.set_set]
  by_cases hi : i < n
  · rw [List.getElem?_set, fillT_len]
    by_cases e : g = i
    · subst e; rw [if_pos rfl, if_pos h, fillT_at h, if_pos h]
    · rw [if_neg e]
  · rw [List.getElem?_eq_none (by rw [List.length_set, fillT_len]; omega), List.getElem?_eq_none (by rw [fillT_len]; omega)]
set_option maxRecDepth 100000 in
set_option maxHeartbeats 4000000 in
theorem lawFills (pg gv : Int) (hgv : 0 ≤ gv ∧ gv ≤ 255) (w : World) : Calls Try.prog 4 #[.int .i64 pg, .int .u8 gv] w fun ev w' => ev = .returned (.bool true) ∧ Below w.heap.size w w' := by
  have B0 := Lib.hid (Below.refl w.heap.size w)
  by_cases h1 : pg < 1
  · go_enter Try.func4, Try.ntmps4
    go_wp2_with fail
    refine (awakeM _).mono ?_
    rintro ev w1 ⟨rfl, hs⟩
    have B1 := Lib.hid hs
    clear hs
    go_wp2
    go_ret
    exact ⟨rfl, B1.out⟩
  · by_cases h2 : 100 < pg
    · go_enter Try.func4, Try.ntmps4
      go_wp2_with fail
      refine (awakeM _).mono ?_
      rintro ev w1 ⟨rfl, hs⟩
      have B1 := Lib.hid hs
      clear hs
      go_wp2
      go_ret
      exact ⟨rfl, B1.out⟩
    · obtain ⟨n, rfl⟩ : ∃ n : Nat, pg = n := ⟨pg.toNat, by omega⟩
      have hn1 : 1 ≤ n := by omega
      have hn2 : n ≤ 100 := by omega
      go_enter Try.func4, Try.ntmps4
      go_wp2_with fail
      refine (new_any n _ hn1 (by omega)).mono ?_
      rintro ev w1 ⟨ab, pb, rfl, hT, g1, g2, hs⟩
      rw [fillT_zero] at hT
      have T1 := Lib.hid hT
      have S1 := Lib.hid g2
      have B1 := Lib.hid hs
      clear hT g1 g2 hs
      obtain ⟨g, hg, hgn⟩ : ∃ g : Nat, Int.tmod gv n = g ∧ g < n := ⟨(gv % n).toNat, by
        have := Int.emod_nonneg gv (show (n : Int) ≠ 0 by omega)
        rw [Int.tmod_eq_emod_of_nonneg hgv.1]; omega, by
        have := Int.emod_lt_of_pos gv (show (0 : Int) < n by omega)
        have := Int.emod_nonneg gv (show (n : Int) ≠ 0 by omega)
        omega⟩
      go_wp2_with fail
      go_loopg [27] n (fun r i wz => ∃ k : Nat, k + r = n ∧ i = .int .i64 k ∧ TabAt wz ab pb n (fillT n k) ∧ Below w.heap.size w wz)
      case atStart => exact ⟨0, by omega, rfl, T1.out, B1.out⟩
      case round =>
        obtain ⟨k, hk, rfl, hT, hB⟩ := hrel
        have T2 := Lib.hid hT
        have B2 := Lib.hid hB
        clear hT hB
        by_cases hlt : k < n
        · have F := Lib.hid (fillT_take hlt)
          have i1 : IntKind.i64.wrap ((k : Int) + 1) = (k : Int) + 1 := Go.IntWalk.i64_in _ (by omega)
          have q1 : ((k : Int) == (k : Int)) = true := by simp
          go_wp2_with fail
          refine (take_any _ ab pb n _ T2.out).mono ?_
          rintro ev w3 ⟨rfl, hT, hk2⟩
          rw [F.out.2.2] at hT
          rw [F.out.1, F.out.2.1, errV_at rfl]
          have T3 := Lib.hid hT
          have B3 := Lib.hid (B2.out.trans (hk2.below (n := w.heap.size) (fun k e => e ▸ S1.out) B2.out.size))
          clear hT hk2
          go_wp2_with fail
          go_roundg (n - (k + 1))
          case measure => omega
          case rel => exact ⟨k + 1, by omega, by go_num, T3.out, B3.out⟩
        · obtain rfl : k = n := by omega
          have F := Lib.hid (fillT_full k)
          go_wp2_with fail
          refine (take_any _ ab pb k _ T2.out).mono ?_
          rintro ev w3 ⟨rfl, hT, hk2⟩
          rw [F.out.2.2] at hT
          rw [F.out.1, F.out.2.1]
          have T3 := Lib.hid hT
          have B3 := Lib.hid (B2.out.trans (hk2.below (n := w.heap.size) (fun k e => e ▸ S1.out) B2.out.size))
          rw [show errV 3 = .iface 39 (.int .i64 3) from rfl]
          have i2 : IntKind.i64.wrap gv = gv := Go.IntWalk.i64_in _ (by omega)
          have i3 : IntKind.i64.wrap (g : Int) = (g : Int) := Go.IntWalk.i64_in _ (by omega)
          clear hT hk2
          have GK := Lib.hid hgn
          go_wp2_with fail
          refine (give_any _ ab pb k _ g T3.out).mono ?_
          rintro ev w4 ⟨rfl, hT, hk2⟩
          rw [full_give GK.out] at hT
          rw [errV_at (full_code GK.out)]
          have T4 := Lib.hid hT
          have B4 := Lib.hid (B3.out.trans (hk2.below (n := w.heap.size) (fun k e => e ▸ S1.out) B3.out.size))
          clear hT hk2
          go_wp2_with fail
          refine (take_any _ ab pb k _ T4.out).mono ?_
          rintro ev w5 ⟨rfl, hT, hk2⟩
          rw [(gap_take GK.out).2.2] at hT
          rw [(gap_take GK.out).1, errV_at (gap_take GK.out).2.1]
          have T5 := Lib.hid hT
          have B5 := Lib.hid (B4.out.trans (hk2.below (n := w.heap.size) (fun k e => e ▸ S1.out) B4.out.size))
          clear hT hk2
          go_wp2_with fail
          refine (head_any _ ab pb k _ g T5.out).mono ?_
          rintro ev w6 ⟨rfl, hs⟩
          rw [full_head GK.out, errV_at (full_code GK.out)]
          unfold refV
          have b6 := alloc_below0 w6 (.cells #[.int .i64 0, .int .i64 0] 23)
          have B6 := Lib.hid ((B5.out.trans (hs.mono B5.out.size)).trans (b6.mono (B5.out.trans (hs.mono B5.out.size)).size))
          have R6 := Lib.hid (RfAt.new w6 0 0 23)
          have q1 : ((g : Int) == (g : Int)) = true := by simp
          clear hs b6
          go_wp2_with fail
          refine (fIs_code 3 3 _).mono ?_
          rintro ev w7 ⟨rfl, hs⟩
          rw [show ((3 : Int) == 3) = true from rfl]
          have R7 := Lib.hid (R6.out.step hs)
          have B7 := Lib.hid (B6.out.trans (hs.mono B6.out.size))
          have r0 := R7.out.c0
          have r1 := R7.out.c1
          clear hs
          go_wp2_with fail
          refine (awakeM _).mono ?_
          rintro ev w8 ⟨rfl, hs⟩
          have B8 := Lib.hid (B7.out.trans (hs.mono B7.out.size))
          clear hs
          go_wp2
          go_ret
          exact ⟨rfl, B8.out⟩
end Go.Proofs.Ytfdgfonffocenaa
