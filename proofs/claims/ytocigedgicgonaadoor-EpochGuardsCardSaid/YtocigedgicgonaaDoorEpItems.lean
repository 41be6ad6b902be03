/- Package epoch's Len and Items of a bin, by contracts. -/
import Derived.Test.YtocigedgicgonaaDoorEpBin
namespace Go.Proofs.YtocigedgicgonaaDoor
open Go.RowKit

set_option maxHeartbeats 4000000 in
theorem len_nil (w : World) : Calls Tryd.prog 19 #[.pointer none] w fun ev w' => ev = .returned (.int .i64 0) ∧ Below w.heap.size w w' := by
  have B := Lib.hid (Below.refl w.heap.size w)
  go_enter Tryd.func19, Tryd.ntmps19
  go_wp2
  go_ret
  exact ⟨rfl, B.out⟩
set_option maxHeartbeats 4000000 in
theorem len_any (w : World) (bb : Nat) (xs : List It) (h : BinAt w bb xs) : Calls Tryd.prog 19 #[.pointer (some ⟨bb, 0, none⟩)] w fun ev w' => ev = .returned (.int .i64 (xs.length : Int)) ∧ Below w.heap.size w w' := by
  have B := Lib.hid (Below.refl w.heap.size w)
  obtain ⟨p, h1, h2⟩ := h.blk
  have c1 := blk_cell h1 1
  clear h h1 h2
  go_enter Tryd.func19, Tryd.ntmps19
  go_wp2
  go_ret
  exact ⟨rfl, B.out⟩
set_option maxHeartbeats 4000000 in
theorem items_nil (w : World) : Calls Tryd.prog 22 #[.pointer none] w fun ev w' => ev = .returned (.slice none 0 0) ∧ Below w.heap.size w w' := by
  have B := Lib.hid (Below.refl w.heap.size w)
  go_enter Tryd.func22, Tryd.ntmps22
  go_wp2
  go_ret
  exact ⟨rfl, B.out⟩
/-! ### Items -/
def it0 : It := ⟨0, 0, 0, 0⟩
def zeros (n : Nat) : List It := List.replicate n it0
theorem zeros_at {n i : Nat} (h : i < n) : (zeros n)[i]? = some it0 := by unfold zeros; rw [List.getElem?_replicate, if_pos h]
theorem zeros_len (n : Nat) : (zeros n).length = n := by simp [zeros]
theorem made_items (n : Nat) : madeCells #[.int .i64 0, .int .i64 0, .int .i64 0, .int .i64 0] (n * 4) = (lIt.flat (zeros n)).toArray := by
  apply Array.ext_getElem?
  intro i
  by_cases hi : i < n * 4
  · have hq : i / 4 < n := by omega
    have e := lIt.flat_at (zeros n) (i / 4) (i % 4) _ (zeros_at hq) (Nat.mod_lt _ (by decide))
    rw [show i / 4 * lIt.sz + i % 4 = i from Nat.div_add_mod' i 4] at e
    rw [show (lIt.flat (zeros n)).toArray[i]? = (lIt.flat (zeros n))[i]? by simp, e]
    have h4 : i % 4 = 0 ∨ i % 4 = 1 ∨ i % 4 = 2 ∨ i % 4 = 3 := by omega
    unfold madeCells
    rw [Array.getElem?_map, Array.getElem?_range, if_pos hi]
    rcases h4 with h | h | h | h <;> simp [h, lIt, It.cells, it0]
  · rw [Array.getElem?_eq_none (by rw [size_madeCells]; omega), Array.getElem?_eq_none (by simp [Lay.flat_len, zeros_len, lIt]; omega)]
theorem run_makeIt (n : Nat) (hn : n ≤ 100000) (w : World) : (Instr.makeSlice 49 (.int .i64 (n : Int)) (.int .i64 (n : Int))).run Tryd.prog w = .ok (.slice (some ⟨w.heap.size, 0, none⟩) n n) (w.alloc (.cells (lIt.flat (zeros n)).toArray 48)) := by
  obtain ⟨i, hi, hzz⟩ := Option.map_eq_some_iff.1 itInfo
  simp only [Prod.mk.injEq] at hzz
  obtain ⟨hz, hs, hb⟩ := hzz
  have h := run_make (P := Tryd.prog) w 49 48 i _ Tryd.underlying49 hi hz .i64 .i64 n n (by omega) (Int.le_refl _) (by rw [hb]; omega) (by omega)
  simp only [Int.toNat_natCast, hs] at h
  rw [← made_items]
  exact h
/-- an item is written whole: four cells -/
theorem it_set {w : World} {base g n cap i : Nat} {xs : List It} {x : It} (h : OwnS lIt base w (.slice (some ⟨g, 0, none⟩) n cap) xs) (hi : xs[i]? = some x) (y : It) :
    OwnS lIt base ((((w.setCell ⟨g, i * 4, none⟩ (.int .i64 y.s)).setCell ⟨g, i * 4 + 1, none⟩ (.int .i64 y.a)).setCell ⟨g, i * 4 + 2, none⟩ (.int .i64 y.b)).setCell ⟨g, i * 4 + 3, none⟩ (.int .i64 y.p)) (.slice (some ⟨g, 0, none⟩) n cap) (xs.set i y) := by
  have hl : i < xs.length := (List.getElem?_eq_some_iff.1 hi).1
  have s0 := h.set (y := (⟨y.s, x.a, x.b, x.p⟩ : It)) (u := .int .i64 y.s) hi (j := 0) (by decide) rfl
  have s1 := s0.set (x := (⟨y.s, x.a, x.b, x.p⟩ : It)) (y := (⟨y.s, y.a, x.b, x.p⟩ : It)) (u := .int .i64 y.a) (i := i) (by simp [hl]) (j := 1) (by decide) rfl
  have s2 := s1.set (x := (⟨y.s, y.a, x.b, x.p⟩ : It)) (y := (⟨y.s, y.a, y.b, x.p⟩ : It)) (u := .int .i64 y.b) (i := i) (by simp [hl]) (j := 2) (by decide) rfl
  have s3 := s2.set (x := (⟨y.s, y.a, y.b, x.p⟩ : It)) (y := y) (u := .int .i64 y.p) (i := i) (by simp [hl]) (j := 3) (by decide) rfl
  rw [List.set_set, List.set_set, List.set_set] at s3
  exact s3
theorem fill_step {xs : List It} {m : Nat} (hm : m < xs.length) : (zeros (m + 1) ++ xs.drop (m + 1)).set m (xs[m]) = zeros m ++ xs.drop m := by
  unfold zeros
  rw [List.replicate_succ', List.append_assoc, List.set_append_right _ _ (by simp), List.length_replicate, Nat.sub_self, List.drop_eq_getElem_cons hm]
  rfl
theorem take_rev {xs : List It} {m : Nat} (hm : m < xs.length) : (xs.take (m + 1)).reverse = xs[m] :: (xs.take m).reverse := by
  rw [List.take_succ_eq_append_getElem hm, List.reverse_append]; rfl
set_option maxRecDepth 100000 in
set_option maxHeartbeats 4000000 in
theorem items_any (w : World) (bb : Nat) (xs : List It) (h : BinAt w bb xs) (hl : xs.length ≤ 100000) : Calls Tryd.prog 22 #[.pointer (some ⟨bb, 0, none⟩)] w fun ev w' => ∃ v, ev = .returned v ∧ OwnS lIt w.heap.size w' v xs ∧ Below w.heap.size w w' := by
  obtain ⟨p, h1, h2⟩ := h.blk
  by_cases h0 : xs.length = 0
  · have hx : xs = [] := List.eq_nil_of_length_eq_zero h0
    subst hx
    have B := Lib.hid (Below.refl w.heap.size w)
    have c1 : w.cell? ⟨bb, 1, none⟩ = some (.int .i64 0) := blk_cell h1 1
    clear h h1 h2 h0
    go_enter Tryd.func22, Tryd.ntmps22
    go_wp2
    go_ret
    exact ⟨_, rfl, OwnS.nil _ _ _, B.out⟩
  · obtain ⟨n, hn⟩ : ∃ n, xs.length = n := ⟨_, rfl⟩
    have N := Lib.hid hn
    rw [hn] at h1 h0 hl
    have hz : ((n : Int) == 0) = false := by simp; omega
    have hmk := run_makeIt n hl w
    have b1 := alloc_below0 w (.cells (lIt.flat (zeros n)).toArray 48)
    have B1 := Lib.hid b1
    have c0 := blk_cell h1 0
    have c1 := blk_cell h1 1
    have d0 := blk_cell (blk_step h1 b1) 0
    have d1 := blk_cell (blk_step h1 b1) 1
    have C1 := Lib.hid (h2.low b1)
    have O1 := Lib.hid (show OwnS lIt w.heap.size (w.alloc (.cells (lIt.flat (zeros n)).toArray 48)) (.slice (some ⟨w.heap.size, 0, none⟩) n n) (zeros n) by
      have b := OwnS.lit lIt w.heap.size w w.heap.size rfl (zeros n) (Nat.le_refl _) (by rw [zeros_len]; simp [maxLen]; omega)
      rw [zeros_len] at b
      exact b)
    clear h h1 h2 b1 hn
    go_enter Tryd.func22, Tryd.ntmps22
    go_wp2
    go_loopg [4, 5] n (fun r i k wr => ∃ q, i = .int .i64 r ∧ k = .pointer q ∧ r ≤ n ∧ Chain wr q (xs.take r).reverse ∧ OwnS lIt w.heap.size wr (.slice (some ⟨w.heap.size, 0, none⟩) n n) (zeros r ++ xs.drop r) ∧ Below w.heap.size w wr)
    case atStart => exact ⟨p, rfl, rfl, Nat.le_refl _, by rw [List.take_of_length_le (by rw [N.out]; exact Nat.le_refl _)]; exact C1.out, by rw [List.drop_eq_nil_of_le (by rw [N.out]; exact Nat.le_refl _), List.append_nil]; exact O1.out, B1.out⟩
    case round =>
      obtain ⟨q, rfl, rfl, hr, hC, hO, hB⟩ := hrel
      have B2 := Lib.hid hB
      cases gk with
      | zero =>
        have hq : q = none := hC
        subst hq
        have O2 := Lib.hid (show OwnS lIt w.heap.size wr (.slice (some ⟨w.heap.size, 0, none⟩) n n) xs from hO)
        clear hC hO hB
        go_wp2
        go_ret
        exact ⟨_, rfl, O2.out, B2.out⟩
      | succ m =>
        have hm : m < xs.length := by rw [N.out]; omega
        rw [take_rev hm] at hC
        obtain ⟨b, q', rfl, hb, hC2⟩ := hC
        have hz : (zeros (m + 1) ++ xs.drop (m + 1))[m]? = some it0 := by rw [List.getElem?_append_left (by rw [zeros_len]; omega)]; exact zeros_at (by omega)
        have O2 := Lib.hid (it_set hO hz xs[m])
        rw [fill_step hm] at O2
        have hne : b ≠ w.heap.size := fun e => by
          obtain ⟨cur, hc, -⟩ := hO.block
          rw [← e, hb] at hc
          simp only [Option.some.injEq, Obj.cells.injEq] at hc
          exact absurd hc.2.1 (by decide)
        obtain ⟨⟨xa, xb, xc, xd⟩, hx⟩ : ∃ x, xs[m] = x := ⟨_, rfl⟩
        rw [hx] at hb O2
        have x0 := blk_cell hb 0
        have x1 := blk_cell hb 1
        have x2 := blk_cell hb 2
        have x3 := blk_cell hb 3
        have y0 := hO.sv.cellAt (j := 0) hz rfl
        have y1 := hO.sv.cellAt (j := 1) hz rfl
        have y2 := hO.sv.cellAt (j := 2) hz rfl
        have y3 := hO.sv.cellAt (j := 3) hz rfl
        simp only [lIt, Nat.zero_add, Nat.add_zero, it0] at y0 y1 y2 y3
        have f0 := hO.free (m * 4)
        have f1 := hO.free (m * 4 + 1)
        have f2 := hO.free (m * 4 + 2)
        have f3 := hO.free (m * 4 + 3)
        have i1 : IntKind.i64.wrap (((m + 1 : Nat) : Int) - 1) = (m : Int) := by rw [show ((m + 1 : Nat) : Int) - 1 = (m : Int) by omega]; exact Go.IntWalk.i64_in _ (by omega)
        have KK := ((((Kept.refl (fun k => k = w.heap.size) wr).setCell (m * 4) (.int .i64 xa)).setCell (m * 4 + 1) (.int .i64 xb)).setCell (m * 4 + 2) (.int .i64 xc)).setCell (m * 4 + 3) (.int .i64 xd)
        have x4 := KK.cell hne (blk_cell hb 4)
        have C2 := Lib.hid (hC2.keep KK (fun b' cs fr e hb' => by
          obtain ⟨cur, hc, -⟩ := hO.block
          subst e
          rw [hc] at hb'
          simp only [Option.some.injEq, Obj.cells.injEq] at hb'
          exact absurd hb'.2.1 (by decide)))
        have B3 := Lib.hid (below_set (below_set (below_set (below_set hB (Nat.le_refl _) (m * 4) (.int .i64 xa)) (Nat.le_refl _) (m * 4 + 1) (.int .i64 xb)) (Nat.le_refl _) (m * 4 + 2) (.int .i64 xc)) (Nat.le_refl _) (m * 4 + 3) (.int .i64 xd))
        have j3 : (0 : Int) ≤ (m : Int) := by omega
        have j4 : (m : Int) < (n : Int) := by omega
        have RM := Lib.hid hr
        clear hC2 hO hB KK hb hne hx hr
        go_wp2
        go_roundg m
        case measure => omega
        case rel => exact ⟨q', rfl, rfl, by have := RM.out; omega, C2.out, O2.out, B3.out⟩
end Go.Proofs.YtocigedgicgonaaDoor
