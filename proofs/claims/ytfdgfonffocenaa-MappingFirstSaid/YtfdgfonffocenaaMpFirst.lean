/- The walk of the law MappingFirst. -/
import Derived.Test.YtfdgfonffocenaaMpDo
namespace Go.Proofs.Ytfdgfonffocenaa
open Go.RowKit

def lRef : Lay Rf := ⟨23, 2, fun r => [.int .i64 r.1, .int .i64 r.2], fun _ => rfl, fun x u h => by simp at h; rcases h with rfl | rfl <;> rfl⟩
theorem one_code (r : Rf) : codeT [some r] 0 = 0 := codeT_at (L := [some r]) (i := 0) (p := some r) rfl
theorem one_head (r : Rf) : headT [some r] 0 = r := headT_at (L := [some r]) (i := 0) rfl
theorem one_swap (r o : Rf) : swapB [some r] 0 o = decide (r = o) := by unfold swapB; rw [one_code, one_head]; simp
theorem one_swapL (r o n : Rf) : swapL [some r] 0 o n = if r = o then [some n] else [some r] := by
  unfold swapL
  rw [one_swap]
  by_cases e : r = o
  · rw [if_pos (by simp [e]), if_pos e]; rfl
  · rw [if_neg (by simp [e]), if_neg e]
set_option maxRecDepth 100000 in
set_option maxHeartbeats 4000000 in
theorem lawFirst (s g : Int) (v : Value) (xs : List Rf) (s2 g2 : Int) (w : World) (hv : SV lRef w v xs) : Calls Try.prog 3 #[refV s g, v, refV s2 g2] w fun ev w' => ev = .returned (.bool true) ∧ Below w.heap.size w w' := by
  obtain ⟨a, c, rfl, hlc, hcm⟩ := hv.lenform
  obtain ⟨m, hm⟩ : ∃ m, xs.length = m := ⟨_, rfl⟩
  rw [hm] at hv hlc ⊢
  obtain ⟨W, hW⟩ : ∃ W, W = (w.alloc (.cells #[.int .i64 s, .int .i64 g] 23)).alloc (.cells #[.int .i64 s2, .int .i64 g2] 23) := ⟨_, rfl⟩
  have z1 : (w.alloc (.cells #[.int .i64 s, .int .i64 g] 23)).heap.size = w.heap.size + 1 := by simp
  have b1 := alloc_below0 w (.cells #[.int .i64 s, .int .i64 g] 23)
  have b2 := alloc_below0 (w.alloc (.cells #[.int .i64 s, .int .i64 g] 23)) (.cells #[.int .i64 s2, .int .i64 g2] 23)
  have B0 := Lib.hid (show Below w.heap.size w W by rw [hW]; exact b1.trans (b2.mono b1.size))
  have O0 := Lib.hid (show RfAt W w.heap.size s g by rw [hW]; exact (RfAt.new w s g _).step b2)
  have P0 := Lib.hid (show RfAt W (w.heap.size + 1) s2 g2 by rw [hW, ← z1]; exact RfAt.new _ s2 g2 _)
  have V := Lib.hid (hv.below B0.out)
  clear hv b1 b2 z1
  unfold refV
  by_cases h1 : 100 < (m : Int)
  · go_enter Try.func3, Try.ntmps3
    go_wp2_with fail
    rw [← hW]
    refine (awakeM _).mono ?_
    rintro ev w1 ⟨rfl, hs⟩
    have B1 := Lib.hid (B0.out.trans (hs.mono B0.out.size))
    clear hs hW
    go_wp2
    go_ret
    exact ⟨rfl, B1.out⟩
  · go_enter Try.func3, Try.ntmps3
    go_wp2_with fail
    rw [← hW]
    refine (new_any 1 _ (by decide) (by decide)).mono ?_
    rintro ev w1 ⟨ab, pb, rfl, hT, g1, g2', hs⟩
    have T1 := Lib.hid hT
    have S1 := Lib.hid g2'
    have B1 := Lib.hid hs
    clear hT g1 g2' hs hW
    go_wp2_with fail
    refine (take_any _ ab pb 1 _ T1.out).mono ?_
    rintro ev w2 ⟨rfl, hT, hk⟩
    rw [show takeN (pages0 1) = 0 from rfl, show errV (takeE (pages0 1)) = .nilIface from rfl]
    have T2 := Lib.hid (show TabAt w2 ab pb 1 [some (0, 0)] from hT)
    have B2 := Lib.hid (B1.out.trans (hk.below (n := W.heap.size) (fun k e => e ▸ S1.out) B1.out.size))
    have o0 := (O0.out.step B2.out).c0
    have o1 := (O0.out.step B2.out).c1
    clear hT hk
    go_wp2_with fail
    refine (swap_any _ ab pb 1 _ 0 0 0 s g T2.out).mono ?_
    rintro ev w3 ⟨rfl, hT, hk⟩
    rw [one_swap, errV_at (one_code _), show decide (((0, 0) : Rf) = (0, 0)) = true from rfl]
    rw [one_swapL, if_pos rfl] at hT
    have T3 := Lib.hid hT
    have B3 := Lib.hid (B2.out.trans (hk.below (n := W.heap.size) (fun k e => e ▸ S1.out) B2.out.size))
    clear hT hk o0 o1
    go_wp2_with fail
    go_loopg [12, 49] m (fun r d i wz => ∃ (k : Nat) (q : Int) (c1 c2 : Int), k + r = m ∧ i = .int .i64 k ∧ d = .int .i64 q ∧ (q = 0 ∧ c1 = s ∧ c2 = g ∨ q = 1 ∧ ¬ ((c1, c2) : Rf) = (s, g)) ∧ TabAt wz ab pb 1 [some (c1, c2)] ∧ Below W.heap.size W wz)
    case atStart => exact ⟨0, 0, s, g, by omega, rfl, rfl, .inl ⟨rfl, rfl, rfl⟩, T3.out, B3.out⟩
    case round =>
      obtain ⟨k, q, c1, c2, hk, rfl, rfl, hq, hT, hB⟩ := hrel
      have T4 := Lib.hid hT
      have B4 := Lib.hid hB
      have Q := Lib.hid hq
      clear hT hB hq
      by_cases hlt : k < m
      · obtain ⟨b, off, rfl⟩ := V.out.addr (by omega)
        obtain ⟨⟨x, y⟩, hx⟩ : ∃ z, xs[k]? = some z := ⟨_, List.getElem?_eq_getElem (by omega)⟩
        have V4 := V.out.below B4.out
        have e0 := V4.cellAt (j := 0) hx rfl
        have e1 := V4.cellAt (j := 1) hx rfl
        simp only [lRef, Nat.add_zero] at e0 e1
        have i1 : IntKind.i64.wrap ((k : Int) + 1) = (k : Int) + 1 := Go.IntWalk.i64_in _ (by omega)
        have j3 : (0 : Int) ≤ (k : Int) := by omega
        have j4 : (k : Int) < (m : Int) := by omega
        have bx := alloc_below0 wr (.cells #[.int .i64 x, .int .i64 y] 23)
        have B5 := Lib.hid (B4.out.trans (bx.mono B4.out.size))
        have T5 := Lib.hid (T4.out.low bx)
        have o0 := (O0.out.step B5.out).c0
        have o1 := (O0.out.step B5.out).c1
        have X5 := Lib.hid (RfAt.new wr x y 23)
        clear V4 hx bx
        by_cases hxo : x = s ∧ y = g
        · obtain ⟨rfl, rfl⟩ := hxo
          have q1 : (x == x) = true := by simp
          have q2 : (y == y) = true := by simp
          go_wp2_with fail
          go_roundg (m - (k + 1))
          case measure => omega
          case rel => exact ⟨k + 1, q, c1, c2, by omega, by go_num, rfl, Q.out, T5.out, B5.out⟩
        · have x0 := X5.out.c0
          have XL := Lib.hid (show wr.heap.size ≠ pb by have := T4.out.ltP; omega)
          by_cases hxs : x = s
          · have hyg : ¬ y = g := fun e => hxo ⟨hxs, e⟩
            have q1 : (x == s) = true := by simp [hxs]
            have q2 : (y == g) = false := by simp [hyg]
            have HO := Lib.hid hxo
            clear hxs hxo
            rcases Q.out with ⟨rfl, hc1, hc2⟩ | ⟨rfl, hne⟩
            · have T5' := Lib.hid (show TabAt _ ab pb 1 [some (s, g)] by have h := T5.out; rw [hc1, hc2] at h; exact h)
              clear hc1 hc2 T5
              go_wp2_with fail
              refine (swap_any _ ab pb 1 _ 0 s g x y T5'.out).mono ?_
              rintro ev w6 ⟨rfl, hT, hk6⟩
              rw [one_swap, errV_at (one_code _), decide_eq_true rfl]
              rw [one_swapL, if_pos rfl] at hT
              have T6 := Lib.hid hT
              have B6 := Lib.hid (B5.out.trans (hk6.below (n := W.heap.size) (fun k e => e ▸ S1.out) B5.out.size))
              have X6 := Lib.hid (X5.out.keep hk6 (by have := XL.out; omega))
              clear hT hk6
              go_wp2_with fail
              refine (head_any _ ab pb 1 _ 0 T6.out).mono ?_
              rintro ev w7 ⟨rfl, hs⟩
              rw [one_head, errV_at (one_code _)]
              unfold refV
              have by' := alloc_below0 w7 (.cells #[.int .i64 x, .int .i64 y] 23)
              have B7 := Lib.hid ((B6.out.trans (hs.mono B6.out.size)).trans (by'.mono (B6.out.trans (hs.mono B6.out.size)).size))
              have X7 := (X6.out.step hs).step by'
              have T7 := Lib.hid ((T6.out.low hs).low by')
              have Y7 := RfAt.new w7 x y 23
              have x0 := X7.c0
              have x1 := X7.c1
              have y0 := Y7.c0
              have y1 := Y7.c1
              have p1 : (x == x) = true := by simp
              have p2 : (y == y) = true := by simp
              have HN := Lib.hid (show ¬ ((x, y) : Rf) = (s, g) from fun e => HO.out (by simpa using e))
              clear hs by' X7 Y7
              go_wp2_with fail
              go_roundg (m - (k + 1))
              case measure => omega
              case rel => exact ⟨k + 1, 1, x, y, by omega, by go_num, by go_num, .inr ⟨rfl, HN.out⟩, T7.out, B7.out⟩
            · have HN := Lib.hid hne
              clear hne
              go_wp2_with fail
              refine (swap_any _ ab pb 1 _ 0 s g x y T5.out).mono ?_
              rintro ev w6 ⟨rfl, hT, hk6⟩
              rw [one_swap, errV_at (one_code _), decide_eq_false HN.out]
              rw [one_swapL, if_neg HN.out] at hT
              have T6 := Lib.hid hT
              have B6 := Lib.hid (B5.out.trans (hk6.below (n := W.heap.size) (fun k e => e ▸ S1.out) B5.out.size))
              clear hT hk6
              go_wp2_with fail
              go_roundg (m - (k + 1))
              case measure => omega
              case rel => exact ⟨k + 1, 1, c1, c2, by omega, by go_num, rfl, .inr ⟨rfl, HN.out⟩, T6.out, B6.out⟩
          · have q1 : (x == s) = false := by simp [hxs]
            have HO := Lib.hid hxo
            clear hxs hxo
            rcases Q.out with ⟨rfl, hc1, hc2⟩ | ⟨rfl, hne⟩
            · have T5' := Lib.hid (show TabAt _ ab pb 1 [some (s, g)] by have h := T5.out; rw [hc1, hc2] at h; exact h)
              clear hc1 hc2 T5
              go_wp2_with fail
              refine (swap_any _ ab pb 1 _ 0 s g x y T5'.out).mono ?_
              rintro ev w6 ⟨rfl, hT, hk6⟩
              rw [one_swap, errV_at (one_code _), decide_eq_true rfl]
              rw [one_swapL, if_pos rfl] at hT
              have T6 := Lib.hid hT
              have B6 := Lib.hid (B5.out.trans (hk6.below (n := W.heap.size) (fun k e => e ▸ S1.out) B5.out.size))
              have X6 := Lib.hid (X5.out.keep hk6 (by have := XL.out; omega))
              clear hT hk6
              go_wp2_with fail
              refine (head_any _ ab pb 1 _ 0 T6.out).mono ?_
              rintro ev w7 ⟨rfl, hs⟩
              rw [one_head, errV_at (one_code _)]
              unfold refV
              have by' := alloc_below0 w7 (.cells #[.int .i64 x, .int .i64 y] 23)
              have B7 := Lib.hid ((B6.out.trans (hs.mono B6.out.size)).trans (by'.mono (B6.out.trans (hs.mono B6.out.size)).size))
              have X7 := (X6.out.step hs).step by'
              have T7 := Lib.hid ((T6.out.low hs).low by')
              have Y7 := RfAt.new w7 x y 23
              have x0 := X7.c0
              have x1 := X7.c1
              have y0 := Y7.c0
              have y1 := Y7.c1
              have p1 : (x == x) = true := by simp
              have p2 : (y == y) = true := by simp
              have HN := Lib.hid (show ¬ ((x, y) : Rf) = (s, g) from fun e => HO.out (by simpa using e))
              clear hs by' X7 Y7
              go_wp2_with fail
              go_roundg (m - (k + 1))
              case measure => omega
              case rel => exact ⟨k + 1, 1, x, y, by omega, by go_num, by go_num, .inr ⟨rfl, HN.out⟩, T7.out, B7.out⟩
            · have HN := Lib.hid hne
              clear hne
              go_wp2_with fail
              refine (swap_any _ ab pb 1 _ 0 s g x y T5.out).mono ?_
              rintro ev w6 ⟨rfl, hT, hk6⟩
              rw [one_swap, errV_at (one_code _), decide_eq_false HN.out]
              rw [one_swapL, if_neg HN.out] at hT
              have T6 := Lib.hid hT
              have B6 := Lib.hid (B5.out.trans (hk6.below (n := W.heap.size) (fun k e => e ▸ S1.out) B5.out.size))
              clear hT hk6
              go_wp2_with fail
              go_roundg (m - (k + 1))
              case measure => omega
              case rel => exact ⟨k + 1, 1, c1, c2, by omega, by go_num, rfl, .inr ⟨rfl, HN.out⟩, T6.out, B6.out⟩
      · obtain rfl : k = m := by omega
        go_wp2_with fail
        refine (head_any _ ab pb 1 _ 0 T4.out).mono ?_
        rintro ev w7 ⟨rfl, hs⟩
        rw [one_head, errV_at (one_code _)]
        unfold refV
        have bh := alloc_below0 w7 (.cells #[.int .i64 c1, .int .i64 c2] 23)
        have B7 := Lib.hid ((B4.out.trans (hs.mono B4.out.size)).trans (bh.mono (B4.out.trans (hs.mono B4.out.size)).size))
        have T7 := Lib.hid ((T4.out.low hs).low bh)
        have H7 := Lib.hid (RfAt.new w7 c1 c2 23)
        have HL := Lib.hid (show w7.heap.size ≠ pb by have := (T4.out.low hs).ltP; omega)
        have p0 := (P0.out.step B7.out).c0
        have p1 := (P0.out.step B7.out).c1
        clear hs bh
        go_wp2_with fail
        refine (swap_any _ ab pb 1 _ 0 s2 g2 (-9) (-9) T7.out).mono ?_
        rintro ev w8 ⟨rfl, hT, hk8⟩
        rw [one_swap, errV_at (one_code _)]
        have B8 := Lib.hid (B7.out.trans (hk8.below (n := W.heap.size) (fun k e => e ▸ S1.out) B7.out.size))
        have H8 := H7.out.keep hk8 (by have := HL.out; omega)
        have h0 := H8.c0
        have h1 := H8.c1
        have p0 := (P0.out.step B8.out).c0
        have p1 := (P0.out.step B8.out).c1
        have D := Lib.hid (show (decide (((c1, c2) : Rf) = (s2, g2)) = true ∧ (s2 == c1) = true ∧ (g2 == c2) = true) ∨ (decide (((c1, c2) : Rf) = (s2, g2)) = false ∧ (s2 == c1) = true ∧ (g2 == c2) = false) ∨ (decide (((c1, c2) : Rf) = (s2, g2)) = false ∧ (s2 == c1) = false) by
          by_cases e1 : c1 = s2
          · by_cases e2 : c2 = g2
            · left; simp [e1, e2]
            · right; left; simp [e1, e2, Ne.symm e2]
          · right; right; simp [e1, Ne.symm e1])
        have QQ := Lib.hid (show 0 ≤ q ∧ q ≤ 1 by rcases Q.out with ⟨h, -⟩ | ⟨h, -⟩ <;> omega)
        clear hT hk8 H8
        have q1 : q ≤ 1 := QQ.out.2
        rcases D.out with ⟨d1, d2, d3⟩ | ⟨d1, d2, d3⟩ | ⟨d1, d2⟩
        · rw [d1]
          go_wp2_with fail
          refine (awakeM _).mono ?_
          rintro ev w9 ⟨rfl, hs⟩
          have B9 := Lib.hid ((B0.out.trans (B8.out.mono B0.out.size)).trans (hs.mono (B0.out.trans (B8.out.mono B0.out.size)).size))
          clear hs
          go_wp2
          go_ret
          exact ⟨rfl, B9.out⟩
        · rw [d1]
          go_wp2_with fail
          refine (awakeM _).mono ?_
          rintro ev w9 ⟨rfl, hs⟩
          have B9 := Lib.hid ((B0.out.trans (B8.out.mono B0.out.size)).trans (hs.mono (B0.out.trans (B8.out.mono B0.out.size)).size))
          clear hs
          go_wp2
          go_ret
          exact ⟨rfl, B9.out⟩
        · rw [d1]
          go_wp2_with fail
          refine (awakeM _).mono ?_
          rintro ev w9 ⟨rfl, hs⟩
          have B9 := Lib.hid ((B0.out.trans (B8.out.mono B0.out.size)).trans (hs.mono (B0.out.trans (B8.out.mono B0.out.size)).size))
          clear hs
          go_wp2
          go_ret
          exact ⟨rfl, B9.out⟩
end Go.Proofs.Ytfdgfonffocenaa
