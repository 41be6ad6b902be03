/- The walk of the law EpochBins. -/
import Derived.Test.YtocigedgicgonaaEpRipe
import Derived.Test.YtocigedgicgonaaEpAwake
namespace Go.Proofs.Ytocigedgicgonaa
open Go.RowKit

theorem OwnS.noLink {b : Nat} {w : World} {v : Value} {xs : List It} (h : OwnS lIt b w v xs) : NoLink w (fun k => v.ownBlock = some k) := fun g cs fr e hb => by
  obtain ⟨_, h⟩ := h
  rcases h with ⟨rfl, -⟩ | ⟨g1, c1, u1, rfl, -, h1, -⟩
  · cases e
  · obtain rfl : g1 = g := Option.some.inj e
    rw [hb] at h1
    simp only [Option.some.injEq, Obj.cells.injEq] at h1
    exact absurd h1.2.1 (by decide)
/-- an item whose stamp is one less -/
def decI (x : It) : It := ⟨wrap64 (x.s - 1), x.a, x.b, x.p⟩
set_option maxRecDepth 100000 in
set_option maxHeartbeats 4000000 in
theorem lawBins (v z : Value) (xs : List It) (zs : List Int) (w : World) (hv : SV lIt w v xs) (hz : IntsV w z zs) : Calls Try.prog 3 #[v, z] w fun ev w' => ev = .returned (.bool true) ∧ Below w.heap.size w w' := by
  obtain ⟨a, c, rfl, hlc, hcm⟩ := hv.lenform
  obtain ⟨a2, c2, rfl, hl2, hzc⟩ := hz
  obtain ⟨n, hn⟩ : ∃ n, xs.length = n := ⟨_, rfl⟩
  obtain ⟨m, hm⟩ : ∃ m, zs.length = m := ⟨_, rfl⟩
  rw [hn] at hv hlc ⊢
  rw [hm] at hzc hl2 ⊢
  have V := Lib.hid hv
  have Z := Lib.hid hzc
  have N := Lib.hid (show xs.length = n ∧ zs.length = m from ⟨hn, hm⟩)
  have B0 := Lib.hid (Below.refl w.heap.size w)
  clear hv hzc hn hm
  by_cases h1 : 200 < (n : Int)
  · go_enter Try.func3, Try.ntmps3
    go_wp2_with fail
    refine (awakeE _).mono ?_
    rintro ev w1 ⟨rfl, hs⟩
    have B1 := Lib.hid (B0.out.trans (hs.mono B0.out.size))
    clear hs
    go_wp2
    go_ret
    exact ⟨rfl, B1.out⟩
  · by_cases h2 : 200 < (m : Int)
    · go_enter Try.func3, Try.ntmps3
      go_wp2_with fail
      refine (awakeE _).mono ?_
      rintro ev w1 ⟨rfl, hs⟩
      have B1 := Lib.hid (B0.out.trans (hs.mono B0.out.size))
      clear hs
      go_wp2
      go_ret
      exact ⟨rfl, B1.out⟩
    · go_enter Try.func3, Try.ntmps3
      go_wp2
      have b0 := alloc_below0 w (.cells #[.pointer none, .int .i64 0] 27)
      have I0 := Lib.hid (BinAt.zero (blk_new w (.cells #[.pointer none, .int .i64 0] 27)))
      have B1 := Lib.hid b0
      clear b0
      go_loopg [30] n (fun q i wr => ∃ k : Nat, k + q = n ∧ i = .int .i64 k ∧ BinAt wr w.heap.size (xs.take k) ∧ Below w.heap.size w wr)
      case atStart => exact ⟨0, by omega, rfl, I0.out, B1.out⟩
      case round =>
        obtain ⟨k, hk, rfl, hI, hB⟩ := hrel
        have HK := Lib.hid hk
        have B2 := Lib.hid hB
        by_cases hlt : k < n
        · obtain ⟨x, hx⟩ : ∃ x, xs[k]? = some x := ⟨_, List.getElem?_eq_getElem (by rw [N.out.1]; exact hlt)⟩
          obtain ⟨b, off, ha⟩ := V.out.addr (by rw [N.out.1]; omega)
          subst ha
          obtain ⟨e0, e1, e2, e3⟩ := it_read (V.out.below hB) hx
          have bd := alloc_below0 wr (.cells #[.int .i64 x.s, .int .i64 x.a, .int .i64 x.b, .int .i64 x.p] 31)
          have D3 := Lib.hid (hB.trans (bd.mono hB.size))
          have K3 := Lib.hid (blk_new wr (.cells #[.int .i64 x.s, .int .i64 x.a, .int .i64 x.b, .int .i64 x.p] 31))
          have I3 := Lib.hid (hI.low bd)
          have d0 := blk_cell K3.out 0
          have d1 := blk_cell K3.out 1
          have d2 := blk_cell K3.out 2
          have d3 := blk_cell K3.out 3
          have i1 : IntKind.i64.wrap ((k : Int) + 1) = (k : Int) + 1 := Go.IntWalk.i64_in _ (by omega)
          have j3 : (0 : Int) ≤ (k : Int) := by omega
          have j4 : (k : Int) < (n : Int) := by omega
          have TK := Lib.hid (show xs.take (k + 1) = xs.take k ++ [x] by
            obtain ⟨h1, h2⟩ := List.getElem?_eq_some_iff.1 hx
            rw [List.take_succ_eq_append_getElem h1, h2])
          have fa := add_any _ w.heap.size _ x I3.out (by rw [List.length_take, N.out.1]; omega)
          unfold It.val at fa
          clear hk hx hI hB bd
          go_wp2_with fail
          refine fa.mono ?_
          rintro ev w4 ⟨rfl, hI, hkk⟩
          rw [← TK.out] at hI
          have I4 := Lib.hid hI
          have B4 := Lib.hid (D3.out.trans (hkk.below (n := w.heap.size) (fun k e => Nat.le_of_eq e.symm) D3.out.size))
          clear hI hkk fa
          go_wp2
          go_roundg (n - (k + 1))
          case measure => have := HK.out; omega
          case rel => exact ⟨k + 1, by omega, by go_num, I4.out, B4.out⟩
        · obtain rfl : k = n := by omega
          rw [List.take_of_length_le (by rw [N.out.1]; exact Nat.le_refl _)] at hI
          have I2 := Lib.hid hI
          have V2 := Lib.hid (V.out.below hB)
          clear hI hB hk
          have b3 := alloc_below0 wr (.cells #[] 31)
          have B3 := Lib.hid (B2.out.trans (b3.mono B2.out.size))
          have I3 := Lib.hid (I2.out.low b3)
          have V3 := Lib.hid (V2.out.below b3)
          have GT := Lib.hid (show w.heap.size + 1 ≤ wr.heap.size from I2.out.lt)
          have O3 := Lib.hid (show OwnS lIt (w.heap.size + 1) (wr.alloc (.cells #[] 31)) (.slice (some ⟨wr.heap.size, 0, none⟩) 0 0) [] from OwnS.lit lIt (w.heap.size + 1) wr wr.heap.size rfl [] GT.out (by simp [maxLen]))
          clear b3
          go_wp2_with (refine wpList_appL lIt 22 Try.underlying22 lIt_known (by decide) (by decide) rfl (.tmp 37) (.tmp 38) rfl (w.heap.size + 1) rfl rfl O3.out V3.out (by have := N.out; simp; omega) (Nat.le_trans GT.out (by simp)) ?_; intro v4 w4 ho4 hg4 hl4)
          rw [List.nil_append] at ho4
          have B4 := Lib.hid (show Below w.heap.size w w4 from (grown_below (show Below (w.heap.size + 1) (wr.alloc (.cells #[] 31)) (wr.alloc (.cells #[] 31)) from Below.refl _ _) O3.out hg4 (Nat.le_trans GT.out (by simp))) |> fun h => B3.out.trans (h.mono (Nat.le_succ _)))
          have I4 := Lib.hid (I3.out.keep (Kept.of_grown hg4) (fun b cs fr e hb => by
            have := O3.out.bounds b e.symm
            obtain ⟨cur, hc, -⟩ := O3.out.block
            have e2 : b = wr.heap.size := (Option.some.inj e.symm).symm
            subst e2
            rw [hc] at hb
            simp only [Option.some.injEq, Obj.cells.injEq] at hb
            exact absurd hb.2.1 (by decide)) (fun e => by have := GT.out; have := Option.some.inj e; simp at this; omega))
          have O4 := Lib.hid ho4
          have S4 := Lib.hid (show w.heap.size + 1 ≤ w4.heap.size from Nat.le_trans GT.out (Nat.le_trans (by simp) hg4.size))
          have NN := Lib.hid (show k ≤ 200 ∧ m ≤ 200 by omega)
          clear ho4 hg4 hl4
          go_loopg [8, 42] m (fun q rv i wr => ∃ (e : Nat) (ys : List It), e + q = m ∧ i = .int .i64 e ∧ ys.length ≤ k ∧ BinAt wr w.heap.size ys ∧ OwnS lIt (w.heap.size + 1) wr rv ys ∧ Below w.heap.size w wr ∧ w.heap.size + 1 ≤ wr.heap.size)
          case atStart => exact ⟨0, xs, by omega, rfl, by rw [N.out.1]; exact Nat.le_refl _, I4.out, O4.out, B4.out, S4.out⟩
          case round =>
            obtain ⟨e, ys, he, rfl, hy, hI, hO, hB, hS⟩ := hrel
            obtain ⟨wo, hwo⟩ : ∃ x, x = wr := ⟨_, rfl⟩
            subst hwo
            have HE := Lib.hid (show e + gk = m ∧ m ≤ 200 from ⟨he, NN.out.2⟩)
            have B5 := Lib.hid hB
            have S5 := Lib.hid hS
            by_cases hlt : e < m
            · obtain ⟨b2, off2, ha2, hc2⟩ := Z.out e hlt
              subst ha2
              have c2 := cell_step hc2 hB
              obtain ⟨z, hzz⟩ : ∃ z, zs.getD e 0 = z := ⟨_, rfl⟩
              rw [hzz] at c2
              obtain ⟨M0, hM0⟩ : ∃ M0, ys.length = M0 := ⟨_, rfl⟩
              have Y0 := Lib.hid (show ys.length = M0 ∧ M0 ≤ 200 from ⟨hM0, by have := NN.out; omega⟩)
              have YK := Lib.hid hy
              obtain ⟨ra, rc, rfl, hrl, hrm⟩ := hO.lenN hM0
              have O5 := Lib.hid hO
              have i1 : IntKind.i64.wrap ((e : Int) + 1) = (e : Int) + 1 := Go.IntWalk.i64_in _ (by have := NN.out; omega)
              have j3 : (0 : Int) ≤ (e : Int) := by omega
              have j4 : (e : Int) < (m : Int) := by omega
              have fr := ripe_any _ w.heap.size ys z hI (by rw [hM0]; have := Y0.out; omega)
              clear he hc2 hzz hM0 hO hI hB hS hy
              go_wp2_with fail
              refine fr.mono ?_
              rintro ev w5 ⟨v5, rfl, hg, hI, hk5⟩
              have I5 := Lib.hid hI
              have B6 := Lib.hid (B5.out.trans (hk5.below (n := w.heap.size) (fun k e => Nat.le_of_eq e.symm) B5.out.size))
              have R5 := Lib.hid (O5.out.kept hk5 (O5.out.out (S := fun k => k = w.heap.size) (fun k e => by omega)))
              have S6 := Lib.hid (show w.heap.size + 1 ≤ w5.heap.size from Nat.le_trans S5.out hk5.size)
              obtain ⟨P, hP⟩ : ∃ P, (ys.filter (ripeB z)).length = P := ⟨_, rfl⟩
              obtain ⟨R, hR⟩ : ∃ R, (ys.filter fun x => !ripeB z x).length = R := ⟨_, rfl⟩
              obtain ⟨ga, gc, rfl, -, -⟩ := hg.lenN hP
              have G5 := Lib.hid hg
              have PR := Lib.hid (show (ys.filter (ripeB z)).length = P ∧ (ys.filter fun x => !ripeB z x).length = R from ⟨hP, hR⟩)
              have PL := Lib.hid (show P ≤ 200 ∧ R ≤ 200 from ⟨by rw [← hP]; exact Nat.le_trans (List.length_filter_le _ _) (by have := Y0.out; omega), by rw [← hR]; exact Nat.le_trans (List.length_filter_le _ _) (by have := Y0.out; omega)⟩)
              clear hg hI hk5 fr hP hR c2
              go_wp2
              go_loopg [12, 13, 50] M0 (fun r vy vn i wr => ∃ j : Nat, j + r = M0 ∧ i = .int .i64 j ∧ OwnS lIt w5.heap.size wr vy (yesTo z ys j) ∧ OwnS lIt w5.heap.size wr vn (noTo z ys j) ∧ Aprt vy vn ∧ Below w5.heap.size w5 wr)
              case atStart => exact ⟨0, by omega, rfl, OwnS.nil _ _ _, OwnS.nil _ _ _, Aprt.nil _, Below.refl _ _⟩
              case round =>
                obtain ⟨j, hj, rfl, hy, hn, hA, hB⟩ := hrel
                have BB := Lib.hid hB
                have Y := Lib.hid hy
                have M := Lib.hid hn
                have AP := Lib.hid hA
                have HJ := Lib.hid hj
                clear hy hn hA
                by_cases hlt2 : j < M0
                · obtain ⟨x, hx⟩ : ∃ x, ys[j]? = some x := ⟨_, List.getElem?_eq_getElem (by rw [Y0.out.1]; exact hlt2)⟩
                  obtain ⟨b, ha⟩ := R5.out.addrN (by omega)
                  subst ha
                  obtain ⟨e0, e1, e2, e3⟩ := it_read (R5.out.below hB).sv hx
                  simp only [Nat.zero_add] at e0 e1 e2 e3
                  have bd := alloc_below0 wr (.cells #[.int .i64 x.s, .int .i64 x.a, .int .i64 x.b, .int .i64 x.p] 31)
                  have D3 := Lib.hid bd
                  have K3 := Lib.hid (blk_new wr (.cells #[.int .i64 x.s, .int .i64 x.a, .int .i64 x.b, .int .i64 x.p] 31))
                  have B3 := Lib.hid (hB.trans (bd.mono hB.size))
                  have d0 := blk_cell K3.out 0
                  have d1 := blk_cell K3.out 1
                  have d2 := blk_cell K3.out 2
                  have d3 := blk_cell K3.out 3
                  have b7 := alloc_below0 (wr.alloc (.cells #[.int .i64 x.s, .int .i64 x.a, .int .i64 x.b, .int .i64 x.p] 31)) (.cells #[.int .i64 x.s, .int .i64 x.a, .int .i64 x.b, .int .i64 x.p] 31)
                  have S7 := Lib.hid (show SV lIt ((wr.alloc (.cells #[.int .i64 x.s, .int .i64 x.a, .int .i64 x.b, .int .i64 x.p] 31)).alloc (.cells #[.int .i64 x.s, .int .i64 x.a, .int .i64 x.b, .int .i64 x.p] 31)) (.slice (some ⟨wr.heap.size + 1, 0, none⟩) 1 1) [x] by have := one_it (w := wr.alloc (.cells #[.int .i64 x.s, .int .i64 x.a, .int .i64 x.b, .int .i64 x.p] 31)) x; rw [show (wr.alloc (.cells #[.int .i64 x.s, .int .i64 x.a, .int .i64 x.b, .int .i64 x.p] 31)).heap.size = wr.heap.size + 1 by simp] at this; exact this)
                  have BW := Lib.hid (bd.trans (b7.mono bd.size))
                  have B7 := Lib.hid (hB.trans (BW.out.mono hB.size))
                  have Y7 := Lib.hid (Y.out.below BW.out)
                  have M7 := Lib.hid (M.out.below BW.out)
                  have LB := Lib.hid (show (yesTo z ys j).length ≤ 200 ∧ (noTo z ys j).length ≤ 200 by have := yesTo_len z ys j; have := Y0.out; omega)
                  have i2 : IntKind.i64.wrap ((j : Int) + 1) = (j : Int) + 1 := Go.IntWalk.i64_in _ (by have := Y0.out; omega)
                  have j5 : (0 : Int) ≤ (j : Int) := by omega
                  have j6 : (j : Int) < (M0 : Int) := by omega
                  clear hj hB bd b7
                  cases hb : ripeB z x with
                  | true =>
                    have HY := Lib.hid (yesTo_y hx hb)
                    have hd : decide (x.s < z) = true := hb
                    clear hx hb
                    go_wp2_with (refine wpList_appL lIt 22 Try.underlying22 lIt_known (by decide) (by decide) rfl (.tmp 58) (.tmp 60) rfl w5.heap.size rfl rfl Y7.out S7.out (by have := LB.out; simp; omega) (Nat.le_trans B7.out.size (Nat.le_refl _)) ?_; intro v8 w8 ho8 hg8 hl8)
                    have O8 := Lib.hid ho8
                    have P8 := Lib.hid (M7.out.apart hg8 AP.out)
                    have A8 := Lib.hid (AP.out.grown hl8 (fun j hj => (M7.out.bounds j hj).2))
                    have B8 := Lib.hid (grown_below B7.out Y7.out hg8 B7.out.size)
                    clear ho8 hg8 hl8
                    try go_wp2
                    go_roundg (M0 - (j + 1))
                    case measure => have := HJ.out; omega
                    case rel => exact ⟨j + 1, by omega, by go_num, by rw [HY.out.1]; exact O8.out, by rw [HY.out.2]; exact P8.out, A8.out, B8.out⟩
                  | false =>
                    have HY := Lib.hid (yesTo_n hx hb)
                    have hd : decide (x.s < z) = false := hb
                    clear hx hb
                    go_wp2_with (refine wpList_appL lIt 22 Try.underlying22 lIt_known (by decide) (by decide) rfl (.tmp 62) (.tmp 64) rfl w5.heap.size rfl rfl M7.out S7.out (by have := LB.out; simp; omega) (Nat.le_trans B7.out.size (Nat.le_refl _)) ?_; intro v8 w8 ho8 hg8 hl8)
                    have O8 := Lib.hid ho8
                    have P8 := Lib.hid (Y7.out.apart hg8 AP.out.symm)
                    have A8 := Lib.hid (AP.out.symm.grown hl8 (fun j hj => (Y7.out.bounds j hj).2))
                    have B8 := Lib.hid (grown_below B7.out M7.out hg8 B7.out.size)
                    clear ho8 hg8 hl8
                    try go_wp2
                    go_roundg (M0 - (j + 1))
                    case measure => have := HJ.out; omega
                    case rel => exact ⟨j + 1, by omega, by go_num, by rw [HY.out.1]; exact P8.out, by rw [HY.out.2]; exact O8.out, A8.out.symm, B8.out⟩
                · obtain rfl : j = M0 := by omega
                  have ee : yesTo z ys j = ys.filter (ripeB z) ∧ noTo z ys j = ys.filter fun x => !ripeB z x := by unfold yesTo noTo; rw [List.take_of_length_le (by rw [Y0.out.1]; exact Nat.le_refl _)]; exact ⟨rfl, rfl⟩
                  rw [ee.1] at Y
                  rw [ee.2] at M
                  obtain ⟨wa, hwa⟩ : ∃ x, x = wr := ⟨_, rfl⟩
                  subst hwa
                  have I7 := Lib.hid (I5.out.low hB)
                  have B8 := Lib.hid (B6.out.trans (hB.mono B6.out.size))
                  have G7 := Lib.hid (G5.out.below hB)
                  obtain ⟨ya, yc, rfl, -, -⟩ := Y.out.lenN PR.out.1
                  obtain ⟨na, nc, rfl, -, -⟩ := M.out.lenN PR.out.2
                  have S8 := Lib.hid (show w.heap.size + 1 ≤ wa.heap.size from Nat.le_trans S6.out hB.size)
                  have fi := items_any _ w.heap.size _ I7.out (by rw [PR.out.2]; have := PL.out; omega)
                  clear ee hB hj
                  go_wp2_with fail
                  refine fi.mono ?_
                  rintro ev w6 ⟨v6, rfl, ho6, hs6⟩
                  obtain ⟨ia, ic, rfl, -, -⟩ := ho6.lenN PR.out.2
                  have O6 := Lib.hid ho6
                  have G6 := Lib.hid (G7.out.below hs6)
                  have Y6 := Lib.hid (Y.out.below hs6)
                  have M6 := Lib.hid (M.out.below hs6)
                  have I6 := Lib.hid (I7.out.low hs6)
                  have B9 := Lib.hid (B8.out.trans (hs6.mono B8.out.size))
                  have S9 := Lib.hid (show w.heap.size + 1 ≤ w6.heap.size from Nat.le_trans S8.out hs6.size)
                  have fl := len_any w6 w.heap.size _ I6.out
                  rw [PR.out.2] at fl
                  clear ho6 hs6 fi
                  go_wp2_with fail
                  refine fl.mono ?_
                  rintro ev w7 ⟨rfl, hs⟩
                  have O9 := Lib.hid (O6.out.below hs)
                  have G9 := Lib.hid (G6.out.below hs)
                  have Y9 := Lib.hid (Y6.out.below hs)
                  have M9 := Lib.hid (M6.out.below hs)
                  have I9 := Lib.hid (I6.out.low hs)
                  have Ba := Lib.hid (B9.out.trans (hs.mono B9.out.size))
                  have Sa := Lib.hid (Nat.le_trans S9.out hs.size)
                  clear hs fl
                  go_wp2
                  go_loopg [89] P (fun q i wr => ∃ j : Nat, j + q = P ∧ i = .int .i64 j ∧ Below w7.heap.size w7 wr)
                  case atStart => exact ⟨0, by omega, rfl, Below.refl _ _⟩
                  case round =>
                    obtain ⟨j2, hj, rfl, hB⟩ := hrel
                    have HJ := Lib.hid hj
                    have BB := Lib.hid hB
                    by_cases hlt3 : j2 < P
                    · obtain ⟨x, hx⟩ : ∃ x, (ys.filter (ripeB z))[j2]? = some x := ⟨_, List.getElem?_eq_getElem (by rw [PR.out.1]; exact hlt3)⟩
                      obtain ⟨gb, ha⟩ := G9.out.addrN (by omega)
                      subst ha
                      obtain ⟨yb, ha⟩ := Y9.out.addrN (by omega)
                      subst ha
                      obtain ⟨e0, e1, e2, e3⟩ := it_read (G9.out.below hB).sv hx
                      obtain ⟨f0, f1, f2, f3⟩ := it_read (Y9.out.below hB).sv hx
                      simp only [Nat.zero_add] at e0 e1 e2 e3 f0 f1 f2 f3
                      have i2 : IntKind.i64.wrap ((j2 : Int) + 1) = (j2 : Int) + 1 := Go.IntWalk.i64_in _ (by have := PL.out; omega)
                      have j5 : (0 : Int) ≤ (j2 : Int) := by omega
                      have j6 : (j2 : Int) < (P : Int) := by omega
                      have s1 : (x.s == x.s) = true := by simp
                      have s2 : (x.a == x.a) = true := by simp
                      have s3 : (x.b == x.b) = true := by simp
                      have s4 : (x.p == x.p) = true := by simp
                      clear hj hB hx
                      go_wp2
                      go_quiet (fail)
                      go_wp2
                      go_roundg (P - (j2 + 1))
                      case measure => have := HJ.out; omega
                      case rel => exact ⟨j2 + 1, by omega, by go_num, below_drewN BB.out _⟩
                    · obtain rfl : j2 = P := by omega
                      obtain ⟨wb, hwb⟩ : ∃ x, x = wr := ⟨_, rfl⟩
                      subst hwb
                      have Ob := Lib.hid (O9.out.below hB)
                      have Mb := Lib.hid (M9.out.below hB)
                      have Ib := Lib.hid (I9.out.low hB)
                      have Bb := Lib.hid (Ba.out.trans (hB.mono Ba.out.size))
                      have Sb := Lib.hid (Nat.le_trans Sa.out hB.size)
                      have ML := Lib.hid (show ∀ g, (Value.slice na R nc).ownBlock = some g → g < wa.heap.size from fun g hg => (M.out.bounds g hg).2)
                      clear hB hj
                      go_wp2
                      go_loopg [104] R (fun q i wr => ∃ j : Nat, j + q = R ∧ i = .int .i64 j ∧ OwnS lIt wa.heap.size wr (.slice ia R ic) (turned decI (ys.filter fun x => !ripeB z x) j) ∧ Kept (fun g => (Value.slice ia R ic).ownBlock = some g) wb wr)
                      case atStart => exact ⟨0, by omega, rfl, by rw [turned_zero]; exact Ob.out, Kept.refl _ _⟩
                      case round =>
                        obtain ⟨j2, hj, rfl, hO, hK⟩ := hrel
                        have HJ := Lib.hid hj
                        have KK := Lib.hid hK
                        have OO := Lib.hid hO
                        have OUT := Lib.hid (show Out (fun g => (Value.slice ia R ic).ownBlock = some g) (.slice na R nc) from fun aa nn cc hv hs => by
                          have h1 := (hO.bounds _ hs).1
                          have h2 := ML.out aa.block (by rw [hv]; rfl)
                          omega)
                        have MM := Lib.hid (Mb.out.kept hK OUT.out)
                        by_cases hlt3 : j2 < R
                        · obtain ⟨x, hx⟩ : ∃ x, (ys.filter fun x => !ripeB z x)[j2]? = some x := ⟨_, List.getElem?_eq_getElem (by rw [PR.out.2]; exact hlt3)⟩
                          obtain ⟨ig, ha⟩ := hO.addrN (by omega)
                          subst ha
                          obtain ⟨nb, ha⟩ := MM.out.addrN (by omega)
                          subst ha
                          have hx2 := turned_at decI hx
                          obtain ⟨e0, e1, e2, e3⟩ := it_read hO.sv hx2
                          obtain ⟨f0, f1, f2, f3⟩ := it_read MM.out.sv hx
                          simp only [Nat.zero_add] at e0 e1 e2 e3 f0 f1 f2 f3
                          have fz := hO.free (j2 * 4)
                          have SET := Lib.hid (show ∀ wq, OwnS lIt wa.heap.size wq (.slice (some ⟨ig, 0, none⟩) R ic) (turned decI (ys.filter fun x => !ripeB z x) j2) → OwnS lIt wa.heap.size (wq.setCell ⟨ig, j2 * 4, none⟩ (.int .i64 (wrap64 (x.s - 1)))) (.slice (some ⟨ig, 0, none⟩) R ic) (turned decI (ys.filter fun x => !ripeB z x) (j2 + 1)) from fun wq h => by
                            have := h.set (y := decI x) (u := .int .i64 (wrap64 (x.s - 1))) hx2 (j := 0) (by decide) rfl
                            rw [turned_set decI hx]
                            exact this)
                          have i2 : IntKind.i64.wrap ((j2 : Int) + 1) = (j2 : Int) + 1 := Go.IntWalk.i64_in _ (by have := PL.out; omega)
                          have j5 : (0 : Int) ≤ (j2 : Int) := by omega
                          have j6 : (j2 : Int) < (R : Int) := by omega
                          have s1 : (x.s == x.s) = true := by simp
                          have s2 : (x.a == x.a) = true := by simp
                          have s3 : (x.b == x.b) = true := by simp
                          have s4 : (x.p == x.p) = true := by simp
                          clear hj hO hK hx hx2
                          go_wp2
                          go_quiet (fail)
                          go_wp2
                          go_roundg (R - (j2 + 1))
                          case measure => have := HJ.out; omega
                          case rel => exact ⟨j2 + 1, by omega, by go_num, SET.out _ (OO.out.below (below_drewN (Below.refl _ _) _)), Kept.setCellB (KK.out.trans (Kept.of_below (below_drewN (Below.refl _ _) _))) _ _⟩
                        · obtain rfl : j2 = R := by omega
                          have Ic := Lib.hid (Ib.out.keep hK Ob.out.noLink (fun e => by have h1 := (Ob.out.bounds _ e).1; have := S8.out; omega))
                          have Bc := Lib.hid (Bb.out.trans (hK.below (n := w.heap.size) (fun g e => by have h1 := (Ob.out.bounds g e).1; have := S8.out; omega) Bb.out.size))
                          have Sc := Lib.hid (Nat.le_trans Sb.out hK.size)
                          have Mc := Lib.hid (MM.out.mono S6.out)
                          clear hO hK hj
                          go_wp2
                          go_roundg (m - (e + 1))
                          case measure => have := HE.out; omega
                          case rel => exact ⟨e + 1, _, by omega, by go_num, by exact Nat.le_trans (List.length_filter_le _ _) YK.out, Ic.out, Mc.out, Bc.out, Sc.out⟩
            · go_wp2_with fail
              refine (awakeE _).mono ?_
              rintro ev w8 ⟨rfl, hs⟩
              have B8 := Lib.hid (B5.out.trans (hs.mono B5.out.size))
              clear hs
              go_wp2
              go_ret
              exact ⟨rfl, B8.out⟩
end Go.Proofs.Ytocigedgicgonaa
