/- The walk of the law CommitsTwice. -/
import Derived.Test.YtkbfhpgcjljbbaaCmFinds
import Derived.Test.YtkbfhpgcjljbbaaCmClash
namespace Go.Proofs.Ytkbfhpgcjljbbaa
set_option linter.unusedVariables false
set_option linter.unusedSimpArgs false
open Go.RowKit

theorem one_part {w : World} {g : Nat} (hg : w.heap.size = g) {s : Sl} {xa : List Wr} (ha : WrV lPw w s.v xa) : PsV (w.alloc (.cells #[s.v] 29)) (.slice (some ⟨g, 0, none⟩) 1 1) [xa] := by
  have b := alloc_below0 w (.cells #[s.v] 29)
  refine ⟨[s], (OwnS.lit lPs g w g hg [s] (Nat.le_refl _) (by simp [maxLen])).sv, rfl, fun i u p hu hp => ?_⟩
  match i, hu, hp with
  | 0, hu, hp => cases Option.some.inj hu; cases Option.some.inj hp; exact ha.below b
theorem one_may {xa : List Wr} (ha : wRight xa = true) (h1 : xa.length ≤ 100) : ∀ p ∈ [xa], wRight p = true ∧ p.length ≤ 100 := fun p hp => by
  rw [List.mem_singleton.1 hp]; exact ⟨ha, h1⟩
theorem same_of {a b : List Rw} (h : a = b) : sameR a b = true := by rw [h]; exact sameR_self b
set_option maxRecDepth 100000 in
set_option maxHeartbeats 4000000 in
theorem lawTwice16 (C : CmC) (v va vb : Value) (rs : List Rw) (xa xb : List Wr) (w : World) (hv : RowsV w v rs) (ha : WrV lDw w va xa) (hb : WrV lDw w vb xb) :
    Calls Try.prog 7 #[v, va, vb] w fun ev w' => ev = .returned (.bool true) ∧ Below w.heap.size w w' := by
  obtain ⟨ra, rc, rfl, rlc, rcm⟩ := hv.lenform
  obtain ⟨aa, ac, rfl, alc, acm⟩ := ha.1.lenform
  obtain ⟨ba, bc, rfl, blc, bcm⟩ := hb.1.lenform
  obtain ⟨n, hn⟩ : ∃ n, rs.length = n := ⟨_, rfl⟩
  obtain ⟨p, hp⟩ : ∃ p, xa.length = p := ⟨_, rfl⟩
  obtain ⟨q, hq⟩ : ∃ q, xb.length = q := ⟨_, rfl⟩
  rw [hn] at hv rlc ⊢
  rw [hp] at ha alc ⊢
  rw [hq] at hb blc ⊢
  have V0 := Lib.hid hv
  have A0 := Lib.hid ha
  have D0 := Lib.hid hb
  have B0 := Lib.hid (Below.refl w.heap.size w)
  have LN := Lib.hid (show rs.length = n ∧ xa.length = p ∧ xb.length = q from ⟨hn, hp, hq⟩)
  unfold maxLen at rcm acm bcm
  clear hv ha hb hn hp hq
  go_enter Try.func7, Try.ntmps7
  go_wp2_with fail
  refine (rfew_any _ rs _ V0.out).mono ?_
  rintro ev w1 ⟨rfl, hs⟩
  have V1 := Lib.hid (RowsV.below hs V0.out)
  have A1 := Lib.hid (A0.out.below hs)
  have D1 := Lib.hid (D0.out.below hs)
  have B1 := Lib.hid (B0.out.trans (hs.mono B0.out.size))
  clear hs V0 A0 D0 B0
  cases hQ1 : fewR rs with
  | false =>
    clear hQ1
    go_wp2_with fail
    refine (awake16 C.T _).mono ?_
    rintro ev wz ⟨rfl, hs⟩
    have BZ := Lib.hid (B1.out.trans (hs.mono B1.out.size))
    clear hs
    go_wp2
    go_ret
    exact ⟨rfl, BZ.out⟩
  | true =>
    have Q1 := Lib.hid (show n ≤ 100 by rw [← LN.out.1]; exact fewR_len hQ1)
    clear hQ1
    go_wp2_with fail
    refine (refRowsRight_any _ rs _ V1.out).mono ?_
    rintro ev w2 ⟨rfl, hs⟩
    have V2 := Lib.hid (RowsV.below hs V1.out)
    have A2 := Lib.hid (A1.out.below hs)
    have D2 := Lib.hid (D1.out.below hs)
    have B2 := Lib.hid (B1.out.trans (hs.mono B1.out.size))
    clear hs V1 A1 D1 B1
    cases hQ2 : rightB rs with
    | false =>
      clear hQ2
      go_wp2_with fail
      refine (awake16 C.T _).mono ?_
      rintro ev wz ⟨rfl, hs⟩
      have BZ := Lib.hid (B2.out.trans (hs.mono B2.out.size))
      clear hs
      go_wp2
      go_ret
      exact ⟨rfl, BZ.out⟩
    | true =>
      have Q2 := Lib.hid (hQ2)
      clear hQ2
      go_wp2_with fail
      refine (wfew_any _ xa _ A2.out).mono ?_
      rintro ev w3 ⟨rfl, hs⟩
      have V3 := Lib.hid (RowsV.below hs V2.out)
      have A3 := Lib.hid (A2.out.below hs)
      have D3 := Lib.hid (D2.out.below hs)
      have B3 := Lib.hid (B2.out.trans (hs.mono B2.out.size))
      clear hs V2 A2 D2 B2
      cases hQ3 : fewW xa with
      | false =>
        clear hQ3
        go_wp2_with fail
        refine (awake16 C.T _).mono ?_
        rintro ev wz ⟨rfl, hs⟩
        have BZ := Lib.hid (B3.out.trans (hs.mono B3.out.size))
        clear hs
        go_wp2
        go_ret
        exact ⟨rfl, BZ.out⟩
      | true =>
        have Q3 := Lib.hid (show p ≤ 40 by rw [← LN.out.2.1]; exact fewW_len hQ3)
        clear hQ3
        go_wp2_with fail
        refine (wfew_any _ xb _ D3.out).mono ?_
        rintro ev w4 ⟨rfl, hs⟩
        have V4 := Lib.hid (RowsV.below hs V3.out)
        have A4 := Lib.hid (A3.out.below hs)
        have D4 := Lib.hid (D3.out.below hs)
        have B4 := Lib.hid (B3.out.trans (hs.mono B3.out.size))
        clear hs V3 A3 D3 B3
        cases hQ4 : fewW xb with
        | false =>
          clear hQ4
          go_wp2_with fail
          refine (awake16 C.T _).mono ?_
          rintro ev wz ⟨rfl, hs⟩
          have BZ := Lib.hid (B4.out.trans (hs.mono B4.out.size))
          clear hs
          go_wp2
          go_ret
          exact ⟨rfl, BZ.out⟩
        | true =>
          have Q4 := Lib.hid (show q ≤ 40 by rw [← LN.out.2.2]; exact fewW_len hQ4)
          clear hQ4
          go_wp2_with fail
          refine (refRight16_any _ xa _ A4.out).mono ?_
          rintro ev w5 ⟨rfl, hs⟩
          have V5 := Lib.hid (RowsV.below hs V4.out)
          have A5 := Lib.hid (A4.out.below hs)
          have D5 := Lib.hid (D4.out.below hs)
          have B5 := Lib.hid (B4.out.trans (hs.mono B4.out.size))
          clear hs V4 A4 D4 B4
          cases hQ5 : wRight xa with
          | false =>
            clear hQ5
            go_wp2_with fail
            refine (awake16 C.T _).mono ?_
            rintro ev wz ⟨rfl, hs⟩
            have BZ := Lib.hid (B5.out.trans (hs.mono B5.out.size))
            clear hs
            go_wp2
            go_ret
            exact ⟨rfl, BZ.out⟩
          | true =>
            have Q5 := Lib.hid (hQ5)
            clear hQ5
            go_wp2_with fail
            refine (refRight16_any _ xb _ D5.out).mono ?_
            rintro ev w6 ⟨rfl, hs⟩
            have V6 := Lib.hid (RowsV.below hs V5.out)
            have A6 := Lib.hid (A5.out.below hs)
            have D6 := Lib.hid (D5.out.below hs)
            have B6 := Lib.hid (B5.out.trans (hs.mono B5.out.size))
            clear hs V5 A5 D5 B5
            cases hQ6 : wRight xb with
            | false =>
              clear hQ6
              go_wp2_with fail
              refine (awake16 C.T _).mono ?_
              rintro ev wz ⟨rfl, hs⟩
              have BZ := Lib.hid (B6.out.trans (hs.mono B6.out.size))
              clear hs
              go_wp2
              go_ret
              exact ⟨rfl, BZ.out⟩
            | true =>
              have Q6 := Lib.hid (hQ6)
              clear hQ6
              go_wp2_with fail
              refine (given_any _ xa _ A6.out (by rw [LN.out.2.1]; have := Q3.out; omega)).mono ?_
              rintro ev w7 ⟨gG, rfl, ho, hs⟩
              obtain ⟨aG, cG, rfl, -, -⟩ := ho.lenN LN.out.2.1
              have G7 := Lib.hid (show WrV lPw w7 (.slice aG p cG) xa from ⟨ho.sv, A6.out.2⟩)
              clear ho
              have V7 := Lib.hid (RowsV.below hs V6.out)
              have A7 := Lib.hid (A6.out.below hs)
              have D7 := Lib.hid (D6.out.below hs)
              have B7 := Lib.hid (B6.out.trans (hs.mono B6.out.size))
              clear hs V6 A6 D6 B6
              have hs := alloc_below0 w7 (.cells #[.slice aG p cG] 29)
              have E8 := Lib.hid (one_part (w := w7) (g := w7.heap.size) rfl (s := (aG, p, cG)) G7.out)
              have V8 := Lib.hid (RowsV.below hs V7.out)
              have A8 := Lib.hid (A7.out.below hs)
              have D8 := Lib.hid (D7.out.below hs)
              have B8 := Lib.hid (B7.out.trans (hs.mono B7.out.size))
              have G8 := Lib.hid (G7.out.below hs)
              clear hs V7 A7 D7 B7 G7
              go_wp2_with fail
              refine (C.W.over _ _ rs [xa] _ V8.out E8.out Q2.out (one_may Q5.out (by rw [LN.out.2.1]; have := Q3.out; omega)) (by rw [LN.out.1]; exact Q1.out) (by simp)).mono ?_
              rintro ev w9 ⟨vR, rfl, hr, hs⟩
              obtain ⟨rR, dR, rfl, -, -⟩ := hr.lenform
              have R9 := Lib.hid hr
              clear hr
              have V9 := Lib.hid (RowsV.below hs V8.out)
              have A9 := Lib.hid (A8.out.below hs)
              have D9 := Lib.hid (D8.out.below hs)
              have B9 := Lib.hid (B8.out.trans (hs.mono B8.out.size))
              clear hs V8 A8 D8 B8
              go_wp2_with fail
              refine (given_any _ xa _ A9.out (by rw [LN.out.2.1]; have := Q3.out; omega)).mono ?_
              rintro ev w10 ⟨gG, rfl, ho, hs⟩
              obtain ⟨aG, cG, rfl, -, -⟩ := ho.lenN LN.out.2.1
              have G10 := Lib.hid (show WrV lPw w10 (.slice aG p cG) xa from ⟨ho.sv, A9.out.2⟩)
              clear ho
              have V10 := Lib.hid (RowsV.below hs V9.out)
              have A10 := Lib.hid (A9.out.below hs)
              have D10 := Lib.hid (D9.out.below hs)
              have B10 := Lib.hid (B9.out.trans (hs.mono B9.out.size))
              have R10 := Lib.hid (RowsV.below hs R9.out)
              clear hs V9 A9 D9 B9 R9
              go_wp2_with fail
              refine (given_any _ xa _ A10.out (by rw [LN.out.2.1]; have := Q3.out; omega)).mono ?_
              rintro ev w11 ⟨gH, rfl, ho, hs⟩
              obtain ⟨aH, cH, rfl, -, -⟩ := ho.lenN LN.out.2.1
              have H11 := Lib.hid (show WrV lPw w11 (.slice aH p cH) xa from ⟨ho.sv, A10.out.2⟩)
              clear ho
              have V11 := Lib.hid (RowsV.below hs V10.out)
              have A11 := Lib.hid (A10.out.below hs)
              have D11 := Lib.hid (D10.out.below hs)
              have B11 := Lib.hid (B10.out.trans (hs.mono B10.out.size))
              have R11 := Lib.hid (RowsV.below hs R10.out)
              have G11 := Lib.hid (G10.out.below hs)
              clear hs V10 A10 D10 B10 R10 G10
              have hs := alloc_below0 w11 (.cells #[.slice aG p cG, .slice aH p cH] 29)
              have E12 := Lib.hid (two_parts (w := w11) (g := w11.heap.size) rfl (s := (aG, p, cG)) (t := (aH, p, cH)) G11.out H11.out)
              have V12 := Lib.hid (RowsV.below hs V11.out)
              have A12 := Lib.hid (A11.out.below hs)
              have D12 := Lib.hid (D11.out.below hs)
              have B12 := Lib.hid (B11.out.trans (hs.mono B11.out.size))
              have R12 := Lib.hid (RowsV.below hs R11.out)
              have G12 := Lib.hid (G11.out.below hs)
              have H12 := Lib.hid (H11.out.below hs)
              clear hs V11 A11 D11 B11 R11 G11 H11
              go_wp2_with fail
              refine (C.W.over _ _ rs [xa, xa] _ V12.out E12.out Q2.out (two_may Q5.out Q5.out (by rw [LN.out.2.1]; have := Q3.out; omega) (by rw [LN.out.2.1]; have := Q3.out; omega)) (by rw [LN.out.1]; exact Q1.out) (by simp)).mono ?_
              rintro ev w13 ⟨vS, rfl, hr, hs⟩
              obtain ⟨rS, dS, rfl, -, -⟩ := hr.lenform
              have S13 := Lib.hid hr
              clear hr
              have V13 := Lib.hid (RowsV.below hs V12.out)
              have A13 := Lib.hid (A12.out.below hs)
              have D13 := Lib.hid (D12.out.below hs)
              have B13 := Lib.hid (B12.out.trans (hs.mono B12.out.size))
              have R13 := Lib.hid (RowsV.below hs R12.out)
              clear hs V12 A12 D12 B12 R12
              go_wp2_with fail
              refine (refSame_any _ _ (overP rs [xa]) (overP rs [xa, xa]) _ R13.out S13.out).mono ?_
              rintro ev w14 ⟨rfl, hs⟩
              rw [same_of (over_twice Q5.out Q2.out).symm]
              have V14 := Lib.hid (RowsV.below hs V13.out)
              have A14 := Lib.hid (A13.out.below hs)
              have D14 := Lib.hid (D13.out.below hs)
              have B14 := Lib.hid (B13.out.trans (hs.mono B13.out.size))
              clear hs V13 A13 D13 B13
              go_wp2
              go_loopg [60] p (fun c i wr => ∃ k : Nat, k + c = p ∧ i = .int .i64 k ∧ (xa.take k).any (fun x => xb.any (fun y => eqB x.1 y.1)) = false ∧ Below w14.heap.size w14 wr)
              case atStart => exact ⟨0, by omega, rfl, rfl, Below.refl _ _⟩
              case round =>
                obtain ⟨k, hk, rfl, hno, hB⟩ := hrel
                have A := Lib.hid (show Below w14.heap.size w14 wr ∧ k + gk = p ∧ (xa.take k).any (fun x => xb.any (fun y => eqB x.1 y.1)) = false from ⟨hB, hk, hno⟩)
                clear hB hno
                by_cases hlt : k < p
                · obtain ⟨x, hx⟩ : ∃ x, xa[k]? = some x := ⟨_, List.getElem?_eq_getElem (by rw [LN.out.2.1]; exact hlt)⟩
                  obtain ⟨b, off, haa⟩ := A14.out.1.addr (by rw [LN.out.2.1]; omega)
                  subst haa
                  obtain ⟨x0, x1, x2⟩ := (A14.out.below A.out.1).cells hx
                  have HX := Lib.hid hx
                  have j3 : (0 : Int) ≤ (k : Int) := by omega
                  have j4 : (k : Int) < (p : Int) := by omega
                  have b4 := alloc_below0 wr (.cells #[.string x.1, .string x.2.1, .bool x.2.2] 54)
                  have P4 := Lib.hid (SB.new x.1 x.2.1 x.2.2 wr 54)
                  have B4 := Lib.hid (A.out.1.trans (b4.mono A.out.1.size))
                  obtain ⟨w4, hw4⟩ : ∃ W, W = wr.alloc (.cells #[.string x.1, .string x.2.1, .bool x.2.2] 54) := ⟨_, rfl⟩
                  rw [← hw4] at P4 B4
                  have D4 := Lib.hid (D14.out.below B4.out)
                  clear hx b4
                  go_wp2
                  rw [← hw4]
                  clear hw4 x0 x1 x2
                  go_loopg [66] q (fun c i wr => ∃ j : Nat, j + c = q ∧ i = .int .i64 j ∧ (xb.take j).any (fun y => eqB x.1 y.1) = false ∧ Below w4.heap.size w4 wr)
                  case atStart => exact ⟨0, by omega, rfl, rfl, Below.refl _ _⟩
                  case round =>
                    obtain ⟨j, hj, rfl, hno, hB⟩ := hrel
                    have D := Lib.hid (show Below w4.heap.size w4 wr ∧ j + gk = q ∧ (xb.take j).any (fun y => eqB x.1 y.1) = false from ⟨hB, hj, hno⟩)
                    clear hB hno
                    by_cases hlj : j < q
                    · obtain ⟨y, hy⟩ : ∃ y, xb[j]? = some y := ⟨_, List.getElem?_eq_getElem (by rw [LN.out.2.2]; exact hlj)⟩
                      obtain ⟨b2, off2, hba⟩ := D4.out.1.addr (by rw [LN.out.2.2]; omega)
                      subst hba
                      obtain ⟨y0, y1, y2⟩ := (D4.out.below D.out.1).cells hy
                      have b5 := alloc_below0 wr (.cells #[.string y.1, .string y.2.1, .bool y.2.2] 54)
                      have z0 := ((P4.out.step D.out.1).step b5).c0
                      have T := Lib.hid (any_next (p := fun y => eqB x.1 y.1) hy)
                      have B5 := Lib.hid (D.out.1.trans (b5.mono D.out.1.size))
                      have i3 : (0 : Int) ≤ (j : Int) := by omega
                      have i4 : (j : Int) < (q : Int) := by omega
                      have i5 : q ≤ 40 := Q4.out
                      clear hy b5
                      cases hw : (x.1.toList == y.1.toList) with
                      | true =>
                        have B6 := Lib.hid ((B14.out.trans (B4.out.mono B14.out.size)).trans (B5.out.mono (B14.out.trans (B4.out.mono B14.out.size)).size))
                        go_wp2_with fail
                        refine (awake16 C.T _).mono ?_
                        rintro ev wz ⟨rfl, hs⟩
                        have BZ := Lib.hid (B6.out.trans (hs.mono B6.out.size))
                        clear hs
                        go_wp2
                        go_ret
                        exact ⟨rfl, BZ.out⟩
                      | false =>
                        have G := Lib.hid (show (xb.take (j + 1)).any (fun y => eqB x.1 y.1) = false by rw [T.out, D.out.2.2]; exact hw)
                        go_wp2
                        go_roundg (q - (j + 1))
                        case measure => have := D.out.2.1; omega
                        case rel => exact ⟨j + 1, by omega, by go_num, G.out, B5.out⟩
                    · obtain rfl : q = j := by have := D.out.2.1; omega
                      have G := Lib.hid (show (xa.take (k + 1)).any (fun x => xb.any (fun y => eqB x.1 y.1)) = false by
                        rw [any_next HX.out, A.out.2.2, ← any_full (p := fun y => eqB x.1 y.1) LN.out.2.2, D.out.2.2]; rfl)
                      have B5 := Lib.hid (B4.out.trans (D.out.1.mono B4.out.size))
                      have j5 : p ≤ 40 := Q3.out
                      go_wp2
                      go_roundg (p - (k + 1))
                      case measure => have := A.out.2.1; omega
                      case rel => exact ⟨k + 1, by omega, by go_num, G.out, B5.out⟩
                · obtain rfl : p = k := by have := A.out.2.1; omega
                  have NM := Lib.hid (show meetW xa xb = false by have h := A.out.2.2; rw [any_full LN.out.2.1] at h; exact h)
                  have hs := A.out.1
                  have V15 := Lib.hid (RowsV.below hs V14.out)
                  have A15 := Lib.hid (A14.out.below hs)
                  have D15 := Lib.hid (D14.out.below hs)
                  have B15 := Lib.hid (B14.out.trans (hs.mono B14.out.size))
                  clear hs V14 A14 D14 B14
                  clear A hlt hk
                  generalize wr = w15 at *
                  go_wp2_with fail
                  refine (given_any _ xa _ A15.out (by rw [LN.out.2.1]; have := Q3.out; omega)).mono ?_
                  rintro ev w16 ⟨gG, rfl, ho, hs⟩
                  obtain ⟨aG, cG, rfl, -, -⟩ := ho.lenN LN.out.2.1
                  have G16 := Lib.hid (show WrV lPw w16 (.slice aG p cG) xa from ⟨ho.sv, A15.out.2⟩)
                  clear ho
                  have V16 := Lib.hid (RowsV.below hs V15.out)
                  have A16 := Lib.hid (A15.out.below hs)
                  have D16 := Lib.hid (D15.out.below hs)
                  have B16 := Lib.hid (B15.out.trans (hs.mono B15.out.size))
                  clear hs V15 A15 D15 B15
                  go_wp2_with fail
                  refine (given_any _ xb _ D16.out (by rw [LN.out.2.2]; have := Q4.out; omega)).mono ?_
                  rintro ev w17 ⟨gH, rfl, ho, hs⟩
                  obtain ⟨aH, cH, rfl, -, -⟩ := ho.lenN LN.out.2.2
                  have H17 := Lib.hid (show WrV lPw w17 (.slice aH q cH) xb from ⟨ho.sv, D16.out.2⟩)
                  clear ho
                  have V17 := Lib.hid (RowsV.below hs V16.out)
                  have A17 := Lib.hid (A16.out.below hs)
                  have D17 := Lib.hid (D16.out.below hs)
                  have B17 := Lib.hid (B16.out.trans (hs.mono B16.out.size))
                  have G17 := Lib.hid (G16.out.below hs)
                  clear hs V16 A16 D16 B16 G16
                  have hs := alloc_below0 w17 (.cells #[.slice aG p cG, .slice aH q cH] 29)
                  have E18 := Lib.hid (two_parts (w := w17) (g := w17.heap.size) rfl (s := (aG, p, cG)) (t := (aH, q, cH)) G17.out H17.out)
                  have V18 := Lib.hid (RowsV.below hs V17.out)
                  have A18 := Lib.hid (A17.out.below hs)
                  have D18 := Lib.hid (D17.out.below hs)
                  have B18 := Lib.hid (B17.out.trans (hs.mono B17.out.size))
                  have G18 := Lib.hid (G17.out.below hs)
                  have H18 := Lib.hid (H17.out.below hs)
                  clear hs V17 A17 D17 B17 G17 H17
                  go_wp2_with fail
                  refine (C.W.over _ _ rs [xa, xb] _ V18.out E18.out Q2.out (two_may Q5.out Q6.out (by rw [LN.out.2.1]; have := Q3.out; omega) (by rw [LN.out.2.2]; have := Q4.out; omega)) (by rw [LN.out.1]; exact Q1.out) (by simp)).mono ?_
                  rintro ev w19 ⟨vR, rfl, hr, hs⟩
                  obtain ⟨rR, dR, rfl, -, -⟩ := hr.lenform
                  have R19 := Lib.hid hr
                  clear hr
                  have V19 := Lib.hid (RowsV.below hs V18.out)
                  have A19 := Lib.hid (A18.out.below hs)
                  have D19 := Lib.hid (D18.out.below hs)
                  have B19 := Lib.hid (B18.out.trans (hs.mono B18.out.size))
                  clear hs V18 A18 D18 B18
                  go_wp2_with fail
                  refine (given_any _ xb _ D19.out (by rw [LN.out.2.2]; have := Q4.out; omega)).mono ?_
                  rintro ev w20 ⟨gG, rfl, ho, hs⟩
                  obtain ⟨aG, cG, rfl, -, -⟩ := ho.lenN LN.out.2.2
                  have G20 := Lib.hid (show WrV lPw w20 (.slice aG q cG) xb from ⟨ho.sv, D19.out.2⟩)
                  clear ho
                  have V20 := Lib.hid (RowsV.below hs V19.out)
                  have A20 := Lib.hid (A19.out.below hs)
                  have D20 := Lib.hid (D19.out.below hs)
                  have B20 := Lib.hid (B19.out.trans (hs.mono B19.out.size))
                  have R20 := Lib.hid (RowsV.below hs R19.out)
                  clear hs V19 A19 D19 B19 R19
                  go_wp2_with fail
                  refine (given_any _ xa _ A20.out (by rw [LN.out.2.1]; have := Q3.out; omega)).mono ?_
                  rintro ev w21 ⟨gH, rfl, ho, hs⟩
                  obtain ⟨aH, cH, rfl, -, -⟩ := ho.lenN LN.out.2.1
                  have H21 := Lib.hid (show WrV lPw w21 (.slice aH p cH) xa from ⟨ho.sv, A20.out.2⟩)
                  clear ho
                  have V21 := Lib.hid (RowsV.below hs V20.out)
                  have A21 := Lib.hid (A20.out.below hs)
                  have D21 := Lib.hid (D20.out.below hs)
                  have B21 := Lib.hid (B20.out.trans (hs.mono B20.out.size))
                  have R21 := Lib.hid (RowsV.below hs R20.out)
                  have G21 := Lib.hid (G20.out.below hs)
                  clear hs V20 A20 D20 B20 R20 G20
                  have hs := alloc_below0 w21 (.cells #[.slice aG q cG, .slice aH p cH] 29)
                  have E22 := Lib.hid (two_parts (w := w21) (g := w21.heap.size) rfl (s := (aG, q, cG)) (t := (aH, p, cH)) G21.out H21.out)
                  have V22 := Lib.hid (RowsV.below hs V21.out)
                  have A22 := Lib.hid (A21.out.below hs)
                  have D22 := Lib.hid (D21.out.below hs)
                  have B22 := Lib.hid (B21.out.trans (hs.mono B21.out.size))
                  have R22 := Lib.hid (RowsV.below hs R21.out)
                  have G22 := Lib.hid (G21.out.below hs)
                  have H22 := Lib.hid (H21.out.below hs)
                  clear hs V21 A21 D21 B21 R21 G21 H21
                  go_wp2_with fail
                  refine (C.W.over _ _ rs [xb, xa] _ V22.out E22.out Q2.out (two_may Q6.out Q5.out (by rw [LN.out.2.2]; have := Q4.out; omega) (by rw [LN.out.2.1]; have := Q3.out; omega)) (by rw [LN.out.1]; exact Q1.out) (by simp)).mono ?_
                  rintro ev w23 ⟨vS, rfl, hr, hs⟩
                  obtain ⟨rS, dS, rfl, -, -⟩ := hr.lenform
                  have S23 := Lib.hid hr
                  clear hr
                  have V23 := Lib.hid (RowsV.below hs V22.out)
                  have A23 := Lib.hid (A22.out.below hs)
                  have D23 := Lib.hid (D22.out.below hs)
                  have B23 := Lib.hid (B22.out.trans (hs.mono B22.out.size))
                  have R23 := Lib.hid (RowsV.below hs R22.out)
                  clear hs V22 A22 D22 B22 R22
                  go_wp2_with fail
                  refine (refSame_any _ _ (overP rs [xa, xb]) (overP rs [xb, xa]) _ R23.out S23.out).mono ?_
                  rintro ev w24 ⟨rfl, hs⟩
                  rw [same_of (over_swap Q5.out Q6.out Q2.out NM.out)]
                  have V24 := Lib.hid (RowsV.below hs V23.out)
                  have A24 := Lib.hid (A23.out.below hs)
                  have D24 := Lib.hid (D23.out.below hs)
                  have B24 := Lib.hid (B23.out.trans (hs.mono B23.out.size))
                  clear hs V23 A23 D23 B23
                  go_wp2_with fail
                  refine (awake16 C.T _).mono ?_
                  rintro ev wz ⟨rfl, hs⟩
                  have BZ := Lib.hid (B24.out.trans (hs.mono B24.out.size))
                  clear hs
                  go_wp2
                  go_ret
                  exact ⟨rfl, BZ.out⟩
end Go.Proofs.Ytkbfhpgcjljbbaa
