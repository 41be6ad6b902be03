/- The walk of the law CommitsFinds. -/
import Derived.Test.YtkbfhpgcjljbbaaCmOver
import Derived.Test.YtkbfhpgcjljbbaaCmClear
import Derived.Test.YtkbfhpgcjljbbaaRwMore
namespace Go.Proofs.Ytkbfhpgcjljbbaa
set_option linter.unusedVariables false
set_option linter.unusedSimpArgs false
open Go.RowKit

theorem two_sl (w : World) (g : Nat) (hg : w.heap.size = g) (s t : Sl) : SV lPs (w.alloc (.cells #[s.v, t.v] 29)) (.slice (some ⟨g, 0, none⟩) 2 2) [s, t] :=
  (OwnS.lit lPs g w g hg [s, t] (Nat.le_refl _) (by simp [maxLen])).sv
/-- two lists written out as parts -/
theorem two_parts {w : World} {g : Nat} (hg : w.heap.size = g) {s t : Sl} {xa xb : List Wr} (ha : WrV lPw w s.v xa) (hb : WrV lPw w t.v xb) : PsV (w.alloc (.cells #[s.v, t.v] 29)) (.slice (some ⟨g, 0, none⟩) 2 2) [xa, xb] := by
  have b := alloc_below0 w (.cells #[s.v, t.v] 29)
  refine ⟨[s, t], two_sl w g hg s t, rfl, fun i u p hu hp => ?_⟩
  match i, hu, hp with
  | 0, hu, hp => cases Option.some.inj hu; cases Option.some.inj hp; exact ha.below b
  | 1, hu, hp => cases Option.some.inj hu; cases Option.some.inj hp; exact hb.below b
theorem two_may {xa xb : List Wr} (ha : wRight xa = true) (hb : wRight xb = true) (h1 : xa.length ≤ 100) (h2 : xb.length ≤ 100) : ∀ p ∈ [xa, xb], wRight p = true ∧ p.length ≤ 100 := fun p hp => by
  simp at hp
  rcases hp with rfl | rfl
  · exact ⟨ha, h1⟩
  · exact ⟨hb, h2⟩
theorem lk_there {l : List Rw} {k : ByteArray} {r : Rw} (h : lk l k = some r) : (fnd l k).2 = true ∧ (fnd l k).1 < l.length ∧ l.getD (fnd l k).1 r0 = r := by
  unfold lk at h
  cases hf : (fnd l k).2 with
  | false => rw [hf] at h; cases h
  | true =>
    rw [hf] at h
    exact ⟨rfl, (fnd_there l k hf).1, Option.some.inj h⟩
theorem lk_gone {l : List Rw} {k : ByteArray} (h : lk l k = none) : (fnd l k).2 = false := by
  unfold lk at h
  cases hf : (fnd l k).2 with
  | false => rfl
  | true => rw [hf] at h; cases h
theorem findW_key {k : ByteArray} {ps : List (List Wr)} {x : Wr} (h : findW k ps = some x) : x.1 = k := by
  unfold findW at h
  obtain ⟨p, -, hp⟩ := List.exists_of_findSome?_eq_some h
  have hp' : List.find? (fun x => eqB x.1 k) p = some x := hp
  exact (eqB_iff _ _).1 (by simpa using List.find?_some hp')
set_option maxRecDepth 100000 in
set_option maxHeartbeats 4000000 in
theorem lawFinds (C : CmC) (v va vb : Value) (rs : List Rw) (xa xb : List Wr) (key : ByteArray) (w : World) (hv : RowsV w v rs) (ha : WrV lDw w va xa) (hb : WrV lDw w vb xb) (hkey : key.size ≤ maxLen) :
    Calls Try.prog 4 #[v, va, vb, .string key] w fun ev w' => ev = .returned (.bool true) ∧ Below w.heap.size w w' := by
  obtain ⟨ra, rc, rfl, rlc, rcm⟩ := hv.lenform
  obtain ⟨aa, ac, rfl, alc, acm⟩ := ha.1.lenform
  obtain ⟨ba, bc, rfl, blc, bcm⟩ := hb.1.lenform
  obtain ⟨n, hn⟩ : ∃ n, rs.length = n := ⟨_, rfl⟩
  obtain ⟨p, hp⟩ : ∃ p, xa.length = p := ⟨_, rfl⟩
  obtain ⟨q, hq⟩ : ∃ q, xb.length = q := ⟨_, rfl⟩
  rw [hn] at hv rlc ⊢
  rw [hp] at ha alc ⊢
  rw [hq] at hb blc ⊢
  have V0 := Lib.hid hv
  have A0 := Lib.hid ha
  have D0 := Lib.hid hb
  have B0 := Lib.hid (Below.refl w.heap.size w)
  have LN := Lib.hid (show rs.length = n ∧ xa.length = p ∧ xb.length = q ∧ key.size ≤ maxLen from ⟨hn, hp, hq, hkey⟩)
  unfold maxLen at hkey rcm acm bcm
  clear hv ha hb hn hp hq
  go_enter Try.func4, Try.ntmps4
  go_wp2_with fail
  refine (rfew_any _ rs _ V0.out).mono ?_
  rintro ev w1 ⟨rfl, hs⟩
  have V1 := Lib.hid (RowsV.below hs V0.out)
  have A1 := Lib.hid (A0.out.below hs)
  have D1 := Lib.hid (D0.out.below hs)
  have B1 := Lib.hid (B0.out.trans (hs.mono B0.out.size))
  clear hs V0 A0 D0 B0
  cases hQ1 : fewR rs with
  | false =>
    clear hQ1
    go_wp2_with fail
    refine (awake16 C.T _).mono ?_
    rintro ev wz ⟨rfl, hs⟩
    have BZ := Lib.hid (B1.out.trans (hs.mono B1.out.size))
    clear hs
    go_wp2
    go_ret
    exact ⟨rfl, BZ.out⟩
  | true =>
    have Q1 := Lib.hid (show n ≤ 100 by rw [← LN.out.1]; exact fewR_len hQ1)
    clear hQ1
    go_wp2_with fail
    refine (refRowsRight_any _ rs _ V1.out).mono ?_
    rintro ev w2 ⟨rfl, hs⟩
    have V2 := Lib.hid (RowsV.below hs V1.out)
    have A2 := Lib.hid (A1.out.below hs)
    have D2 := Lib.hid (D1.out.below hs)
    have B2 := Lib.hid (B1.out.trans (hs.mono B1.out.size))
    clear hs V1 A1 D1 B1
    cases hQ2 : rightB rs with
    | false =>
      clear hQ2
      go_wp2_with fail
      refine (awake16 C.T _).mono ?_
      rintro ev wz ⟨rfl, hs⟩
      have BZ := Lib.hid (B2.out.trans (hs.mono B2.out.size))
      clear hs
      go_wp2
      go_ret
      exact ⟨rfl, BZ.out⟩
    | true =>
      have Q2 := Lib.hid (hQ2)
      clear hQ2
      go_wp2_with fail
      refine (wfew_any _ xa _ A2.out).mono ?_
      rintro ev w3 ⟨rfl, hs⟩
      have V3 := Lib.hid (RowsV.below hs V2.out)
      have A3 := Lib.hid (A2.out.below hs)
      have D3 := Lib.hid (D2.out.below hs)
      have B3 := Lib.hid (B2.out.trans (hs.mono B2.out.size))
      clear hs V2 A2 D2 B2
      cases hQ3 : fewW xa with
      | false =>
        clear hQ3
        go_wp2_with fail
        refine (awake16 C.T _).mono ?_
        rintro ev wz ⟨rfl, hs⟩
        have BZ := Lib.hid (B3.out.trans (hs.mono B3.out.size))
        clear hs
        go_wp2
        go_ret
        exact ⟨rfl, BZ.out⟩
      | true =>
        have Q3 := Lib.hid (show p ≤ 40 by rw [← LN.out.2.1]; exact fewW_len hQ3)
        clear hQ3
        go_wp2_with fail
        refine (wfew_any _ xb _ D3.out).mono ?_
        rintro ev w4 ⟨rfl, hs⟩
        have V4 := Lib.hid (RowsV.below hs V3.out)
        have A4 := Lib.hid (A3.out.below hs)
        have D4 := Lib.hid (D3.out.below hs)
        have B4 := Lib.hid (B3.out.trans (hs.mono B3.out.size))
        clear hs V3 A3 D3 B3
        cases hQ4 : fewW xb with
        | false =>
          clear hQ4
          go_wp2_with fail
          refine (awake16 C.T _).mono ?_
          rintro ev wz ⟨rfl, hs⟩
          have BZ := Lib.hid (B4.out.trans (hs.mono B4.out.size))
          clear hs
          go_wp2
          go_ret
          exact ⟨rfl, BZ.out⟩
        | true =>
          have Q4 := Lib.hid (show q ≤ 40 by rw [← LN.out.2.2.1]; exact fewW_len hQ4)
          clear hQ4
          go_wp2_with fail
          refine (refRight16_any _ xa _ A4.out).mono ?_
          rintro ev w5 ⟨rfl, hs⟩
          have V5 := Lib.hid (RowsV.below hs V4.out)
          have A5 := Lib.hid (A4.out.below hs)
          have D5 := Lib.hid (D4.out.below hs)
          have B5 := Lib.hid (B4.out.trans (hs.mono B4.out.size))
          clear hs V4 A4 D4 B4
          cases hQ5 : wRight xa with
          | false =>
            clear hQ5
            go_wp2_with fail
            refine (awake16 C.T _).mono ?_
            rintro ev wz ⟨rfl, hs⟩
            have BZ := Lib.hid (B5.out.trans (hs.mono B5.out.size))
            clear hs
            go_wp2
            go_ret
            exact ⟨rfl, BZ.out⟩
          | true =>
            have Q5 := Lib.hid (hQ5)
            clear hQ5
            go_wp2_with fail
            refine (refRight16_any _ xb _ D5.out).mono ?_
            rintro ev w6 ⟨rfl, hs⟩
            have V6 := Lib.hid (RowsV.below hs V5.out)
            have A6 := Lib.hid (A5.out.below hs)
            have D6 := Lib.hid (D5.out.below hs)
            have B6 := Lib.hid (B5.out.trans (hs.mono B5.out.size))
            clear hs V5 A5 D5 B5
            cases hQ6 : wRight xb with
            | false =>
              clear hQ6
              go_wp2_with fail
              refine (awake16 C.T _).mono ?_
              rintro ev wz ⟨rfl, hs⟩
              have BZ := Lib.hid (B6.out.trans (hs.mono B6.out.size))
              clear hs
              go_wp2
              go_ret
              exact ⟨rfl, BZ.out⟩
            | true =>
              have Q6 := Lib.hid (hQ6)
              clear hQ6
              by_cases hz : key.size ≤ 100
              · go_wp2_with fail
                refine (given_any _ xa _ A6.out (by rw [LN.out.2.1]; have := Q3.out; omega)).mono ?_
                rintro ev w7 ⟨ga, rfl, ho, hs⟩
                obtain ⟨ea, ec, rfl, -, -⟩ := ho.lenN LN.out.2.1
                have GA := Lib.hid (show WrV lPw w7 (.slice ea p ec) xa from ⟨ho.sv, A6.out.2⟩)
                have V7 := Lib.hid (RowsV.below hs V6.out)
                have A7 := Lib.hid (A6.out.below hs)
                have D7 := Lib.hid (D6.out.below hs)
                have B7 := Lib.hid (B6.out.trans (hs.mono B6.out.size))
                clear hs ho V6 A6 D6 B6
                go_wp2_with fail
                refine (given_any _ xb _ D7.out (by rw [LN.out.2.2.1]; have := Q4.out; omega)).mono ?_
                rintro ev w8 ⟨gb, rfl, ho, hs⟩
                obtain ⟨fa, fc, rfl, -, -⟩ := ho.lenN LN.out.2.2.1
                have b9 := alloc_below0 w8 (.cells #[.slice ea p ec, .slice fa q fc] 29)
                have P9 := Lib.hid (two_parts (w := w8) (g := w8.heap.size) rfl (s := (ea, p, ec)) (t := (fa, q, fc)) (GA.out.below hs) ⟨ho.sv, D7.out.2⟩)
                have V9 := Lib.hid (RowsV.below b9 (RowsV.below hs V7.out))
                have A9 := Lib.hid ((A7.out.below hs).below b9)
                have D9 := Lib.hid ((D7.out.below hs).below b9)
                have b8 := B7.out.trans (hs.mono B7.out.size)
                have B9 := Lib.hid (b8.trans (b9.mono b8.size))
                have MY := Lib.hid (two_may Q5.out Q6.out (by rw [LN.out.2.1]; have := Q3.out; omega) (by rw [LN.out.2.2.1]; have := Q4.out; omega))
                clear hs ho b8 b9 V7 A7 D7 B7 GA
                go_wp2_with fail
                refine (C.W.find _ key [xa, xb] _ P9.out LN.out.2.2.2 MY.out (by simp)).mono ?_
                rintro ev w10 ⟨rfl, hs⟩
                have V10 := Lib.hid (RowsV.below hs V9.out)
                have A10 := Lib.hid (A9.out.below hs)
                have D10 := Lib.hid (D9.out.below hs)
                have B10 := Lib.hid (B9.out.trans (hs.mono B9.out.size))
                clear hs V9 A9 D9 B9 P9
                obtain ⟨⟨fx, fy, fg⟩, hfx⟩ : ∃ x, (findW key [xa, xb]).getD w00 = x := ⟨_, rfl⟩
                obtain ⟨fb, hfb⟩ : ∃ x, (findW key [xa, xb]).isSome = x := ⟨_, rfl⟩
                have FF := Lib.hid (show (findW key [xa, xb]).getD w00 = (fx, fy, fg) ∧ (findW key [xa, xb]).isSome = fb from ⟨hfx, hfb⟩)
                rw [hfx, hfb]
                have ba := alloc_below0 w10 (.cells #[.string fx, .string fy, .bool fg] 41)
                have S11 := Lib.hid (SB.new fx fy fg w10 41)
                have V11 := Lib.hid (RowsV.below ba V10.out)
                have A11 := Lib.hid (A10.out.below ba)
                have D11 := Lib.hid (D10.out.below ba)
                have B11 := Lib.hid (B10.out.trans (ba.mono B10.out.size))
                clear ba V10 A10 D10 B10 hfx hfb
                simp only
                go_wp2_with fail
                refine (refOver_any _ _ rs xa _ V11.out A11.out (by rw [LN.out.1]; have := Q1.out; omega) (by rw [LN.out.2.1]; have := Q3.out; omega)).mono ?_
                rintro ev w12 ⟨v1, rfl, hr, hs⟩
                have R12 := Lib.hid hr
                have S12 := Lib.hid (S11.out.step hs)
                have V12 := Lib.hid (RowsV.below hs V11.out)
                have D12 := Lib.hid (D11.out.below hs)
                have B12 := Lib.hid (B11.out.trans (hs.mono B11.out.size))
                clear hs hr S11 V11 A11 D11 B11
                have OL := Lib.hid (show (overW rs xa).length ≤ 300 by have h1 := overW_len xa rs; have h2 := LN.out.1; have h3 := Q1.out; have h4 := LN.out.2.1; have h5 := Q3.out; omega)
                go_wp2_with fail
                refine (refOver_any _ _ (overW rs xa) xb _ R12.out D12.out OL.out (by rw [LN.out.2.2.1]; have := Q4.out; omega)).mono ?_
                rintro ev w13 ⟨v2, rfl, hr, hs⟩
                obtain ⟨L, hL⟩ : ∃ L, overW (overW rs xa) xb = L := ⟨_, rfl⟩
                rw [hL] at hr
                have HL := Lib.hid hL
                have S13 := Lib.hid (S12.out.step hs)
                have V13 := Lib.hid (RowsV.below hs V12.out)
                have B13 := Lib.hid (B12.out.trans (hs.mono B12.out.size))
                obtain ⟨oa, oc, rfl, -, ocm⟩ := hr.lenform
                obtain ⟨m, hm⟩ : ∃ m, L.length = m := ⟨_, rfl⟩
                rw [hm] at hr ⊢
                have R13 := Lib.hid hr
                have LM := Lib.hid hm
                have LKF := Lib.hid (show ∀ k, lk L k = byW (findW k [xa, xb]) (lk rs k) by rw [← HL.out]; exact fun k => lk_overP (ps := [xa, xb]) (fun p hp => (MY.out p hp).1) Q2.out k)
                clear hs hr S12 V12 D12 B12 R12 hL hm OL
                go_wp2_with fail
                refine (refFind_any _ L key _ R13.out LN.out.2.2.2).mono ?_
                rintro ev w14 ⟨rfl, hs⟩
                have S14 := Lib.hid (S13.out.step hs)
                have V14 := Lib.hid (RowsV.below hs V13.out)
                have R14 := Lib.hid (RowsV.below hs R13.out)
                have B14 := Lib.hid (B13.out.trans (hs.mono B13.out.size))
                clear hs S13 V13 R13 B13
                cases hw : findW key [xa, xb] with
                | none =>
                  have E := Lib.hid (show lk L key = lk rs key by rw [LKF.out key, hw]; rfl)
                  obtain ⟨e1, e2⟩ := FF.out
                  rw [hw] at e1 e2
                  obtain ⟨rfl, rfl, rfl⟩ : (⟨#[]⟩ : ByteArray) = fx ∧ (⟨#[]⟩ : ByteArray) = fy ∧ false = fg := by simpa [w00] using e1
                  obtain rfl : false = fb := by simpa using e2
                  clear hw e1 e2 FF
                  obtain ⟨i, hi⟩ : ∃ i, (fnd L key).1 = i := ⟨_, rfl⟩
                  obtain ⟨t, ht⟩ : ∃ t, (fnd L key).2 = t := ⟨_, rfl⟩
                  have FL := Lib.hid (show (fnd L key).1 = i ∧ (fnd L key).2 = t from ⟨hi, ht⟩)
                  rw [hi, ht]
                  clear hi ht
                  go_wp2_with fail
                  refine (refFind_any _ rs key _ V14.out LN.out.2.2.2).mono ?_
                  rintro ev w15 ⟨rfl, hs⟩
                  have S15 := Lib.hid (S14.out.step hs)
                  have V15 := Lib.hid (RowsV.below hs V14.out)
                  have R15 := Lib.hid (RowsV.below hs R14.out)
                  have B15 := Lib.hid (B14.out.trans (hs.mono B14.out.size))
                  clear hs S14 V14 R14 B14
                  obtain ⟨j, hj⟩ : ∃ j, (fnd rs key).1 = j := ⟨_, rfl⟩
                  obtain ⟨t2, ht2⟩ : ∃ t, (fnd rs key).2 = t := ⟨_, rfl⟩
                  have FR := Lib.hid (show (fnd rs key).1 = j ∧ (fnd rs key).2 = t2 from ⟨hj, ht2⟩)
                  rw [hj, ht2]
                  have c0 := S15.out.c0
                  have c1 := S15.out.c1
                  have c2 := S15.out.c2
                  clear hj ht2
                  cases t2 with
                  | false =>
                    obtain rfl : false = t := by have := lk_no E.out FR.out.2; rw [FL.out.2] at this; exact this.symm
                    go_wp2_with fail
                    refine anyH_region (fun w' => w'.cell? ⟨w10.heap.size, 0, none⟩ = some (.string ⟨#[]⟩) ∧ w'.cell? ⟨w10.heap.size, 1, none⟩ = some (.string ⟨#[]⟩) ∧ w'.cell? ⟨w10.heap.size, 2, none⟩ = some (.bool false)) (by kernel_rfl) ?_
                    refine wpAnyH_take (i := 0) (oi := ⟨some 79, _, _, _, _, _⟩) (v := ?vt1_0) rfl (by kernel_rfl) (by kernel_rfl) (by kernel_rfl) (fun _ _ _ h => h) (Or.inl ⟨by rfl, ?hyt1_0⟩) ⟨c0, c1, c2⟩ ?restt1_0
                    case hyt1_0 => (intro w hSw; have q0 := hSw.1; have q1 := hSw.2.1; have q2 := hSw.2.2; go_simp; try (with_reducible rfl))
                    simp only [Act.put, List.setIfInBounds_toArray, List.set_cons_zero, List.set_cons_succ]
                    refine wpAnyH_take (i := 1) (oi := ⟨some 80, _, _, _, _, _⟩) (v := ?vt1_1) rfl (by kernel_rfl) (by kernel_rfl) (by kernel_rfl) (fun _ _ _ h => h) (Or.inl ⟨by rfl, ?hyt1_1⟩) ⟨c0, c1, c2⟩ ?restt1_1
                    case hyt1_1 => (intro w hSw; go_simp; try (with_reducible rfl))
                    simp only [Act.put, List.setIfInBounds_toArray, List.set_cons_zero, List.set_cons_succ]
                    refine wpAnyH_take (i := 2) (oi := ⟨some 81, _, _, _, _, _⟩) (v := ?vt1_2) rfl (by kernel_rfl) (by kernel_rfl) (by kernel_rfl) (fun _ _ _ h => h) (Or.inl ⟨by rfl, ?hyt1_2⟩) ⟨c0, c1, c2⟩ ?restt1_2
                    case hyt1_2 => (intro w hSw; have q0 := hSw.1; have q1 := hSw.2.1; have q2 := hSw.2.2; go_simp; try (with_reducible rfl))
                    simp only [Act.put, List.setIfInBounds_toArray, List.set_cons_zero, List.set_cons_succ]
                    refine wpAnyH_take (i := 3) (oi := ⟨some 82, _, _, _, _, _⟩) (v := ?vt1_3) rfl (by kernel_rfl) (by kernel_rfl) (by kernel_rfl) (fun _ _ _ h => h) (Or.inl ⟨by rfl, ?hyt1_3⟩) ⟨c0, c1, c2⟩ ?restt1_3
                    case hyt1_3 => (intro w hSw; go_simp; try (with_reducible rfl))
                    simp only [Act.put, List.setIfInBounds_toArray, List.set_cons_zero, List.set_cons_succ]
                    refine wpAnyH_take (i := 4) (oi := ⟨some 83, _, _, _, _, _⟩) (v := ?vt1_4) rfl (by kernel_rfl) (by kernel_rfl) (by kernel_rfl) (fun _ _ _ h => h) (Or.inl ⟨by rfl, ?hyt1_4⟩) ⟨c0, c1, c2⟩ ?restt1_4
                    case hyt1_4 => (intro w hSw; go_simp; try (with_reducible rfl))
                    simp only [Act.put, List.setIfInBounds_toArray, List.set_cons_zero, List.set_cons_succ]
                    refine wpAnyH_take (i := 5) (oi := ⟨some 84, _, _, _, _, _⟩) (v := ?vt1_5) rfl (by kernel_rfl) (by kernel_rfl) (by kernel_rfl) (fun _ _ _ h => h) (Or.inl ⟨by rfl, ?hyt1_5⟩) ⟨c0, c1, c2⟩ ?restt1_5
                    case hyt1_5 => (intro w hSw; go_simp; try (with_reducible rfl))
                    simp only [Act.put, List.setIfInBounds_toArray, List.set_cons_zero, List.set_cons_succ]
                    refine wpAnyH_take (i := 6) (oi := ⟨some 85, _, _, _, _, _⟩) (v := ?vt1_6) rfl (by kernel_rfl) (by kernel_rfl) (by kernel_rfl) (fun _ _ _ h => h) (Or.inl ⟨by rfl, ?hyt1_6⟩) ⟨c0, c1, c2⟩ ?restt1_6
                    case hyt1_6 => (intro w hSw; have q0 := hSw.1; have q1 := hSw.2.1; have q2 := hSw.2.2; go_simp; try (with_reducible rfl))
                    simp only [Act.put, List.setIfInBounds_toArray, List.set_cons_zero, List.set_cons_succ]
                    refine wpAnyH_take (i := 7) (oi := ⟨some 86, _, _, _, _, _⟩) (v := ?vt1_7) rfl (by kernel_rfl) (by kernel_rfl) (by kernel_rfl) (fun _ _ _ h => h) (Or.inl ⟨by rfl, ?hyt1_7⟩) ⟨c0, c1, c2⟩ ?restt1_7
                    case hyt1_7 => (intro w hSw; go_simp; try (with_reducible rfl))
                    simp only [Act.put, List.setIfInBounds_toArray, List.set_cons_zero, List.set_cons_succ]
                    refine wpAnyH_take (i := 8) (oi := ⟨some 87, _, _, _, _, _⟩) (v := ?vt1_8) rfl (by kernel_rfl) (by kernel_rfl) (by kernel_rfl) (fun _ _ _ h => h) (Or.inl ⟨by rfl, ?hyt1_8⟩) ⟨c0, c1, c2⟩ ?restt1_8
                    case hyt1_8 => (intro w hSw; go_simp; try (with_reducible rfl))
                    simp only [Act.put, List.setIfInBounds_toArray, List.set_cons_zero, List.set_cons_succ]
                    refine wpAnyH_take (i := 9) (oi := ⟨some 88, _, _, _, _, _⟩) (v := ?vt1_9) rfl (by kernel_rfl) (by kernel_rfl) (by kernel_rfl) (fun _ _ _ h => h) (Or.inl ⟨by rfl, ?hyt1_9⟩) ⟨c0, c1, c2⟩ ?restt1_9
                    case hyt1_9 => (intro w hSw; go_simp; try (with_reducible rfl))
                    simp only [Act.put, List.setIfInBounds_toArray, List.set_cons_zero, List.set_cons_succ]
                    refine wpAnyH_take (i := 10) (oi := ⟨some 89, _, _, _, _, _⟩) (v := ?vt1_10) rfl (by kernel_rfl) (by kernel_rfl) (by kernel_rfl) (fun _ _ _ h => h) (Or.inl ⟨by rfl, ?hyt1_10⟩) ⟨c0, c1, c2⟩ ?restt1_10
                    case hyt1_10 => (intro w hSw; have q0 := hSw.1; have q1 := hSw.2.1; have q2 := hSw.2.2; go_simp; try (with_reducible rfl))
                    simp only [Act.put, List.setIfInBounds_toArray, List.set_cons_zero, List.set_cons_succ]
                    refine wpAnyH_take (i := 11) (oi := ⟨some 90, _, _, _, _, _⟩) (v := ?vt1_11) rfl (by kernel_rfl) (by kernel_rfl) (by kernel_rfl) (fun _ _ _ h => h) (Or.inl ⟨by rfl, ?hyt1_11⟩) ⟨c0, c1, c2⟩ ?restt1_11
                    case hyt1_11 => (intro w hSw; go_simp; try (with_reducible rfl))
                    simp only [Act.put, List.setIfInBounds_toArray, List.set_cons_zero, List.set_cons_succ]
                    refine wpAnyH_take (i := 12) (oi := ⟨some 91, _, _, _, _, _⟩) (v := undef) rfl (by kernel_rfl) (by kernel_rfl) (by kernel_rfl) (fun _ _ _ h => h) (Or.inr ⟨by rfl, rfl⟩) ⟨c0, c1, c2⟩ ?restt1_12
                    simp only [Act.put, List.setIfInBounds_toArray, List.set_cons_zero, List.set_cons_succ]
                    refine wpAnyH_take (i := 13) (oi := ⟨some 92, _, _, _, _, _⟩) (v := undef) rfl (by kernel_rfl) (by kernel_rfl) (by kernel_rfl) (fun _ _ _ h => h) (Or.inr ⟨by rfl, rfl⟩) ⟨c0, c1, c2⟩ ?restt1_13
                    simp only [Act.put, List.setIfInBounds_toArray, List.set_cons_zero, List.set_cons_succ]
                    refine wpAnyH_take (i := 14) (oi := ⟨some 93, _, _, _, _, _⟩) (v := undef) rfl (by kernel_rfl) (by kernel_rfl) (by kernel_rfl) (fun _ _ _ h => h) (Or.inr ⟨by rfl, rfl⟩) ⟨c0, c1, c2⟩ ?restt1_14
                    simp only [Act.put, List.setIfInBounds_toArray, List.set_cons_zero, List.set_cons_succ]
                    refine wpAnyH_take (i := 15) (oi := ⟨some 94, _, _, _, _, _⟩) (v := undef) rfl (by kernel_rfl) (by kernel_rfl) (by kernel_rfl) (fun _ _ _ h => h) (Or.inr ⟨by rfl, rfl⟩) ⟨c0, c1, c2⟩ ?restt1_15
                    simp only [Act.put, List.setIfInBounds_toArray, List.set_cons_zero, List.set_cons_succ]
                    refine wpAnyH_take (i := 16) (oi := ⟨some 95, _, _, _, _, _⟩) (v := undef) rfl (by kernel_rfl) (by kernel_rfl) (by kernel_rfl) (fun _ _ _ h => h) (Or.inr ⟨by rfl, rfl⟩) ⟨c0, c1, c2⟩ ?restt1_16
                    simp only [Act.put, List.setIfInBounds_toArray, List.set_cons_zero, List.set_cons_succ]
                    refine wpAnyH_take (i := 17) (oi := ⟨some 96, _, _, _, _, _⟩) (v := undef) rfl (by kernel_rfl) (by kernel_rfl) (by kernel_rfl) (fun _ _ _ h => h) (Or.inr ⟨by rfl, rfl⟩) ⟨c0, c1, c2⟩ ?restt1_17
                    simp only [Act.put, List.setIfInBounds_toArray, List.set_cons_zero, List.set_cons_succ]
                    refine wpAnyH_take (i := 18) (oi := ⟨some 97, _, _, _, _, _⟩) (v := undef) rfl (by kernel_rfl) (by kernel_rfl) (by kernel_rfl) (fun _ _ _ h => h) (Or.inr ⟨by rfl, rfl⟩) ⟨c0, c1, c2⟩ ?restt1_18
                    simp only [Act.put, List.setIfInBounds_toArray, List.set_cons_zero, List.set_cons_succ]
                    refine wpAnyH_take (i := 19) (oi := ⟨some 98, _, _, _, _, _⟩) (v := undef) rfl (by kernel_rfl) (by kernel_rfl) (by kernel_rfl) (fun _ _ _ h => h) (Or.inr ⟨by rfl, rfl⟩) ⟨c0, c1, c2⟩ ?restt1_19
                    simp only [Act.put, List.setIfInBounds_toArray, List.set_cons_zero, List.set_cons_succ]
                    refine wpAnyH_take (i := 20) (oi := ⟨some 99, _, _, _, _, _⟩) (v := undef) rfl (by kernel_rfl) (by kernel_rfl) (by kernel_rfl) (fun _ _ _ h => h) (Or.inr ⟨by rfl, rfl⟩) ⟨c0, c1, c2⟩ ?restt1_20
                    simp only [Act.put, List.setIfInBounds_toArray, List.set_cons_zero, List.set_cons_succ]
                    refine wpAnyH_take (i := 21) (oi := ⟨some 100, _, _, _, _, _⟩) (v := ?vt1_21) rfl (by kernel_rfl) (by kernel_rfl) (by kernel_rfl) (fun _ _ _ h => h) (Or.inl ⟨by rfl, ?hyt1_21⟩) ⟨c0, c1, c2⟩ ?restt1_21
                    case hyt1_21 => (intro w hSw; go_simp; try (with_reducible rfl))
                    simp only [Act.put, List.setIfInBounds_toArray, List.set_cons_zero, List.set_cons_succ]
                    refine wpAnyH_take (i := 22) (oi := ⟨some 101, _, _, _, _, _⟩) (v := ?vt1_22) rfl (by kernel_rfl) (by kernel_rfl) (by kernel_rfl) (fun _ _ _ h => h) (Or.inl ⟨by rfl, ?hyt1_22⟩) ⟨c0, c1, c2⟩ ?restt1_22
                    case hyt1_22 => (intro w hSw; go_simp; try (with_reducible rfl))
                    simp only [Act.put, List.setIfInBounds_toArray, List.set_cons_zero, List.set_cons_succ]
                    refine wpAnyH_take (i := 23) (oi := ⟨some 102, _, _, _, _, _⟩) (v := ?vt1_23) rfl (by kernel_rfl) (by kernel_rfl) (by kernel_rfl) (fun _ _ _ h => h) (Or.inl ⟨by rfl, ?hyt1_23⟩) ⟨c0, c1, c2⟩ ?restt1_23
                    case hyt1_23 => (intro w hSw; go_simp; try (with_reducible rfl))
                    simp only [Act.put, List.setIfInBounds_toArray, List.set_cons_zero, List.set_cons_succ]
                    refine anyH_one (i := 24) (o := ⟨some 103, _, _, _, _, _⟩) (by kernel_rfl) rfl (fun K hK => ?_)
                    rw [if_pos (by rfl)]
                    go_simp
                    refine (awake16 C.T _).mono ?_
                    rintro e wy ⟨rfl, hs⟩
                    have BY := Lib.hid (B15.out.drew.trans (hs.mono B15.out.drew.size))
                    have y_c0 := (hs.cell (p := ⟨w10.heap.size, 0, none⟩) (lt_of_cell c0)).trans c0
                    have y_c1 := (hs.cell (p := ⟨w10.heap.size, 1, none⟩) (lt_of_cell c1)).trans c1
                    have y_c2 := (hs.cell (p := ⟨w10.heap.size, 2, none⟩) (lt_of_cell c2)).trans c2
                    clear hs
                    refine hK.out _ _ ⟨y_c0, y_c1, y_c2⟩ ?_
                    clear hK K
                    try simp only [Act.put, List.setIfInBounds_toArray, List.set_cons_zero, List.set_cons_succ]
                    refine wpAnyH_take (i := 25) (oi := ⟨some 104, _, _, _, _, _⟩) (v := ?vt1_25) rfl (by kernel_rfl) (by kernel_rfl) (by kernel_rfl) (fun _ _ _ h => h) (Or.inl ⟨by rfl, ?hyt1_25⟩) ⟨y_c0, y_c1, y_c2⟩ ?restt1_25
                    case hyt1_25 => (intro w hSw; go_simp; try (with_reducible rfl))
                    simp only [Act.put, List.setIfInBounds_toArray, List.set_cons_zero, List.set_cons_succ]
                    refine wpAnyH_take (i := 26) (oi := ⟨some 8, _, _, _, _, _⟩) (v := ?vt1_26) rfl (by kernel_rfl) (by kernel_rfl) (by kernel_rfl) (fun _ _ _ h => h) (Or.inl ⟨by rfl, ?hyt1_26⟩) ⟨y_c0, y_c1, y_c2⟩ ?restt1_26
                    case hyt1_26 => (intro w hSw; go_simp; try (with_reducible rfl))
                    simp only [Act.put, List.setIfInBounds_toArray, List.set_cons_zero, List.set_cons_succ]
                    refine wpAnyH_done (by kernel_rfl) ?_ _
                    go_wp2
                    go_ret
                    exact ⟨rfl, BY.out⟩
                  | true =>
                    obtain ⟨y1, y2⟩ := lk_yes E.out FR.out.2
                    obtain rfl : true = t := by rw [FL.out.2] at y1; exact y1.symm
                    rw [FL.out.1, FR.out.1] at y2
                    have i1 : i < m := by have := (fnd_there L key FL.out.2).1; rw [FL.out.1, LM.out] at this; exact this
                    have i2 : j < n := by have := (fnd_there rs key FR.out.2).1; rw [FR.out.1, LN.out.1] at this; exact this
                    obtain ⟨b1, o1, ha1⟩ := R15.out.addr (by rw [LM.out]; omega)
                    obtain ⟨b2, o2, ha2⟩ := V15.out.addr (by rw [LN.out.1]; omega)
                    subst ha1 ha2
                    obtain ⟨d0, d1⟩ := R15.out.cellsAt i (by rw [LM.out]; exact i1)
                    obtain ⟨f0, f1⟩ := V15.out.cellsAt j (by rw [LN.out.1]; exact i2)
                    rw [y2] at d0 d1
                    obtain ⟨⟨z1, z2⟩, hz⟩ : ∃ r, rs.getD j r0 = r := ⟨_, rfl⟩
                    rw [hz] at d0 d1 f0 f1
                    simp only at d0 d1 f0 f1
                    have k1 : (0 : Int) ≤ (i : Int) := by omega
                    have k2 : (i : Int) < (m : Int) := by omega
                    have k3 : (0 : Int) ≤ (j : Int) := by omega
                    have k4 : (j : Int) < (n : Int) := by omega
                    clear y1 y2 hz
                    go_wp2_with fail
                    refine anyH_region (fun w' => w'.cell? ⟨w10.heap.size, 0, none⟩ = some (.string ⟨#[]⟩) ∧ w'.cell? ⟨w10.heap.size, 1, none⟩ = some (.string ⟨#[]⟩) ∧ w'.cell? ⟨w10.heap.size, 2, none⟩ = some (.bool false) ∧ w'.cell? ⟨b1, o1 + i * 2, none⟩ = some (.string z1) ∧ w'.cell? ⟨b1, o1 + i * 2 + 1, none⟩ = some (.string z2) ∧ w'.cell? ⟨b2, o2 + j * 2, none⟩ = some (.string z1) ∧ w'.cell? ⟨b2, o2 + j * 2 + 1, none⟩ = some (.string z2)) (by kernel_rfl) ?_
                    refine wpAnyH_take (i := 0) (oi := ⟨some 79, _, _, _, _, _⟩) (v := ?vt2_0) rfl (by kernel_rfl) (by kernel_rfl) (by kernel_rfl) (fun _ _ _ h => h) (Or.inl ⟨by rfl, ?hyt2_0⟩) ⟨c0, c1, c2, d0, d1, f0, f1⟩ ?restt2_0
                    case hyt2_0 => (intro w hSw; have q0 := hSw.1; have q1 := hSw.2.1; have q2 := hSw.2.2.1; have q3 := hSw.2.2.2.1; have q4 := hSw.2.2.2.2.1; have q5 := hSw.2.2.2.2.2.1; have q6 := hSw.2.2.2.2.2.2; go_simp; try (with_reducible rfl))
                    simp only [Act.put, List.setIfInBounds_toArray, List.set_cons_zero, List.set_cons_succ]
                    refine wpAnyH_take (i := 1) (oi := ⟨some 80, _, _, _, _, _⟩) (v := ?vt2_1) rfl (by kernel_rfl) (by kernel_rfl) (by kernel_rfl) (fun _ _ _ h => h) (Or.inl ⟨by rfl, ?hyt2_1⟩) ⟨c0, c1, c2, d0, d1, f0, f1⟩ ?restt2_1
                    case hyt2_1 => (intro w hSw; go_simp; try (with_reducible rfl))
                    simp only [Act.put, List.setIfInBounds_toArray, List.set_cons_zero, List.set_cons_succ]
                    refine wpAnyH_take (i := 2) (oi := ⟨some 81, _, _, _, _, _⟩) (v := ?vt2_2) rfl (by kernel_rfl) (by kernel_rfl) (by kernel_rfl) (fun _ _ _ h => h) (Or.inl ⟨by rfl, ?hyt2_2⟩) ⟨c0, c1, c2, d0, d1, f0, f1⟩ ?restt2_2
                    case hyt2_2 => (intro w hSw; have q0 := hSw.1; have q1 := hSw.2.1; have q2 := hSw.2.2.1; have q3 := hSw.2.2.2.1; have q4 := hSw.2.2.2.2.1; have q5 := hSw.2.2.2.2.2.1; have q6 := hSw.2.2.2.2.2.2; go_simp; try (with_reducible rfl))
                    simp only [Act.put, List.setIfInBounds_toArray, List.set_cons_zero, List.set_cons_succ]
                    refine wpAnyH_take (i := 3) (oi := ⟨some 82, _, _, _, _, _⟩) (v := ?vt2_3) rfl (by kernel_rfl) (by kernel_rfl) (by kernel_rfl) (fun _ _ _ h => h) (Or.inl ⟨by rfl, ?hyt2_3⟩) ⟨c0, c1, c2, d0, d1, f0, f1⟩ ?restt2_3
                    case hyt2_3 => (intro w hSw; go_simp; try (with_reducible rfl))
                    simp only [Act.put, List.setIfInBounds_toArray, List.set_cons_zero, List.set_cons_succ]
                    refine wpAnyH_take (i := 4) (oi := ⟨some 83, _, _, _, _, _⟩) (v := ?vt2_4) rfl (by kernel_rfl) (by kernel_rfl) (by kernel_rfl) (fun _ _ _ h => h) (Or.inl ⟨by rfl, ?hyt2_4⟩) ⟨c0, c1, c2, d0, d1, f0, f1⟩ ?restt2_4
                    case hyt2_4 => (intro w hSw; go_simp; try (with_reducible rfl))
                    simp only [Act.put, List.setIfInBounds_toArray, List.set_cons_zero, List.set_cons_succ]
                    refine wpAnyH_take (i := 5) (oi := ⟨some 84, _, _, _, _, _⟩) (v := ?vt2_5) rfl (by kernel_rfl) (by kernel_rfl) (by kernel_rfl) (fun _ _ _ h => h) (Or.inl ⟨by rfl, ?hyt2_5⟩) ⟨c0, c1, c2, d0, d1, f0, f1⟩ ?restt2_5
                    case hyt2_5 => (intro w hSw; go_simp; try (with_reducible rfl))
                    simp only [Act.put, List.setIfInBounds_toArray, List.set_cons_zero, List.set_cons_succ]
                    refine wpAnyH_take (i := 6) (oi := ⟨some 85, _, _, _, _, _⟩) (v := ?vt2_6) rfl (by kernel_rfl) (by kernel_rfl) (by kernel_rfl) (fun _ _ _ h => h) (Or.inl ⟨by rfl, ?hyt2_6⟩) ⟨c0, c1, c2, d0, d1, f0, f1⟩ ?restt2_6
                    case hyt2_6 => (intro w hSw; have q0 := hSw.1; have q1 := hSw.2.1; have q2 := hSw.2.2.1; have q3 := hSw.2.2.2.1; have q4 := hSw.2.2.2.2.1; have q5 := hSw.2.2.2.2.2.1; have q6 := hSw.2.2.2.2.2.2; go_simp; try (with_reducible rfl))
                    simp only [Act.put, List.setIfInBounds_toArray, List.set_cons_zero, List.set_cons_succ]
                    refine wpAnyH_take (i := 7) (oi := ⟨some 86, _, _, _, _, _⟩) (v := ?vt2_7) rfl (by kernel_rfl) (by kernel_rfl) (by kernel_rfl) (fun _ _ _ h => h) (Or.inl ⟨by rfl, ?hyt2_7⟩) ⟨c0, c1, c2, d0, d1, f0, f1⟩ ?restt2_7
                    case hyt2_7 => (intro w hSw; go_simp; try (with_reducible rfl))
                    simp only [Act.put, List.setIfInBounds_toArray, List.set_cons_zero, List.set_cons_succ]
                    refine wpAnyH_take (i := 8) (oi := ⟨some 87, _, _, _, _, _⟩) (v := ?vt2_8) rfl (by kernel_rfl) (by kernel_rfl) (by kernel_rfl) (fun _ _ _ h => h) (Or.inl ⟨by rfl, ?hyt2_8⟩) ⟨c0, c1, c2, d0, d1, f0, f1⟩ ?restt2_8
                    case hyt2_8 => (intro w hSw; go_simp; try (with_reducible rfl))
                    simp only [Act.put, List.setIfInBounds_toArray, List.set_cons_zero, List.set_cons_succ]
                    refine wpAnyH_take (i := 9) (oi := ⟨some 88, _, _, _, _, _⟩) (v := ?vt2_9) rfl (by kernel_rfl) (by kernel_rfl) (by kernel_rfl) (fun _ _ _ h => h) (Or.inl ⟨by rfl, ?hyt2_9⟩) ⟨c0, c1, c2, d0, d1, f0, f1⟩ ?restt2_9
                    case hyt2_9 => (intro w hSw; go_simp; try (with_reducible rfl))
                    simp only [Act.put, List.setIfInBounds_toArray, List.set_cons_zero, List.set_cons_succ]
                    refine wpAnyH_take (i := 10) (oi := ⟨some 89, _, _, _, _, _⟩) (v := ?vt2_10) rfl (by kernel_rfl) (by kernel_rfl) (by kernel_rfl) (fun _ _ _ h => h) (Or.inl ⟨by rfl, ?hyt2_10⟩) ⟨c0, c1, c2, d0, d1, f0, f1⟩ ?restt2_10
                    case hyt2_10 => (intro w hSw; have q0 := hSw.1; have q1 := hSw.2.1; have q2 := hSw.2.2.1; have q3 := hSw.2.2.2.1; have q4 := hSw.2.2.2.2.1; have q5 := hSw.2.2.2.2.2.1; have q6 := hSw.2.2.2.2.2.2; go_simp; try (with_reducible rfl))
                    simp only [Act.put, List.setIfInBounds_toArray, List.set_cons_zero, List.set_cons_succ]
                    refine wpAnyH_take (i := 11) (oi := ⟨some 90, _, _, _, _, _⟩) (v := ?vt2_11) rfl (by kernel_rfl) (by kernel_rfl) (by kernel_rfl) (fun _ _ _ h => h) (Or.inl ⟨by rfl, ?hyt2_11⟩) ⟨c0, c1, c2, d0, d1, f0, f1⟩ ?restt2_11
                    case hyt2_11 => (intro w hSw; go_simp; try (with_reducible rfl))
                    simp only [Act.put, List.setIfInBounds_toArray, List.set_cons_zero, List.set_cons_succ]
                    refine wpAnyH_take (i := 12) (oi := ⟨some 91, _, _, _, _, _⟩) (v := ?vt2_12) rfl (by kernel_rfl) (by kernel_rfl) (by kernel_rfl) (fun _ _ _ h => h) (Or.inl ⟨by rfl, ?hyt2_12⟩) ⟨c0, c1, c2, d0, d1, f0, f1⟩ ?restt2_12
                    case hyt2_12 => (intro w hSw; go_simp; try (with_reducible rfl))
                    simp only [Act.put, List.setIfInBounds_toArray, List.set_cons_zero, List.set_cons_succ]
                    refine wpAnyH_take (i := 13) (oi := ⟨some 92, _, _, _, _, _⟩) (v := ?vt2_13) rfl (by kernel_rfl) (by kernel_rfl) (by kernel_rfl) (fun _ _ _ h => h) (Or.inl ⟨by rfl, ?hyt2_13⟩) ⟨c0, c1, c2, d0, d1, f0, f1⟩ ?restt2_13
                    case hyt2_13 => (intro w hSw; go_simp; try (with_reducible rfl))
                    simp only [Act.put, List.setIfInBounds_toArray, List.set_cons_zero, List.set_cons_succ]
                    refine wpAnyH_take (i := 14) (oi := ⟨some 93, _, _, _, _, _⟩) (v := ?vt2_14) rfl (by kernel_rfl) (by kernel_rfl) (by kernel_rfl) (fun _ _ _ h => h) (Or.inl ⟨by rfl, ?hyt2_14⟩) ⟨c0, c1, c2, d0, d1, f0, f1⟩ ?restt2_14
                    case hyt2_14 => (intro w hSw; have q0 := hSw.1; have q1 := hSw.2.1; have q2 := hSw.2.2.1; have q3 := hSw.2.2.2.1; have q4 := hSw.2.2.2.2.1; have q5 := hSw.2.2.2.2.2.1; have q6 := hSw.2.2.2.2.2.2; go_simp; try (with_reducible rfl))
                    simp only [Act.put, List.setIfInBounds_toArray, List.set_cons_zero, List.set_cons_succ]
                    refine wpAnyH_take (i := 15) (oi := ⟨some 94, _, _, _, _, _⟩) (v := ?vt2_15) rfl (by kernel_rfl) (by kernel_rfl) (by kernel_rfl) (fun _ _ _ h => h) (Or.inl ⟨by rfl, ?hyt2_15⟩) ⟨c0, c1, c2, d0, d1, f0, f1⟩ ?restt2_15
                    case hyt2_15 => (intro w hSw; have q0 := hSw.1; have q1 := hSw.2.1; have q2 := hSw.2.2.1; have q3 := hSw.2.2.2.1; have q4 := hSw.2.2.2.2.1; have q5 := hSw.2.2.2.2.2.1; have q6 := hSw.2.2.2.2.2.2; go_simp; try (with_reducible rfl))
                    simp only [Act.put, List.setIfInBounds_toArray, List.set_cons_zero, List.set_cons_succ]
                    refine wpAnyH_take (i := 16) (oi := ⟨some 95, _, _, _, _, _⟩) (v := ?vt2_16) rfl (by kernel_rfl) (by kernel_rfl) (by kernel_rfl) (fun _ _ _ h => h) (Or.inl ⟨by rfl, ?hyt2_16⟩) ⟨c0, c1, c2, d0, d1, f0, f1⟩ ?restt2_16
                    case hyt2_16 => (intro w hSw; go_simp; try (with_reducible rfl))
                    simp only [Act.put, List.setIfInBounds_toArray, List.set_cons_zero, List.set_cons_succ]
                    refine wpAnyH_take (i := 17) (oi := ⟨some 96, _, _, _, _, _⟩) (v := ?vt2_17) rfl (by kernel_rfl) (by kernel_rfl) (by kernel_rfl) (fun _ _ _ h => h) (Or.inl ⟨by rfl, ?hyt2_17⟩) ⟨c0, c1, c2, d0, d1, f0, f1⟩ ?restt2_17
                    case hyt2_17 => (intro w hSw; go_simp; try (with_reducible rfl))
                    simp only [Act.put, List.setIfInBounds_toArray, List.set_cons_zero, List.set_cons_succ]
                    refine wpAnyH_take (i := 18) (oi := ⟨some 97, _, _, _, _, _⟩) (v := ?vt2_18) rfl (by kernel_rfl) (by kernel_rfl) (by kernel_rfl) (fun _ _ _ h => h) (Or.inl ⟨by rfl, ?hyt2_18⟩) ⟨c0, c1, c2, d0, d1, f0, f1⟩ ?restt2_18
                    case hyt2_18 => (intro w hSw; have q0 := hSw.1; have q1 := hSw.2.1; have q2 := hSw.2.2.1; have q3 := hSw.2.2.2.1; have q4 := hSw.2.2.2.2.1; have q5 := hSw.2.2.2.2.2.1; have q6 := hSw.2.2.2.2.2.2; go_simp; try (with_reducible rfl))
                    simp only [Act.put, List.setIfInBounds_toArray, List.set_cons_zero, List.set_cons_succ]
                    refine wpAnyH_take (i := 19) (oi := ⟨some 98, _, _, _, _, _⟩) (v := ?vt2_19) rfl (by kernel_rfl) (by kernel_rfl) (by kernel_rfl) (fun _ _ _ h => h) (Or.inl ⟨by rfl, ?hyt2_19⟩) ⟨c0, c1, c2, d0, d1, f0, f1⟩ ?restt2_19
                    case hyt2_19 => (intro w hSw; have q0 := hSw.1; have q1 := hSw.2.1; have q2 := hSw.2.2.1; have q3 := hSw.2.2.2.1; have q4 := hSw.2.2.2.2.1; have q5 := hSw.2.2.2.2.2.1; have q6 := hSw.2.2.2.2.2.2; go_simp; try (with_reducible rfl))
                    simp only [Act.put, List.setIfInBounds_toArray, List.set_cons_zero, List.set_cons_succ]
                    refine wpAnyH_take (i := 20) (oi := ⟨some 99, _, _, _, _, _⟩) (v := ?vt2_20) rfl (by kernel_rfl) (by kernel_rfl) (by kernel_rfl) (fun _ _ _ h => h) (Or.inl ⟨by rfl, ?hyt2_20⟩) ⟨c0, c1, c2, d0, d1, f0, f1⟩ ?restt2_20
                    case hyt2_20 => (intro w hSw; have q0 := hSw.1; have q1 := hSw.2.1; have q2 := hSw.2.2.1; have q3 := hSw.2.2.2.1; have q4 := hSw.2.2.2.2.1; have q5 := hSw.2.2.2.2.2.1; have q6 := hSw.2.2.2.2.2.2; go_simp; try (with_reducible rfl))
                    simp only [Act.put, List.setIfInBounds_toArray, List.set_cons_zero, List.set_cons_succ]
                    refine wpAnyH_take (i := 21) (oi := ⟨some 100, _, _, _, _, _⟩) (v := ?vt2_21) rfl (by kernel_rfl) (by kernel_rfl) (by kernel_rfl) (fun _ _ _ h => h) (Or.inl ⟨by rfl, ?hyt2_21⟩) ⟨c0, c1, c2, d0, d1, f0, f1⟩ ?restt2_21
                    case hyt2_21 => (intro w hSw; go_simp; try (with_reducible rfl))
                    simp only [Act.put, List.setIfInBounds_toArray, List.set_cons_zero, List.set_cons_succ]
                    refine wpAnyH_take (i := 22) (oi := ⟨some 101, _, _, _, _, _⟩) (v := ?vt2_22) rfl (by kernel_rfl) (by kernel_rfl) (by kernel_rfl) (fun _ _ _ h => h) (Or.inl ⟨by rfl, ?hyt2_22⟩) ⟨c0, c1, c2, d0, d1, f0, f1⟩ ?restt2_22
                    case hyt2_22 => (intro w hSw; go_simp; try (with_reducible rfl))
                    simp only [Act.put, List.setIfInBounds_toArray, List.set_cons_zero, List.set_cons_succ]
                    refine wpAnyH_take (i := 23) (oi := ⟨some 102, _, _, _, _, _⟩) (v := ?vt2_23) rfl (by kernel_rfl) (by kernel_rfl) (by kernel_rfl) (fun _ _ _ h => h) (Or.inl ⟨by rfl, ?hyt2_23⟩) ⟨c0, c1, c2, d0, d1, f0, f1⟩ ?restt2_23
                    case hyt2_23 => (intro w hSw; go_simp; try (with_reducible rfl))
                    simp only [Act.put, List.setIfInBounds_toArray, List.set_cons_zero, List.set_cons_succ]
                    refine anyH_one (i := 24) (o := ⟨some 103, _, _, _, _, _⟩) (by kernel_rfl) rfl (fun K hK => ?_)
                    rw [if_pos (by rfl)]
                    go_simp
                    refine (awake16 C.T _).mono ?_
                    rintro e wy ⟨rfl, hs⟩
                    have BY := Lib.hid (B15.out.drew.trans (hs.mono B15.out.drew.size))
                    have y_c0 := (hs.cell (p := ⟨w10.heap.size, 0, none⟩) (lt_of_cell c0)).trans c0
                    have y_c1 := (hs.cell (p := ⟨w10.heap.size, 1, none⟩) (lt_of_cell c1)).trans c1
                    have y_c2 := (hs.cell (p := ⟨w10.heap.size, 2, none⟩) (lt_of_cell c2)).trans c2
                    have y_d0 := (hs.cell (p := ⟨b1, o1 + i * 2, none⟩) (lt_of_cell d0)).trans d0
                    have y_d1 := (hs.cell (p := ⟨b1, o1 + i * 2 + 1, none⟩) (lt_of_cell d1)).trans d1
                    have y_f0 := (hs.cell (p := ⟨b2, o2 + j * 2, none⟩) (lt_of_cell f0)).trans f0
                    have y_f1 := (hs.cell (p := ⟨b2, o2 + j * 2 + 1, none⟩) (lt_of_cell f1)).trans f1
                    clear hs
                    refine hK.out _ _ ⟨y_c0, y_c1, y_c2, y_d0, y_d1, y_f0, y_f1⟩ ?_
                    clear hK K
                    try simp only [Act.put, List.setIfInBounds_toArray, List.set_cons_zero, List.set_cons_succ]
                    refine wpAnyH_take (i := 25) (oi := ⟨some 104, _, _, _, _, _⟩) (v := ?vt2_25) rfl (by kernel_rfl) (by kernel_rfl) (by kernel_rfl) (fun _ _ _ h => h) (Or.inl ⟨by rfl, ?hyt2_25⟩) ⟨y_c0, y_c1, y_c2, y_d0, y_d1, y_f0, y_f1⟩ ?restt2_25
                    case hyt2_25 => (intro w hSw; go_simp; try (with_reducible rfl))
                    simp only [Act.put, List.setIfInBounds_toArray, List.set_cons_zero, List.set_cons_succ]
                    refine wpAnyH_take (i := 26) (oi := ⟨some 8, _, _, _, _, _⟩) (v := ?vt2_26) rfl (by kernel_rfl) (by kernel_rfl) (by kernel_rfl) (fun _ _ _ h => h) (Or.inl ⟨by rfl, ?hyt2_26⟩) ⟨y_c0, y_c1, y_c2, y_d0, y_d1, y_f0, y_f1⟩ ?restt2_26
                    case hyt2_26 => (intro w hSw; go_simp; try (with_reducible rfl))
                    simp only [Act.put, List.setIfInBounds_toArray, List.set_cons_zero, List.set_cons_succ]
                    refine wpAnyH_done (by kernel_rfl) ?_ _
                    go_wp2
                    go_ret
                    exact ⟨rfl, BY.out⟩
                | some x =>
                  have KX := findW_key hw
                  have E0 := LKF.out key
                  obtain ⟨e1, e2⟩ := FF.out
                  rw [hw] at e1 e2 E0
                  obtain rfl : (fx, fy, fg) = x := by simpa using e1.symm
                  obtain rfl : true = fb := by simpa using e2.symm
                  obtain rfl : key = fx := KX.symm
                  obtain ⟨i, hi⟩ : ∃ i, (fnd L key).1 = i := ⟨_, rfl⟩
                  obtain ⟨t, ht⟩ : ∃ t, (fnd L key).2 = t := ⟨_, rfl⟩
                  have FL := Lib.hid (show (fnd L key).1 = i ∧ (fnd L key).2 = t from ⟨hi, ht⟩)
                  have E := Lib.hid E0
                  rw [hi, ht]
                  have c0 := S14.out.c0
                  have c1 := S14.out.c1
                  have c2 := S14.out.c2
                  clear hi ht hw e1 e2 E0 KX FF
                  cases fg with
                  | true =>
                    obtain rfl : false = t := by have := lk_gone E.out; rw [FL.out.2] at this; exact this.symm
                    go_wp2_with fail
                    refine anyH_region (fun w' => w'.cell? ⟨w10.heap.size, 0, none⟩ = some (.string key) ∧ w'.cell? ⟨w10.heap.size, 1, none⟩ = some (.string fy) ∧ w'.cell? ⟨w10.heap.size, 2, none⟩ = some (.bool true)) (by kernel_rfl) ?_
                    refine wpAnyH_take (i := 0) (oi := ⟨some 105, _, _, _, _, _⟩) (v := ?vt3_0) rfl (by kernel_rfl) (by kernel_rfl) (by kernel_rfl) (fun _ _ _ h => h) (Or.inl ⟨by rfl, ?hyt3_0⟩) ⟨c0, c1, c2⟩ ?restt3_0
                    case hyt3_0 => (intro w hSw; go_simp; try (with_reducible rfl))
                    simp only [Act.put, List.setIfInBounds_toArray, List.set_cons_zero, List.set_cons_succ]
                    refine wpAnyH_take (i := 1) (oi := ⟨some 106, _, _, _, _, _⟩) (v := ?vt3_1) rfl (by kernel_rfl) (by kernel_rfl) (by kernel_rfl) (fun _ _ _ h => h) (Or.inl ⟨by rfl, ?hyt3_1⟩) ⟨c0, c1, c2⟩ ?restt3_1
                    case hyt3_1 => (intro w hSw; have q0 := hSw.1; have q1 := hSw.2.1; have q2 := hSw.2.2; go_simp; try (with_reducible rfl))
                    simp only [Act.put, List.setIfInBounds_toArray, List.set_cons_zero, List.set_cons_succ]
                    refine wpAnyH_take (i := 2) (oi := ⟨some 107, _, _, _, _, _⟩) (v := ?vt3_2) rfl (by kernel_rfl) (by kernel_rfl) (by kernel_rfl) (fun _ _ _ h => h) (Or.inl ⟨by rfl, ?hyt3_2⟩) ⟨c0, c1, c2⟩ ?restt3_2
                    case hyt3_2 => (intro w hSw; go_simp; try (with_reducible rfl))
                    simp only [Act.put, List.setIfInBounds_toArray, List.set_cons_zero, List.set_cons_succ]
                    refine wpAnyH_take (i := 3) (oi := ⟨some 108, _, _, _, _, _⟩) (v := ?vt3_3) rfl (by kernel_rfl) (by kernel_rfl) (by kernel_rfl) (fun _ _ _ h => h) (Or.inl ⟨by rfl, ?hyt3_3⟩) ⟨c0, c1, c2⟩ ?restt3_3
                    case hyt3_3 => (intro w hSw; have q0 := hSw.1; have q1 := hSw.2.1; have q2 := hSw.2.2; go_simp; try (with_reducible rfl))
                    simp only [Act.put, List.setIfInBounds_toArray, List.set_cons_zero, List.set_cons_succ]
                    refine wpAnyH_take (i := 4) (oi := ⟨some 109, _, _, _, _, _⟩) (v := ?vt3_4) rfl (by kernel_rfl) (by kernel_rfl) (by kernel_rfl) (fun _ _ _ h => h) (Or.inl ⟨by rfl, ?hyt3_4⟩) ⟨c0, c1, c2⟩ ?restt3_4
                    case hyt3_4 => (intro w hSw; go_simp; try (with_reducible rfl))
                    simp only [Act.put, List.setIfInBounds_toArray, List.set_cons_zero, List.set_cons_succ]
                    refine wpAnyH_take (i := 5) (oi := ⟨some 110, _, _, _, _, _⟩) (v := ?vt3_5) rfl (by kernel_rfl) (by kernel_rfl) (by kernel_rfl) (fun _ _ _ h => h) (Or.inl ⟨by rfl, ?hyt3_5⟩) ⟨c0, c1, c2⟩ ?restt3_5
                    case hyt3_5 => (intro w hSw; go_simp; try (with_reducible rfl))
                    simp only [Act.put, List.setIfInBounds_toArray, List.set_cons_zero, List.set_cons_succ]
                    refine wpAnyH_take (i := 6) (oi := ⟨some 111, _, _, _, _, _⟩) (v := ?vt3_6) rfl (by kernel_rfl) (by kernel_rfl) (by kernel_rfl) (fun _ _ _ h => h) (Or.inl ⟨by rfl, ?hyt3_6⟩) ⟨c0, c1, c2⟩ ?restt3_6
                    case hyt3_6 => (intro w hSw; go_simp; try (with_reducible rfl))
                    simp only [Act.put, List.setIfInBounds_toArray, List.set_cons_zero, List.set_cons_succ]
                    refine wpAnyH_take (i := 7) (oi := ⟨some 112, _, _, _, _, _⟩) (v := ?vt3_7) rfl (by kernel_rfl) (by kernel_rfl) (by kernel_rfl) (fun _ _ _ h => h) (Or.inl ⟨by rfl, ?hyt3_7⟩) ⟨c0, c1, c2⟩ ?restt3_7
                    case hyt3_7 => (intro w hSw; have q0 := hSw.1; have q1 := hSw.2.1; have q2 := hSw.2.2; go_simp; try (with_reducible rfl))
                    simp only [Act.put, List.setIfInBounds_toArray, List.set_cons_zero, List.set_cons_succ]
                    refine wpAnyH_take (i := 8) (oi := ⟨some 113, _, _, _, _, _⟩) (v := ?vt3_8) rfl (by kernel_rfl) (by kernel_rfl) (by kernel_rfl) (fun _ _ _ h => h) (Or.inl ⟨by rfl, ?hyt3_8⟩) ⟨c0, c1, c2⟩ ?restt3_8
                    case hyt3_8 => (intro w hSw; have q0 := hSw.1; have q1 := hSw.2.1; have q2 := hSw.2.2; go_simp; try (with_reducible rfl))
                    simp only [Act.put, List.setIfInBounds_toArray, List.set_cons_zero, List.set_cons_succ]
                    refine wpAnyH_take (i := 9) (oi := ⟨some 114, _, _, _, _, _⟩) (v := ?vt3_9) rfl (by kernel_rfl) (by kernel_rfl) (by kernel_rfl) (fun _ _ _ h => h) (Or.inl ⟨by rfl, ?hyt3_9⟩) ⟨c0, c1, c2⟩ ?restt3_9
                    case hyt3_9 => (intro w hSw; have q0 := hSw.1; have q1 := hSw.2.1; have q2 := hSw.2.2; go_simp; try (with_reducible rfl))
                    simp only [Act.put, List.setIfInBounds_toArray, List.set_cons_zero, List.set_cons_succ]
                    refine wpAnyH_take (i := 10) (oi := ⟨some 115, _, _, _, _, _⟩) (v := ?vt3_10) rfl (by kernel_rfl) (by kernel_rfl) (by kernel_rfl) (fun _ _ _ h => h) (Or.inl ⟨by rfl, ?hyt3_10⟩) ⟨c0, c1, c2⟩ ?restt3_10
                    case hyt3_10 => (intro w hSw; go_simp; try (with_reducible rfl))
                    simp only [Act.put, List.setIfInBounds_toArray, List.set_cons_zero, List.set_cons_succ]
                    refine wpAnyH_take (i := 11) (oi := ⟨some 116, _, _, _, _, _⟩) (v := ?vt3_11) rfl (by kernel_rfl) (by kernel_rfl) (by kernel_rfl) (fun _ _ _ h => h) (Or.inl ⟨by rfl, ?hyt3_11⟩) ⟨c0, c1, c2⟩ ?restt3_11
                    case hyt3_11 => (intro w hSw; go_simp; try (with_reducible rfl))
                    simp only [Act.put, List.setIfInBounds_toArray, List.set_cons_zero, List.set_cons_succ]
                    refine wpAnyH_take (i := 12) (oi := ⟨some 117, _, _, _, _, _⟩) (v := ?vt3_12) rfl (by kernel_rfl) (by kernel_rfl) (by kernel_rfl) (fun _ _ _ h => h) (Or.inl ⟨by rfl, ?hyt3_12⟩) ⟨c0, c1, c2⟩ ?restt3_12
                    case hyt3_12 => (intro w hSw; go_simp; try (with_reducible rfl))
                    simp only [Act.put, List.setIfInBounds_toArray, List.set_cons_zero, List.set_cons_succ]
                    refine wpAnyH_take (i := 13) (oi := ⟨some 118, _, _, _, _, _⟩) (v := ?vt3_13) rfl (by kernel_rfl) (by kernel_rfl) (by kernel_rfl) (fun _ _ _ h => h) (Or.inl ⟨by rfl, ?hyt3_13⟩) ⟨c0, c1, c2⟩ ?restt3_13
                    case hyt3_13 => (intro w hSw; have q0 := hSw.1; have q1 := hSw.2.1; have q2 := hSw.2.2; go_simp; try (with_reducible rfl))
                    simp only [Act.put, List.setIfInBounds_toArray, List.set_cons_zero, List.set_cons_succ]
                    refine wpAnyH_take (i := 14) (oi := ⟨some 119, _, _, _, _, _⟩) (v := ?vt3_14) rfl (by kernel_rfl) (by kernel_rfl) (by kernel_rfl) (fun _ _ _ h => h) (Or.inl ⟨by rfl, ?hyt3_14⟩) ⟨c0, c1, c2⟩ ?restt3_14
                    case hyt3_14 => (intro w hSw; go_simp; try (with_reducible rfl))
                    simp only [Act.put, List.setIfInBounds_toArray, List.set_cons_zero, List.set_cons_succ]
                    refine wpAnyH_take (i := 15) (oi := ⟨some 120, _, _, _, _, _⟩) (v := undef) rfl (by kernel_rfl) (by kernel_rfl) (by kernel_rfl) (fun _ _ _ h => h) (Or.inr ⟨by rfl, rfl⟩) ⟨c0, c1, c2⟩ ?restt3_15
                    simp only [Act.put, List.setIfInBounds_toArray, List.set_cons_zero, List.set_cons_succ]
                    refine wpAnyH_take (i := 16) (oi := ⟨some 121, _, _, _, _, _⟩) (v := undef) rfl (by kernel_rfl) (by kernel_rfl) (by kernel_rfl) (fun _ _ _ h => h) (Or.inr ⟨by rfl, rfl⟩) ⟨c0, c1, c2⟩ ?restt3_16
                    simp only [Act.put, List.setIfInBounds_toArray, List.set_cons_zero, List.set_cons_succ]
                    refine wpAnyH_take (i := 17) (oi := ⟨some 122, _, _, _, _, _⟩) (v := undef) rfl (by kernel_rfl) (by kernel_rfl) (by kernel_rfl) (fun _ _ _ h => h) (Or.inr ⟨by rfl, rfl⟩) ⟨c0, c1, c2⟩ ?restt3_17
                    simp only [Act.put, List.setIfInBounds_toArray, List.set_cons_zero, List.set_cons_succ]
                    refine wpAnyH_take (i := 18) (oi := ⟨some 123, _, _, _, _, _⟩) (v := undef) rfl (by kernel_rfl) (by kernel_rfl) (by kernel_rfl) (fun _ _ _ h => h) (Or.inr ⟨by rfl, rfl⟩) ⟨c0, c1, c2⟩ ?restt3_18
                    simp only [Act.put, List.setIfInBounds_toArray, List.set_cons_zero, List.set_cons_succ]
                    refine wpAnyH_take (i := 19) (oi := ⟨some 124, _, _, _, _, _⟩) (v := undef) rfl (by kernel_rfl) (by kernel_rfl) (by kernel_rfl) (fun _ _ _ h => h) (Or.inr ⟨by rfl, rfl⟩) ⟨c0, c1, c2⟩ ?restt3_19
                    simp only [Act.put, List.setIfInBounds_toArray, List.set_cons_zero, List.set_cons_succ]
                    refine wpAnyH_take (i := 20) (oi := ⟨some 125, _, _, _, _, _⟩) (v := undef) rfl (by kernel_rfl) (by kernel_rfl) (by kernel_rfl) (fun _ _ _ h => h) (Or.inr ⟨by rfl, rfl⟩) ⟨c0, c1, c2⟩ ?restt3_20
                    simp only [Act.put, List.setIfInBounds_toArray, List.set_cons_zero, List.set_cons_succ]
                    refine wpAnyH_take (i := 21) (oi := ⟨some 126, _, _, _, _, _⟩) (v := undef) rfl (by kernel_rfl) (by kernel_rfl) (by kernel_rfl) (fun _ _ _ h => h) (Or.inr ⟨by rfl, rfl⟩) ⟨c0, c1, c2⟩ ?restt3_21
                    simp only [Act.put, List.setIfInBounds_toArray, List.set_cons_zero, List.set_cons_succ]
                    refine wpAnyH_take (i := 22) (oi := ⟨some 127, _, _, _, _, _⟩) (v := undef) rfl (by kernel_rfl) (by kernel_rfl) (by kernel_rfl) (fun _ _ _ h => h) (Or.inr ⟨by rfl, rfl⟩) ⟨c0, c1, c2⟩ ?restt3_22
                    simp only [Act.put, List.setIfInBounds_toArray, List.set_cons_zero, List.set_cons_succ]
                    refine wpAnyH_take (i := 23) (oi := ⟨some 128, _, _, _, _, _⟩) (v := ?vt3_23) rfl (by kernel_rfl) (by kernel_rfl) (by kernel_rfl) (fun _ _ _ h => h) (Or.inl ⟨by rfl, ?hyt3_23⟩) ⟨c0, c1, c2⟩ ?restt3_23
                    case hyt3_23 => (intro w hSw; go_simp; try (with_reducible rfl))
                    simp only [Act.put, List.setIfInBounds_toArray, List.set_cons_zero, List.set_cons_succ]
                    refine wpAnyH_take (i := 24) (oi := ⟨some 129, _, _, _, _, _⟩) (v := ?vt3_24) rfl (by kernel_rfl) (by kernel_rfl) (by kernel_rfl) (fun _ _ _ h => h) (Or.inl ⟨by rfl, ?hyt3_24⟩) ⟨c0, c1, c2⟩ ?restt3_24
                    case hyt3_24 => (intro w hSw; go_simp; try (with_reducible rfl))
                    simp only [Act.put, List.setIfInBounds_toArray, List.set_cons_zero, List.set_cons_succ]
                    refine wpAnyH_take (i := 25) (oi := ⟨some 130, _, _, _, _, _⟩) (v := ?vt3_25) rfl (by kernel_rfl) (by kernel_rfl) (by kernel_rfl) (fun _ _ _ h => h) (Or.inl ⟨by rfl, ?hyt3_25⟩) ⟨c0, c1, c2⟩ ?restt3_25
                    case hyt3_25 => (intro w hSw; go_simp; try (with_reducible rfl))
                    simp only [Act.put, List.setIfInBounds_toArray, List.set_cons_zero, List.set_cons_succ]
                    refine anyH_one (i := 26) (o := ⟨some 131, _, _, _, _, _⟩) (by kernel_rfl) rfl (fun K hK => ?_)
                    rw [if_pos (by rfl)]
                    go_simp
                    refine (awake16 C.T _).mono ?_
                    rintro e wy ⟨rfl, hs⟩
                    have BY := Lib.hid (B14.out.drew.trans (hs.mono B14.out.drew.size))
                    have y_c0 := (hs.cell (p := ⟨w10.heap.size, 0, none⟩) (lt_of_cell c0)).trans c0
                    have y_c1 := (hs.cell (p := ⟨w10.heap.size, 1, none⟩) (lt_of_cell c1)).trans c1
                    have y_c2 := (hs.cell (p := ⟨w10.heap.size, 2, none⟩) (lt_of_cell c2)).trans c2
                    clear hs
                    refine hK.out _ _ ⟨y_c0, y_c1, y_c2⟩ ?_
                    clear hK K
                    try simp only [Act.put, List.setIfInBounds_toArray, List.set_cons_zero, List.set_cons_succ]
                    refine wpAnyH_take (i := 27) (oi := ⟨some 132, _, _, _, _, _⟩) (v := ?vt3_27) rfl (by kernel_rfl) (by kernel_rfl) (by kernel_rfl) (fun _ _ _ h => h) (Or.inl ⟨by rfl, ?hyt3_27⟩) ⟨y_c0, y_c1, y_c2⟩ ?restt3_27
                    case hyt3_27 => (intro w hSw; go_simp; try (with_reducible rfl))
                    simp only [Act.put, List.setIfInBounds_toArray, List.set_cons_zero, List.set_cons_succ]
                    refine wpAnyH_take (i := 28) (oi := ⟨some 8, _, _, _, _, _⟩) (v := ?vt3_28) rfl (by kernel_rfl) (by kernel_rfl) (by kernel_rfl) (fun _ _ _ h => h) (Or.inl ⟨by rfl, ?hyt3_28⟩) ⟨y_c0, y_c1, y_c2⟩ ?restt3_28
                    case hyt3_28 => (intro w hSw; go_simp; try (with_reducible rfl))
                    simp only [Act.put, List.setIfInBounds_toArray, List.set_cons_zero, List.set_cons_succ]
                    refine wpAnyH_done (by kernel_rfl) ?_ _
                    go_wp2
                    go_ret
                    exact ⟨rfl, BY.out⟩
                  | false =>
                    obtain ⟨y1, i1, y2⟩ := lk_there E.out
                    obtain rfl : true = t := by rw [FL.out.2] at y1; exact y1.symm
                    rw [FL.out.1] at y2 i1
                    rw [LM.out] at i1
                    obtain ⟨b1, o1, ha1⟩ := R14.out.addr (by rw [LM.out]; omega)
                    subst ha1
                    obtain ⟨d0, d1⟩ := R14.out.cellsAt i (by rw [LM.out]; exact i1)
                    rw [y2] at d0 d1
                    simp only at d0 d1
                    have k1 : (0 : Int) ≤ (i : Int) := by omega
                    have k2 : (i : Int) < (m : Int) := by omega
                    clear y1 y2
                    go_wp2_with fail
                    refine anyH_region (fun w' => w'.cell? ⟨w10.heap.size, 0, none⟩ = some (.string key) ∧ w'.cell? ⟨w10.heap.size, 1, none⟩ = some (.string fy) ∧ w'.cell? ⟨w10.heap.size, 2, none⟩ = some (.bool false) ∧ w'.cell? ⟨b1, o1 + i * 2, none⟩ = some (.string key) ∧ w'.cell? ⟨b1, o1 + i * 2 + 1, none⟩ = some (.string fy)) (by kernel_rfl) ?_
                    refine wpAnyH_take (i := 0) (oi := ⟨some 105, _, _, _, _, _⟩) (v := ?vt4_0) rfl (by kernel_rfl) (by kernel_rfl) (by kernel_rfl) (fun _ _ _ h => h) (Or.inl ⟨by rfl, ?hyt4_0⟩) ⟨c0, c1, c2, d0, d1⟩ ?restt4_0
                    case hyt4_0 => (intro w hSw; go_simp; try (with_reducible rfl))
                    simp only [Act.put, List.setIfInBounds_toArray, List.set_cons_zero, List.set_cons_succ]
                    refine wpAnyH_take (i := 1) (oi := ⟨some 106, _, _, _, _, _⟩) (v := ?vt4_1) rfl (by kernel_rfl) (by kernel_rfl) (by kernel_rfl) (fun _ _ _ h => h) (Or.inl ⟨by rfl, ?hyt4_1⟩) ⟨c0, c1, c2, d0, d1⟩ ?restt4_1
                    case hyt4_1 => (intro w hSw; have q0 := hSw.1; have q1 := hSw.2.1; have q2 := hSw.2.2.1; have q3 := hSw.2.2.2.1; have q4 := hSw.2.2.2.2; go_simp; try (with_reducible rfl))
                    simp only [Act.put, List.setIfInBounds_toArray, List.set_cons_zero, List.set_cons_succ]
                    refine wpAnyH_take (i := 2) (oi := ⟨some 107, _, _, _, _, _⟩) (v := ?vt4_2) rfl (by kernel_rfl) (by kernel_rfl) (by kernel_rfl) (fun _ _ _ h => h) (Or.inl ⟨by rfl, ?hyt4_2⟩) ⟨c0, c1, c2, d0, d1⟩ ?restt4_2
                    case hyt4_2 => (intro w hSw; go_simp; try (with_reducible rfl))
                    simp only [Act.put, List.setIfInBounds_toArray, List.set_cons_zero, List.set_cons_succ]
                    refine wpAnyH_take (i := 3) (oi := ⟨some 108, _, _, _, _, _⟩) (v := ?vt4_3) rfl (by kernel_rfl) (by kernel_rfl) (by kernel_rfl) (fun _ _ _ h => h) (Or.inl ⟨by rfl, ?hyt4_3⟩) ⟨c0, c1, c2, d0, d1⟩ ?restt4_3
                    case hyt4_3 => (intro w hSw; have q0 := hSw.1; have q1 := hSw.2.1; have q2 := hSw.2.2.1; have q3 := hSw.2.2.2.1; have q4 := hSw.2.2.2.2; go_simp; try (with_reducible rfl))
                    simp only [Act.put, List.setIfInBounds_toArray, List.set_cons_zero, List.set_cons_succ]
                    refine wpAnyH_take (i := 4) (oi := ⟨some 109, _, _, _, _, _⟩) (v := ?vt4_4) rfl (by kernel_rfl) (by kernel_rfl) (by kernel_rfl) (fun _ _ _ h => h) (Or.inl ⟨by rfl, ?hyt4_4⟩) ⟨c0, c1, c2, d0, d1⟩ ?restt4_4
                    case hyt4_4 => (intro w hSw; go_simp; try (with_reducible rfl))
                    simp only [Act.put, List.setIfInBounds_toArray, List.set_cons_zero, List.set_cons_succ]
                    refine wpAnyH_take (i := 5) (oi := ⟨some 110, _, _, _, _, _⟩) (v := ?vt4_5) rfl (by kernel_rfl) (by kernel_rfl) (by kernel_rfl) (fun _ _ _ h => h) (Or.inl ⟨by rfl, ?hyt4_5⟩) ⟨c0, c1, c2, d0, d1⟩ ?restt4_5
                    case hyt4_5 => (intro w hSw; go_simp; try (with_reducible rfl))
                    simp only [Act.put, List.setIfInBounds_toArray, List.set_cons_zero, List.set_cons_succ]
                    refine wpAnyH_take (i := 6) (oi := ⟨some 111, _, _, _, _, _⟩) (v := ?vt4_6) rfl (by kernel_rfl) (by kernel_rfl) (by kernel_rfl) (fun _ _ _ h => h) (Or.inl ⟨by rfl, ?hyt4_6⟩) ⟨c0, c1, c2, d0, d1⟩ ?restt4_6
                    case hyt4_6 => (intro w hSw; go_simp; try (with_reducible rfl))
                    simp only [Act.put, List.setIfInBounds_toArray, List.set_cons_zero, List.set_cons_succ]
                    refine wpAnyH_take (i := 7) (oi := ⟨some 112, _, _, _, _, _⟩) (v := ?vt4_7) rfl (by kernel_rfl) (by kernel_rfl) (by kernel_rfl) (fun _ _ _ h => h) (Or.inl ⟨by rfl, ?hyt4_7⟩) ⟨c0, c1, c2, d0, d1⟩ ?restt4_7
                    case hyt4_7 => (intro w hSw; have q0 := hSw.1; have q1 := hSw.2.1; have q2 := hSw.2.2.1; have q3 := hSw.2.2.2.1; have q4 := hSw.2.2.2.2; go_simp; try (with_reducible rfl))
                    simp only [Act.put, List.setIfInBounds_toArray, List.set_cons_zero, List.set_cons_succ]
                    refine wpAnyH_take (i := 8) (oi := ⟨some 113, _, _, _, _, _⟩) (v := ?vt4_8) rfl (by kernel_rfl) (by kernel_rfl) (by kernel_rfl) (fun _ _ _ h => h) (Or.inl ⟨by rfl, ?hyt4_8⟩) ⟨c0, c1, c2, d0, d1⟩ ?restt4_8
                    case hyt4_8 => (intro w hSw; have q0 := hSw.1; have q1 := hSw.2.1; have q2 := hSw.2.2.1; have q3 := hSw.2.2.2.1; have q4 := hSw.2.2.2.2; go_simp; try (with_reducible rfl))
                    simp only [Act.put, List.setIfInBounds_toArray, List.set_cons_zero, List.set_cons_succ]
                    refine wpAnyH_take (i := 9) (oi := ⟨some 114, _, _, _, _, _⟩) (v := ?vt4_9) rfl (by kernel_rfl) (by kernel_rfl) (by kernel_rfl) (fun _ _ _ h => h) (Or.inl ⟨by rfl, ?hyt4_9⟩) ⟨c0, c1, c2, d0, d1⟩ ?restt4_9
                    case hyt4_9 => (intro w hSw; have q0 := hSw.1; have q1 := hSw.2.1; have q2 := hSw.2.2.1; have q3 := hSw.2.2.2.1; have q4 := hSw.2.2.2.2; go_simp; try (with_reducible rfl))
                    simp only [Act.put, List.setIfInBounds_toArray, List.set_cons_zero, List.set_cons_succ]
                    refine wpAnyH_take (i := 10) (oi := ⟨some 115, _, _, _, _, _⟩) (v := ?vt4_10) rfl (by kernel_rfl) (by kernel_rfl) (by kernel_rfl) (fun _ _ _ h => h) (Or.inl ⟨by rfl, ?hyt4_10⟩) ⟨c0, c1, c2, d0, d1⟩ ?restt4_10
                    case hyt4_10 => (intro w hSw; go_simp; try (with_reducible rfl))
                    simp only [Act.put, List.setIfInBounds_toArray, List.set_cons_zero, List.set_cons_succ]
                    refine wpAnyH_take (i := 11) (oi := ⟨some 116, _, _, _, _, _⟩) (v := ?vt4_11) rfl (by kernel_rfl) (by kernel_rfl) (by kernel_rfl) (fun _ _ _ h => h) (Or.inl ⟨by rfl, ?hyt4_11⟩) ⟨c0, c1, c2, d0, d1⟩ ?restt4_11
                    case hyt4_11 => (intro w hSw; go_simp; try (with_reducible rfl))
                    simp only [Act.put, List.setIfInBounds_toArray, List.set_cons_zero, List.set_cons_succ]
                    refine wpAnyH_take (i := 12) (oi := ⟨some 117, _, _, _, _, _⟩) (v := ?vt4_12) rfl (by kernel_rfl) (by kernel_rfl) (by kernel_rfl) (fun _ _ _ h => h) (Or.inl ⟨by rfl, ?hyt4_12⟩) ⟨c0, c1, c2, d0, d1⟩ ?restt4_12
                    case hyt4_12 => (intro w hSw; go_simp; try (with_reducible rfl))
                    simp only [Act.put, List.setIfInBounds_toArray, List.set_cons_zero, List.set_cons_succ]
                    refine wpAnyH_take (i := 13) (oi := ⟨some 118, _, _, _, _, _⟩) (v := ?vt4_13) rfl (by kernel_rfl) (by kernel_rfl) (by kernel_rfl) (fun _ _ _ h => h) (Or.inl ⟨by rfl, ?hyt4_13⟩) ⟨c0, c1, c2, d0, d1⟩ ?restt4_13
                    case hyt4_13 => (intro w hSw; have q0 := hSw.1; have q1 := hSw.2.1; have q2 := hSw.2.2.1; have q3 := hSw.2.2.2.1; have q4 := hSw.2.2.2.2; go_simp; try (with_reducible rfl))
                    simp only [Act.put, List.setIfInBounds_toArray, List.set_cons_zero, List.set_cons_succ]
                    refine wpAnyH_take (i := 14) (oi := ⟨some 119, _, _, _, _, _⟩) (v := ?vt4_14) rfl (by kernel_rfl) (by kernel_rfl) (by kernel_rfl) (fun _ _ _ h => h) (Or.inl ⟨by rfl, ?hyt4_14⟩) ⟨c0, c1, c2, d0, d1⟩ ?restt4_14
                    case hyt4_14 => (intro w hSw; go_simp; try (with_reducible rfl))
                    simp only [Act.put, List.setIfInBounds_toArray, List.set_cons_zero, List.set_cons_succ]
                    refine wpAnyH_take (i := 15) (oi := ⟨some 120, _, _, _, _, _⟩) (v := ?vt4_15) rfl (by kernel_rfl) (by kernel_rfl) (by kernel_rfl) (fun _ _ _ h => h) (Or.inl ⟨by rfl, ?hyt4_15⟩) ⟨c0, c1, c2, d0, d1⟩ ?restt4_15
                    case hyt4_15 => (intro w hSw; go_simp; try (with_reducible rfl))
                    simp only [Act.put, List.setIfInBounds_toArray, List.set_cons_zero, List.set_cons_succ]
                    refine wpAnyH_take (i := 16) (oi := ⟨some 121, _, _, _, _, _⟩) (v := ?vt4_16) rfl (by kernel_rfl) (by kernel_rfl) (by kernel_rfl) (fun _ _ _ h => h) (Or.inl ⟨by rfl, ?hyt4_16⟩) ⟨c0, c1, c2, d0, d1⟩ ?restt4_16
                    case hyt4_16 => (intro w hSw; go_simp; try (with_reducible rfl))
                    simp only [Act.put, List.setIfInBounds_toArray, List.set_cons_zero, List.set_cons_succ]
                    refine wpAnyH_take (i := 17) (oi := ⟨some 122, _, _, _, _, _⟩) (v := ?vt4_17) rfl (by kernel_rfl) (by kernel_rfl) (by kernel_rfl) (fun _ _ _ h => h) (Or.inl ⟨by rfl, ?hyt4_17⟩) ⟨c0, c1, c2, d0, d1⟩ ?restt4_17
                    case hyt4_17 => (intro w hSw; have q0 := hSw.1; have q1 := hSw.2.1; have q2 := hSw.2.2.1; have q3 := hSw.2.2.2.1; have q4 := hSw.2.2.2.2; go_simp; try (with_reducible rfl))
                    simp only [Act.put, List.setIfInBounds_toArray, List.set_cons_zero, List.set_cons_succ]
                    refine wpAnyH_take (i := 18) (oi := ⟨some 123, _, _, _, _, _⟩) (v := ?vt4_18) rfl (by kernel_rfl) (by kernel_rfl) (by kernel_rfl) (fun _ _ _ h => h) (Or.inl ⟨by rfl, ?hyt4_18⟩) ⟨c0, c1, c2, d0, d1⟩ ?restt4_18
                    case hyt4_18 => (intro w hSw; go_simp; try (with_reducible rfl))
                    simp only [Act.put, List.setIfInBounds_toArray, List.set_cons_zero, List.set_cons_succ]
                    refine wpAnyH_take (i := 19) (oi := ⟨some 124, _, _, _, _, _⟩) (v := ?vt4_19) rfl (by kernel_rfl) (by kernel_rfl) (by kernel_rfl) (fun _ _ _ h => h) (Or.inl ⟨by rfl, ?hyt4_19⟩) ⟨c0, c1, c2, d0, d1⟩ ?restt4_19
                    case hyt4_19 => (intro w hSw; have q0 := hSw.1; have q1 := hSw.2.1; have q2 := hSw.2.2.1; have q3 := hSw.2.2.2.1; have q4 := hSw.2.2.2.2; go_simp; try (with_reducible rfl))
                    simp only [Act.put, List.setIfInBounds_toArray, List.set_cons_zero, List.set_cons_succ]
                    refine wpAnyH_take (i := 20) (oi := ⟨some 125, _, _, _, _, _⟩) (v := ?vt4_20) rfl (by kernel_rfl) (by kernel_rfl) (by kernel_rfl) (fun _ _ _ h => h) (Or.inl ⟨by rfl, ?hyt4_20⟩) ⟨c0, c1, c2, d0, d1⟩ ?restt4_20
                    case hyt4_20 => (intro w hSw; go_simp; try (with_reducible rfl))
                    simp only [Act.put, List.setIfInBounds_toArray, List.set_cons_zero, List.set_cons_succ]
                    refine wpAnyH_take (i := 21) (oi := ⟨some 126, _, _, _, _, _⟩) (v := ?vt4_21) rfl (by kernel_rfl) (by kernel_rfl) (by kernel_rfl) (fun _ _ _ h => h) (Or.inl ⟨by rfl, ?hyt4_21⟩) ⟨c0, c1, c2, d0, d1⟩ ?restt4_21
                    case hyt4_21 => (intro w hSw; have q0 := hSw.1; have q1 := hSw.2.1; have q2 := hSw.2.2.1; have q3 := hSw.2.2.2.1; have q4 := hSw.2.2.2.2; go_simp; try (with_reducible rfl))
                    simp only [Act.put, List.setIfInBounds_toArray, List.set_cons_zero, List.set_cons_succ]
                    refine wpAnyH_take (i := 22) (oi := ⟨some 127, _, _, _, _, _⟩) (v := ?vt4_22) rfl (by kernel_rfl) (by kernel_rfl) (by kernel_rfl) (fun _ _ _ h => h) (Or.inl ⟨by rfl, ?hyt4_22⟩) ⟨c0, c1, c2, d0, d1⟩ ?restt4_22
                    case hyt4_22 => (intro w hSw; have q0 := hSw.1; have q1 := hSw.2.1; have q2 := hSw.2.2.1; have q3 := hSw.2.2.2.1; have q4 := hSw.2.2.2.2; go_simp; try (with_reducible rfl))
                    simp only [Act.put, List.setIfInBounds_toArray, List.set_cons_zero, List.set_cons_succ]
                    refine wpAnyH_take (i := 23) (oi := ⟨some 128, _, _, _, _, _⟩) (v := ?vt4_23) rfl (by kernel_rfl) (by kernel_rfl) (by kernel_rfl) (fun _ _ _ h => h) (Or.inl ⟨by rfl, ?hyt4_23⟩) ⟨c0, c1, c2, d0, d1⟩ ?restt4_23
                    case hyt4_23 => (intro w hSw; go_simp; try (with_reducible rfl))
                    simp only [Act.put, List.setIfInBounds_toArray, List.set_cons_zero, List.set_cons_succ]
                    refine wpAnyH_take (i := 24) (oi := ⟨some 129, _, _, _, _, _⟩) (v := ?vt4_24) rfl (by kernel_rfl) (by kernel_rfl) (by kernel_rfl) (fun _ _ _ h => h) (Or.inl ⟨by rfl, ?hyt4_24⟩) ⟨c0, c1, c2, d0, d1⟩ ?restt4_24
                    case hyt4_24 => (intro w hSw; go_simp; try (with_reducible rfl))
                    simp only [Act.put, List.setIfInBounds_toArray, List.set_cons_zero, List.set_cons_succ]
                    refine wpAnyH_take (i := 25) (oi := ⟨some 130, _, _, _, _, _⟩) (v := ?vt4_25) rfl (by kernel_rfl) (by kernel_rfl) (by kernel_rfl) (fun _ _ _ h => h) (Or.inl ⟨by rfl, ?hyt4_25⟩) ⟨c0, c1, c2, d0, d1⟩ ?restt4_25
                    case hyt4_25 => (intro w hSw; go_simp; try (with_reducible rfl))
                    simp only [Act.put, List.setIfInBounds_toArray, List.set_cons_zero, List.set_cons_succ]
                    refine anyH_one (i := 26) (o := ⟨some 131, _, _, _, _, _⟩) (by kernel_rfl) rfl (fun K hK => ?_)
                    rw [if_pos (by rfl)]
                    go_simp
                    refine (awake16 C.T _).mono ?_
                    rintro e wy ⟨rfl, hs⟩
                    have BY := Lib.hid (B14.out.drew.trans (hs.mono B14.out.drew.size))
                    have y_c0 := (hs.cell (p := ⟨w10.heap.size, 0, none⟩) (lt_of_cell c0)).trans c0
                    have y_c1 := (hs.cell (p := ⟨w10.heap.size, 1, none⟩) (lt_of_cell c1)).trans c1
                    have y_c2 := (hs.cell (p := ⟨w10.heap.size, 2, none⟩) (lt_of_cell c2)).trans c2
                    have y_d0 := (hs.cell (p := ⟨b1, o1 + i * 2, none⟩) (lt_of_cell d0)).trans d0
                    have y_d1 := (hs.cell (p := ⟨b1, o1 + i * 2 + 1, none⟩) (lt_of_cell d1)).trans d1
                    clear hs
                    refine hK.out _ _ ⟨y_c0, y_c1, y_c2, y_d0, y_d1⟩ ?_
                    clear hK K
                    try simp only [Act.put, List.setIfInBounds_toArray, List.set_cons_zero, List.set_cons_succ]
                    refine wpAnyH_take (i := 27) (oi := ⟨some 132, _, _, _, _, _⟩) (v := ?vt4_27) rfl (by kernel_rfl) (by kernel_rfl) (by kernel_rfl) (fun _ _ _ h => h) (Or.inl ⟨by rfl, ?hyt4_27⟩) ⟨y_c0, y_c1, y_c2, y_d0, y_d1⟩ ?restt4_27
                    case hyt4_27 => (intro w hSw; go_simp; try (with_reducible rfl))
                    simp only [Act.put, List.setIfInBounds_toArray, List.set_cons_zero, List.set_cons_succ]
                    refine wpAnyH_take (i := 28) (oi := ⟨some 8, _, _, _, _, _⟩) (v := ?vt4_28) rfl (by kernel_rfl) (by kernel_rfl) (by kernel_rfl) (fun _ _ _ h => h) (Or.inl ⟨by rfl, ?hyt4_28⟩) ⟨y_c0, y_c1, y_c2, y_d0, y_d1⟩ ?restt4_28
                    case hyt4_28 => (intro w hSw; go_simp; try (with_reducible rfl))
                    simp only [Act.put, List.setIfInBounds_toArray, List.set_cons_zero, List.set_cons_succ]
                    refine wpAnyH_done (by kernel_rfl) ?_ _
                    go_wp2
                    go_ret
                    exact ⟨rfl, BY.out⟩
              · have B7 := Lib.hid B6.out
                go_wp2_with fail
                refine (awake16 C.T _).mono ?_
                rintro ev wz ⟨rfl, hs⟩
                have BZ := Lib.hid (B7.out.trans (hs.mono B7.out.size))
                clear hs
                go_wp2
                go_ret
                exact ⟨rfl, BZ.out⟩
end Go.Proofs.Ytkbfhpgcjljbbaa
