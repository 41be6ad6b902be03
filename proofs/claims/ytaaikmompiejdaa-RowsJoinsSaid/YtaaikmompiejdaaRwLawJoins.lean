/- The walk of the law RowsJoins, out of package rows's contracts. -/
import Derived.Test.YtaaikmompiejdaaRwSort
import Derived.Test.YtaaikmompiejdaaRwSB
import Derived.Test.YtaaikmompiejdaaB2Code
namespace Go.Proofs.Ytaaikmompiejdaa
open Go.RowKit

set_option maxRecDepth 100000 in
set_option maxHeartbeats 4000000 in
theorem lawJoins (C : RwC) (v : Value) (rs : List Rw) (key : ByteArray) (w : World) (hv : RowsV w v rs) (hk : key.size ≤ maxLen) :
    Calls Try.prog 8 #[v, .string key] w fun ev w' => ev = .returned (.bool true) ∧ Below w.heap.size w w' := by
  have hnot : ∀ (x : Bool) (w : World), (Op.unary .not (.bool x)).run Try.prog w = .ok (.bool (!x)) w := fun _ _ => rfl
  obtain ⟨a0, n0, rfl, -, -⟩ := hv.lenform
  have L : Aside (RwC ∧ key.size ≤ maxLen) := ⟨C, hk⟩
  have R0 := Lib.hid (hv)
  have B0 := Lib.hid (Below.refl w.heap.size w)
  unfold maxLen at hk
  clear C hv
  go_enter Try.func8, Try.ntmps8
  go_wp2_with fail
  refine (rfew_any (.slice a0 rs.length n0) rs _ R0.out).mono ?_
  rintro ev w1 ⟨rfl, hs⟩
  have R1 := Lib.hid (R0.out.below hs)
  have B1 := Lib.hid (B0.out.trans (hs.mono B0.out.size))
  clear R0 B0
  clear hs
  cases hf : fewR rs with
  | false =>
    clear hf
    go_wp2_with fail
    refine (awakeR L.out.1 _).mono ?_
    rintro ev w2 ⟨rfl, hs⟩
    have R2 := Lib.hid (R1.out.below hs)
    have B2 := Lib.hid (B1.out.trans (hs.mono B1.out.size))
    clear R1 B1
    clear hs
    go_wp2
    go_ret
    exact ⟨rfl, B2.out⟩
  | true =>
    have K2000 := Lib.hid (fewR_len hf)
    have K := Lib.hid (show rs.length ≤ 1000 by have := fewR_len hf; omega)
    clear hf
    go_wp2_with fail
    refine (refRowsRight_any (.slice a0 rs.length n0) rs _ R1.out).mono ?_
    rintro ev w2 ⟨rfl, hs⟩
    have R2 := Lib.hid (R1.out.below hs)
    have B2 := Lib.hid (B1.out.trans (hs.mono B1.out.size))
    clear R1 B1
    clear hs
    cases hr : rightB rs with
    | false =>
      clear hr
      go_wp2_with fail
      refine (awakeR L.out.1 _).mono ?_
      rintro ev w3 ⟨rfl, hs⟩
      have R3 := Lib.hid (R2.out.below hs)
      have B3 := Lib.hid (B2.out.trans (hs.mono B2.out.size))
      clear R2 B2
      clear hs
      go_wp2
      go_ret
      exact ⟨rfl, B3.out⟩
    | true =>
      have V := Lib.hid hr
      clear hr
      by_cases hk1 : key.size ≤ 100
      · have KA := Lib.hid (show (rs.take (fnd rs key).1).length ≤ 1000 by have := K.out; rw [List.length_take]; omega)
        have KE := Lib.hid (show (rs.drop (fnd rs key).1).length ≤ 1000 by have := K.out; rw [List.length_drop]; omega)
        go_wp2_with fail
        refine (L.out.1.cut (.slice a0 rs.length n0) rs key _ R2.out K.out L.out.2).mono ?_
        rintro ev w3 ⟨a, e, rfl, h1, h2, hs⟩
        have R3 := Lib.hid (R2.out.below hs)
        have B3 := Lib.hid (B2.out.trans (hs.mono B2.out.size))
        clear R2 B2
        have A0 := Lib.hid (h1)
        have E0 := Lib.hid (h2)
        clear hs h1 h2
        go_wp2_with fail
        refine (L.out.1.join a e _ _ _ A0.out E0.out KA.out KE.out (clash_cut V.out _)).mono ?_
        rintro ev w4 ⟨j, rfl, h1, hs⟩
        have R4 := Lib.hid (R3.out.below hs)
        have B4 := Lib.hid (B3.out.trans (hs.mono B3.out.size))
        have A1 := Lib.hid (A0.out.below hs)
        have E1 := Lib.hid (E0.out.below hs)
        clear R3 B3 A0 E0
        have J0 := Lib.hid (h1)
        clear hs h1
        go_wp2_with fail
        refine (refSame_any j (.slice a0 rs.length n0) _ rs _ J0.out R4.out).mono ?_
        rintro ev w5 ⟨rfl, hs⟩
        rw [List.take_append_drop, sameR_self]
        have R5 := Lib.hid (R4.out.below hs)
        have B5 := Lib.hid (B4.out.trans (hs.mono B4.out.size))
        have A2 := Lib.hid (A1.out.below hs)
        have E2 := Lib.hid (E1.out.below hs)
        have J1 := Lib.hid (J0.out.below hs)
        clear R4 B4 A1 E1 J0
        clear hs
        by_cases h2 : rs.length < 2
        · go_wp2_with fail
          refine (L.out.1.halveNo (.slice a0 rs.length n0) rs _ R5.out K.out (by unfold halfB; rw [decide_eq_false (by omega)]; rfl)).mono ?_
          rintro ev w6 ⟨p, q, rfl, h3, h4, hs⟩
          rw [if_pos h2]
          have R6 := Lib.hid (R5.out.below hs)
          have B6 := Lib.hid (B5.out.trans (hs.mono B5.out.size))
          have A3 := Lib.hid (A2.out.below hs)
          have E3 := Lib.hid (E2.out.below hs)
          have J2 := Lib.hid (J1.out.below hs)
          clear R5 B5 A2 E2 J1
          clear hs h3 h4
          go_wp2_with fail
          refine (awakeR L.out.1 _).mono ?_
          rintro ev w7 ⟨rfl, hs⟩
          have R7 := Lib.hid (R6.out.below hs)
          have B7 := Lib.hid (B6.out.trans (hs.mono B6.out.size))
          have A4 := Lib.hid (A3.out.below hs)
          have E4 := Lib.hid (E3.out.below hs)
          have J3 := Lib.hid (J2.out.below hs)
          clear R6 B6 A3 E3 J2
          clear hs
          go_wp2
          go_ret
          exact ⟨rfl, B7.out⟩
        · obtain ⟨m, hm⟩ : ∃ m, rs.length / 2 = m + 1 := ⟨rs.length / 2 - 1, by omega⟩
          have hm2 : m + 1 < rs.length := by omega
          have hm3 : m ≤ 1000 := by have := K.out; omega
          have H := Lib.hid (half_rise V.out (by omega : 2 ≤ rs.length))
          have H1 := Lib.hid (half_low H.out)
          have H2 := Lib.hid (half_high rs)
          have H3 := Lib.hid (clash_cut V.out (rs.length / 2))
          rw [hm] at H1 H2 H3
          rw [show m + 1 - 1 = m by omega] at H1
          have S1 := Lib.hid (R5.out.small.at m).1
          have S2 := Lib.hid (R5.out.small.at (m + 1)).1
          have KC := Lib.hid (show (rs.take (m + 1)).length ≤ 1000 by have := K.out; rw [List.length_take]; omega)
          have KD := Lib.hid (show (rs.drop (m + 1)).length ≤ 1000 by have := K.out; rw [List.length_drop]; omega)
          go_wp2_with fail
          refine (L.out.1.halve (.slice a0 rs.length n0) rs _ R5.out K.out H.out).mono ?_
          rintro ev w6 ⟨p, q, rfl, h3, h4, hs⟩
          have R6 := Lib.hid (R5.out.below hs)
          have B6 := Lib.hid (B5.out.trans (hs.mono B5.out.size))
          have A3 := Lib.hid (A2.out.below hs)
          have E3 := Lib.hid (E2.out.below hs)
          have J2 := Lib.hid (J1.out.below hs)
          clear R5 B5 A2 E2 J1
          clear hs
          rw [hm] at h3 h4
          rcases h3.form with ⟨-, he⟩ | ⟨pb, po, pc, hp, -, -, hpc⟩
          · exact absurd (congrArg List.length he) (by rw [List.length_take, List.length_nil]; omega)
          rcases h4.form with ⟨-, he⟩ | ⟨qb, qo, qc, hq, -, -, hqc⟩
          · exact absurd (congrArg List.length he) (by rw [List.length_drop, List.length_nil]; omega)
          have x0 := (hpc m (by rw [List.length_take]; omega)).1
          have y0 := (hqc 0 (by rw [List.length_drop]; omega)).1
          rw [getD_take (by omega)] at x0
          rw [getD_drop, Nat.add_zero] at y0
          try simp only [Nat.add_zero] at y0
          clear hpc hqc
          subst hp hq
          rw [show (rs.take (m + 1)).length = m + 1 by rw [List.length_take]; omega] at h3 ⊢
          obtain ⟨z, hz⟩ : ∃ z, (rs.drop (m + 1)).length = z + 1 := ⟨(rs.drop (m + 1)).length - 1, by rw [List.length_drop]; omega⟩
          rw [hz] at h4 ⊢
          clear hz
          have X0 := Lib.hid (h3)
          have Y0 := Lib.hid (h4)
          have F0 := Lib.hid (x0)
          have G0 := Lib.hid (y0)
          clear h3 h4 x0 y0 hm
          obtain ⟨kk, hkk⟩ : ∃ kk, halfK rs = kk := ⟨_, rfl⟩
          rw [hkk] at H1 H2 ⊢
          clear hkk
          generalize (rs.getD m r0).1 = xs at *
          generalize (rs.getD (m + 1) r0).1 = ys at *
          go_wp2_with fail
          refine (L.out.1.join (.slice (some ⟨pb, po, none⟩) (m + 1) pc) (.slice (some ⟨qb, qo, none⟩) (z + 1) qc) _ _ _ X0.out Y0.out KC.out KD.out H3.out).mono ?_
          rintro ev w7 ⟨j2, rfl, h1, hs⟩
          have R7 := Lib.hid (R6.out.below hs)
          have B7 := Lib.hid (B6.out.trans (hs.mono B6.out.size))
          have A4 := Lib.hid (A3.out.below hs)
          have E4 := Lib.hid (E3.out.below hs)
          have J3 := Lib.hid (J2.out.below hs)
          have X1 := Lib.hid (X0.out.below hs)
          have Y1 := Lib.hid (Y0.out.below hs)
          have F1 := Lib.hid (cell_step F0.out hs)
          have G1 := Lib.hid (cell_step G0.out hs)
          clear R6 B6 A3 E3 J2 X0 Y0 F0 G0
          have Q0 := Lib.hid (h1)
          clear hs h1
          have q1 : ((m : Int) + 1 == 0) = false := by simp; omega
          have q2 : ((z : Int) + 1 == 0) = false := by simp; omega
          have q3 : ¬ ((m : Int) + 1 = 0) := by omega
          have q4 : ¬ ((z : Int) + 1 = 0) := by omega
          go_wp2_with fail
          refine (refSame_any j2 (.slice a0 rs.length n0) _ rs _ Q0.out R7.out).mono ?_
          rintro ev w8 ⟨rfl, hs⟩
          rw [List.take_append_drop, sameR_self]
          have R8 := Lib.hid (R7.out.below hs)
          have B8 := Lib.hid (B7.out.trans (hs.mono B7.out.size))
          have A5 := Lib.hid (A4.out.below hs)
          have E5 := Lib.hid (E4.out.below hs)
          have J4 := Lib.hid (J3.out.below hs)
          have X2 := Lib.hid (X1.out.below hs)
          have Y2 := Lib.hid (Y1.out.below hs)
          have F2 := Lib.hid (cell_step F1.out hs)
          have G2 := Lib.hid (cell_step G1.out hs)
          have Q1 := Lib.hid (Q0.out.below hs)
          clear R7 B7 A4 E4 J3 X1 Y1 F1 G1 Q0
          clear hs
          have i1 : (0 : Int) ≤ (m : Int) := by omega
          have i2 : (m : Int) < (m : Int) + 1 := by omega
          have f0 := F2.out
          have g0 := G2.out
          go_wp2_with fail
          refine (compare_any xs kk _).mono ?_
          rintro ev w9 ⟨rfl, rfl⟩
          rw [H1.out]
          go_wp2_with fail
          refine (compare_any kk ys _).mono ?_
          rintro ev w10 ⟨rfl, rfl⟩
          rcases H2.out with h | h
          · rw [h]
            clear h H1 H2
            go_wp2_with fail
            refine (awakeR L.out.1 _).mono ?_
            rintro ev w11 ⟨rfl, hs⟩
            have R9 := Lib.hid (R8.out.below hs)
            have B9 := Lib.hid (B8.out.trans (hs.mono B8.out.size))
            have A6 := Lib.hid (A5.out.below hs)
            have E6 := Lib.hid (E5.out.below hs)
            have J5 := Lib.hid (J4.out.below hs)
            have X3 := Lib.hid (X2.out.below hs)
            have Y3 := Lib.hid (Y2.out.below hs)
            have F3 := Lib.hid (cell_step F2.out hs)
            have G3 := Lib.hid (cell_step G2.out hs)
            have Q2 := Lib.hid (Q1.out.below hs)
            clear R8 B8 A5 E5 J4 X2 Y2 F2 G2 Q1
            clear hs
            go_wp2
            go_ret
            exact ⟨rfl, B9.out⟩
          · rw [h]
            clear h H1 H2
            go_wp2_with fail
            refine (awakeR L.out.1 _).mono ?_
            rintro ev w11 ⟨rfl, hs⟩
            have R9 := Lib.hid (R8.out.below hs)
            have B9 := Lib.hid (B8.out.trans (hs.mono B8.out.size))
            have A6 := Lib.hid (A5.out.below hs)
            have E6 := Lib.hid (E5.out.below hs)
            have J5 := Lib.hid (J4.out.below hs)
            have X3 := Lib.hid (X2.out.below hs)
            have Y3 := Lib.hid (Y2.out.below hs)
            have F3 := Lib.hid (cell_step F2.out hs)
            have G3 := Lib.hid (cell_step G2.out hs)
            have Q2 := Lib.hid (Q1.out.below hs)
            clear R8 B8 A5 E5 J4 X2 Y2 F2 G2 Q1
            clear hs
            go_wp2
            go_ret
            exact ⟨rfl, B9.out⟩
      · go_wp2_with fail
        refine (awakeR L.out.1 _).mono ?_
        rintro ev w3 ⟨rfl, hs⟩
        have R3 := Lib.hid (R2.out.below hs)
        have B3 := Lib.hid (B2.out.trans (hs.mono B2.out.size))
        clear R2 B2
        clear hs
        go_wp2
        go_ret
        exact ⟨rfl, B3.out⟩
end Go.Proofs.Ytaaikmompiejdaa
