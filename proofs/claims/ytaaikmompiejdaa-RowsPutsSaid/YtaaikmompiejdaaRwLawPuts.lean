/- The walk of the law RowsPuts, out of package rows's contracts. -/
import Derived.Test.YtaaikmompiejdaaRwC
import Derived.Test.YtaaikmompiejdaaRwSB
namespace Go.Proofs.Ytaaikmompiejdaa
open Go.RowKit

set_option maxRecDepth 100000 in
set_option maxHeartbeats 4000000 in
theorem lawPuts (C : RwC) (v : Value) (rs : List Rw) (k x : ByteArray) (w : World) (hv : RowsV w v rs) (hk : k.size ≤ maxLen) (hx : x.size ≤ maxLen) :
    Calls Try.prog 4 #[v, .agg #[.string k, .string x]] w fun ev w' => ev = .returned (.bool true) ∧ Below w.heap.size w w' := by
  have hnot : ∀ (x : Bool) (w : World), (Op.unary .not (.bool x)).run Try.prog w = .ok (.bool (!x)) w := fun _ _ => rfl
  have L : Aside (RwC ∧ k.size ≤ maxLen ∧ x.size ≤ maxLen) := ⟨C, hk, hx⟩
  have R0 := Lib.hid (hv.alloc (.cells #[.string k, .string x] 30))
  have P0 := Lib.hid (PB.new k x w 30)
  have B0 := Lib.hid (alloc_below0 w (.cells #[.string k, .string x] 30))
  unfold maxLen at hk hx
  clear C hv
  go_enter Try.func4, Try.ntmps4
  go_wp2_with fail
  refine (rfew_any v rs _ R0.out).mono ?_
  rintro ev w1 ⟨rfl, hs⟩
  have R1 := Lib.hid (R0.out.below hs)
  have P1 := Lib.hid (P0.out.step hs)
  have B1 := Lib.hid (B0.out.trans (hs.mono B0.out.size))
  clear R0 P0 B0
  clear hs
  cases hf : fewR rs with
  | false =>
    clear hf
    go_wp2_with fail
    refine (awakeR L.out.1 _).mono ?_
    rintro ev w2 ⟨rfl, hs⟩
    have R2 := Lib.hid (R1.out.below hs)
    have P2 := Lib.hid (P1.out.step hs)
    have B2 := Lib.hid (B1.out.trans (hs.mono B1.out.size))
    clear R1 P1 B1
    clear hs
    go_wp2
    go_ret
    exact ⟨rfl, B2.out⟩
  | true =>
    have K := Lib.hid (show rs.length ≤ 1000 by have := fewR_len hf; omega)
    clear hf
    have c0 := P1.out.c0
    have c1 := P1.out.c1
    by_cases h1 : k.size ≤ 100
    · by_cases h2 : x.size ≤ 100
      · go_wp2_with fail
        refine (own_any v rs _ R1.out K.out).mono ?_
        rintro ev w2 ⟨u, rfl, ho, hs⟩
        have R2 := Lib.hid (R1.out.below hs)
        have P2 := Lib.hid (P1.out.step hs)
        have B2 := Lib.hid (B1.out.trans (hs.mono B1.out.size))
        clear R1 P1 B1
        have U0 := Lib.hid (ho.rows R2.out.small)
        clear hs ho
        clear c0 c1
        have c0 := P2.out.c0
        have c1 := P2.out.c1
        go_wp2_with fail
        refine (L.out.1.drop u rs k _ U0.out K.out L.out.2.1).mono ?_
        rintro ev w3 ⟨d, rfl, h3, hs⟩
        have R3 := Lib.hid (R2.out.below hs)
        have P3 := Lib.hid (P2.out.step hs)
        have B3 := Lib.hid (B2.out.trans (hs.mono B2.out.size))
        have U1 := Lib.hid (U0.out.below hs)
        clear R2 P2 B2 U0
        have D0 := Lib.hid (h3)
        clear hs h3
        clear c0 c1
        have c0 := P3.out.c0
        have c1 := P3.out.c1
        go_wp2_with fail
        refine (refDrop_any v rs k _ R3.out L.out.2.1 K.out).mono ?_
        rintro ev w4 ⟨e, rfl, h4, hs⟩
        have R4 := Lib.hid (R3.out.below hs)
        have P4 := Lib.hid (P3.out.step hs)
        have B4 := Lib.hid (B3.out.trans (hs.mono B3.out.size))
        have U2 := Lib.hid (U1.out.below hs)
        have D1 := Lib.hid (D0.out.below hs)
        clear R3 P3 B3 U1 D0
        have E0 := Lib.hid (h4)
        clear hs h4
        clear c0 c1
        have c0 := P4.out.c0
        have c1 := P4.out.c1
        obtain ⟨t, ht⟩ : ∃ t, (fnd rs k).2 = t := ⟨_, rfl⟩
        rw [ht]
        have T := Lib.hid ht
        clear ht
        have htt : (t != t) = false := by simp
        have htt2 : (t == t) = true := by simp
        go_wp2_with fail
        refine (refSame_any d e _ _ _ D1.out E0.out).mono ?_
        rintro ev w5 ⟨rfl, hs⟩
        rw [sameR_self]
        have R5 := Lib.hid (R4.out.below hs)
        have P5 := Lib.hid (P4.out.step hs)
        have B5 := Lib.hid (B4.out.trans (hs.mono B4.out.size))
        have U3 := Lib.hid (U2.out.below hs)
        have D2 := Lib.hid (D1.out.below hs)
        have E1 := Lib.hid (E0.out.below hs)
        clear R4 P4 B4 U2 D1 E0
        clear hs
        clear c0 c1
        have c0 := P5.out.c0
        have c1 := P5.out.c1
        go_wp2_with fail
        refine (refSame_any u v _ _ _ U3.out R5.out).mono ?_
        rintro ev w6 ⟨rfl, hs⟩
        rw [sameR_self]
        have R6 := Lib.hid (R5.out.below hs)
        have P6 := Lib.hid (P5.out.step hs)
        have B6 := Lib.hid (B5.out.trans (hs.mono B5.out.size))
        have U4 := Lib.hid (U3.out.below hs)
        have D3 := Lib.hid (D2.out.below hs)
        have E2 := Lib.hid (E1.out.below hs)
        clear R5 P5 B5 U3 D2 E1
        clear hs
        clear c0 c1
        have c0 := P6.out.c0
        have c1 := P6.out.c1
        cases hfit : fitB (k, x) with
        | false =>
          have F := Lib.hid hfit
          clear hfit
          go_wp2_with fail
          refine (L.out.1.putNo u rs k x _ U4.out K.out L.out.2.1 L.out.2.2 F.out).mono ?_
          rintro ev w7 ⟨p, rfl, h5, hs⟩
          have R7 := Lib.hid (R6.out.below hs)
          have P7 := Lib.hid (P6.out.step hs)
          have B7 := Lib.hid (B6.out.trans (hs.mono B6.out.size))
          have U5 := Lib.hid (U4.out.below hs)
          have D4 := Lib.hid (D3.out.below hs)
          have E3 := Lib.hid (E2.out.below hs)
          clear R6 P6 B6 U4 D3 E2
          have Q0 := Lib.hid (h5)
          clear hs h5
          clear c0 c1
          have c0 := P7.out.c0
          have c1 := P7.out.c1
          obtain ⟨pa, pc, hp, -, -⟩ := Q0.out.lenform
          subst hp
          go_wp2_with fail
          refine (refFits_any (k, x) _ L.out.2.1 L.out.2.2).mono ?_
          rintro ev w8 ⟨rfl, hs⟩
          rw [F.out]
          have R8 := Lib.hid (R7.out.below hs)
          have P8 := Lib.hid (P7.out.step hs)
          have B8 := Lib.hid (B7.out.trans (hs.mono B7.out.size))
          have U6 := Lib.hid (U5.out.below hs)
          have D5 := Lib.hid (D4.out.below hs)
          have E4 := Lib.hid (E3.out.below hs)
          have Q1 := Lib.hid (Q0.out.below hs)
          clear R7 P7 B7 U5 D4 E3 Q0
          clear hs
          go_wp2_with fail
          refine (Is_code 1 1 _).mono ?_
          rintro ev w9 ⟨rfl, rfl⟩
          have e1 : ((1 : Int) == 1) = true := rfl
          rw [e1]
          clear e1
          go_wp2_with fail
          refine (awakeR L.out.1 _).mono ?_
          rintro ev w10 ⟨rfl, hs⟩
          have R9 := Lib.hid (R8.out.below hs)
          have P9 := Lib.hid (P8.out.step hs)
          have B9 := Lib.hid (B8.out.trans (hs.mono B8.out.size))
          have U7 := Lib.hid (U6.out.below hs)
          have D6 := Lib.hid (D5.out.below hs)
          have E5 := Lib.hid (E4.out.below hs)
          have Q2 := Lib.hid (Q1.out.below hs)
          clear R8 P8 B8 U6 D5 E4 Q1
          clear hs
          go_wp2
          go_ret
          exact ⟨rfl, B9.out⟩
        | true =>
          have F := Lib.hid hfit
          clear hfit
          go_wp2_with fail
          refine (L.out.1.put u rs k x _ U4.out K.out L.out.2.1 L.out.2.2 F.out).mono ?_
          rintro ev w7 ⟨p, rfl, h5, hs⟩
          rw [T.out]
          have R7 := Lib.hid (R6.out.below hs)
          have P7 := Lib.hid (P6.out.step hs)
          have B7 := Lib.hid (B6.out.trans (hs.mono B6.out.size))
          have U5 := Lib.hid (U4.out.below hs)
          have D4 := Lib.hid (D3.out.below hs)
          have E3 := Lib.hid (E2.out.below hs)
          clear R6 P6 B6 U4 D3 E2
          have Q0 := Lib.hid (h5)
          clear hs h5
          clear c0 c1
          have c0 := P7.out.c0
          have c1 := P7.out.c1
          go_wp2_with fail
          refine (refFits_any (k, x) _ L.out.2.1 L.out.2.2).mono ?_
          rintro ev w8 ⟨rfl, hs⟩
          rw [F.out]
          have R8 := Lib.hid (R7.out.below hs)
          have P8 := Lib.hid (P7.out.step hs)
          have B8 := Lib.hid (B7.out.trans (hs.mono B7.out.size))
          have U6 := Lib.hid (U5.out.below hs)
          have D5 := Lib.hid (D4.out.below hs)
          have E4 := Lib.hid (E3.out.below hs)
          have Q1 := Lib.hid (Q0.out.below hs)
          clear R7 P7 B7 U5 D4 E3 Q0
          clear hs
          clear c0 c1
          have c0 := P8.out.c0
          have c1 := P8.out.c1
          go_wp2_with fail
          refine (refPut_any v rs k x _ R8.out L.out.2.1 L.out.2.2 K.out).mono ?_
          rintro ev w9 ⟨q, rfl, h6, hs⟩
          rw [T.out]
          have R9 := Lib.hid (R8.out.below hs)
          have P9 := Lib.hid (P8.out.step hs)
          have B9 := Lib.hid (B8.out.trans (hs.mono B8.out.size))
          have U7 := Lib.hid (U6.out.below hs)
          have D6 := Lib.hid (D5.out.below hs)
          have E5 := Lib.hid (E4.out.below hs)
          have Q2 := Lib.hid (Q1.out.below hs)
          clear R8 P8 B8 U6 D5 E4 Q1
          have G0 := Lib.hid (h6)
          clear hs h6
          go_wp2_with fail
          refine (refSame_any p q _ _ _ Q2.out G0.out).mono ?_
          rintro ev w10 ⟨rfl, hs⟩
          rw [sameR_self]
          have R10 := Lib.hid (R9.out.below hs)
          have P10 := Lib.hid (P9.out.step hs)
          have B10 := Lib.hid (B9.out.trans (hs.mono B9.out.size))
          have U8 := Lib.hid (U7.out.below hs)
          have D7 := Lib.hid (D6.out.below hs)
          have E6 := Lib.hid (E5.out.below hs)
          have Q3 := Lib.hid (Q2.out.below hs)
          have G1 := Lib.hid (G0.out.below hs)
          clear R9 P9 B9 U7 D6 E5 Q2 G0
          clear hs
          go_wp2_with fail
          refine (refSame_any u v _ _ _ U8.out R10.out).mono ?_
          rintro ev w11 ⟨rfl, hs⟩
          rw [sameR_self]
          have R11 := Lib.hid (R10.out.below hs)
          have P11 := Lib.hid (P10.out.step hs)
          have B11 := Lib.hid (B10.out.trans (hs.mono B10.out.size))
          have U9 := Lib.hid (U8.out.below hs)
          have D8 := Lib.hid (D7.out.below hs)
          have E7 := Lib.hid (E6.out.below hs)
          have Q4 := Lib.hid (Q3.out.below hs)
          have G2 := Lib.hid (G1.out.below hs)
          clear R10 P10 B10 U8 D7 E6 Q3 G1
          clear hs
          go_wp2_with fail
          refine (awakeR L.out.1 _).mono ?_
          rintro ev w12 ⟨rfl, hs⟩
          have R12 := Lib.hid (R11.out.below hs)
          have P12 := Lib.hid (P11.out.step hs)
          have B12 := Lib.hid (B11.out.trans (hs.mono B11.out.size))
          have U10 := Lib.hid (U9.out.below hs)
          have D9 := Lib.hid (D8.out.below hs)
          have E8 := Lib.hid (E7.out.below hs)
          have Q5 := Lib.hid (Q4.out.below hs)
          have G3 := Lib.hid (G2.out.below hs)
          clear R11 P11 B11 U9 D8 E7 Q4 G2
          clear hs
          go_wp2
          go_ret
          exact ⟨rfl, B12.out⟩
      · go_wp2_with fail
        refine (awakeR L.out.1 _).mono ?_
        rintro ev w2 ⟨rfl, hs⟩
        have R2 := Lib.hid (R1.out.below hs)
        have P2 := Lib.hid (P1.out.step hs)
        have B2 := Lib.hid (B1.out.trans (hs.mono B1.out.size))
        clear R1 P1 B1
        clear hs
        go_wp2
        go_ret
        exact ⟨rfl, B2.out⟩
    · go_wp2_with fail
      refine (awakeR L.out.1 _).mono ?_
      rintro ev w2 ⟨rfl, hs⟩
      have R2 := Lib.hid (R1.out.below hs)
      have P2 := Lib.hid (P1.out.step hs)
      have B2 := Lib.hid (B1.out.trans (hs.mono B1.out.size))
      clear R1 P1 B1
      clear hs
      go_wp2
      go_ret
      exact ⟨rfl, B2.out⟩
end Go.Proofs.Ytaaikmompiejdaa
