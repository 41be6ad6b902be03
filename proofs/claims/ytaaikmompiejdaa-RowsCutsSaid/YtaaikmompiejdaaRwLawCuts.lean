/- The walk of the law RowsCuts, out of package rows's contracts. -/
import Derived.Test.YtaaikmompiejdaaRwSort
import Derived.Test.YtaaikmompiejdaaRwSB
namespace Go.Proofs.Ytaaikmompiejdaa
open Go.RowKit

set_option maxRecDepth 100000 in
set_option maxHeartbeats 4000000 in
theorem lawCuts (C : RwC) (v : Value) (rs : List Rw) (key : ByteArray) (w : World) (hv : RowsV w v rs) (hk : key.size ≤ maxLen) :
    Calls Try.prog 10 #[v, .string key] w fun ev w' => ev = .returned (.bool true) ∧ Below w.heap.size w w' := by
  have hnot : ∀ (x : Bool) (w : World), (Op.unary .not (.bool x)).run Try.prog w = .ok (.bool (!x)) w := fun _ _ => rfl
  have L : Aside (RwC ∧ key.size ≤ maxLen) := ⟨C, hk⟩
  have R0 := Lib.hid (hv)
  have B0 := Lib.hid (Below.refl w.heap.size w)
  unfold maxLen at hk
  clear C hv
  go_enter Try.func10, Try.ntmps10
  go_wp2_with fail
  refine (rfew_any v rs _ R0.out).mono ?_
  rintro ev w1 ⟨rfl, hs⟩
  have R1 := Lib.hid (R0.out.below hs)
  have B1 := Lib.hid (B0.out.trans (hs.mono B0.out.size))
  clear R0 B0
  clear hs
  cases hf : fewR rs with
  | false =>
    clear hf
    go_wp2_with fail
    refine (awakeR L.out.1 _).mono ?_
    rintro ev w2 ⟨rfl, hs⟩
    have R2 := Lib.hid (R1.out.below hs)
    have B2 := Lib.hid (B1.out.trans (hs.mono B1.out.size))
    clear R1 B1
    clear hs
    go_wp2
    go_ret
    exact ⟨rfl, B2.out⟩
  | true =>
    have K2000 := Lib.hid (fewR_len hf)
    have K := Lib.hid (show rs.length ≤ 1000 by have := fewR_len hf; omega)
    clear hf
    go_wp2_with fail
    refine (refRowsRight_any v rs _ R1.out).mono ?_
    rintro ev w2 ⟨rfl, hs⟩
    have R2 := Lib.hid (R1.out.below hs)
    have B2 := Lib.hid (B1.out.trans (hs.mono B1.out.size))
    clear R1 B1
    clear hs
    cases hr : rightB rs with
    | false =>
      clear hr
      go_wp2_with fail
      refine (awakeR L.out.1 _).mono ?_
      rintro ev w3 ⟨rfl, hs⟩
      have R3 := Lib.hid (R2.out.below hs)
      have B3 := Lib.hid (B2.out.trans (hs.mono B2.out.size))
      clear R2 B2
      clear hs
      go_wp2
      go_ret
      exact ⟨rfl, B3.out⟩
    | true =>
      have V := Lib.hid hr
      clear hr
      by_cases hk1 : key.size ≤ 100
      · have hz : (⟨#[]⟩ : ByteArray).size ≤ maxLen := by decide
        have Z := Lib.hid hz
        clear hz
        have KA := Lib.hid (show (rs.take (fnd rs key).1).length ≤ 1000 by have := K.out; rw [List.length_take]; omega)
        have KE := Lib.hid (show (rs.drop (fnd rs key).1).length ≤ 1000 by have := K.out; rw [List.length_drop]; omega)
        have hA := Lib.hid (show rightB (rs.take (fnd rs key).1) = true from rightFrom_take rs _ V.out)
        have hE := Lib.hid (rightB_drop rs (fnd rs key).1 V.out)
        go_wp2_with fail
        refine (own_any v rs _ R2.out K.out).mono ?_
        rintro ev w3 ⟨u, rfl, ho, hs⟩
        have R3 := Lib.hid (R2.out.below hs)
        have B3 := Lib.hid (B2.out.trans (hs.mono B2.out.size))
        clear R2 B2
        have U0 := Lib.hid (ho.rows R3.out.small)
        clear hs ho
        go_wp2_with fail
        refine (L.out.1.cut u rs key _ U0.out K.out L.out.2).mono ?_
        rintro ev w4 ⟨a, e, rfl, h1, h2, hs⟩
        have R4 := Lib.hid (R3.out.below hs)
        have B4 := Lib.hid (B3.out.trans (hs.mono B3.out.size))
        have U1 := Lib.hid (U0.out.below hs)
        clear R3 B3 U0
        have A0 := Lib.hid (h1)
        have E0 := Lib.hid (h2)
        clear hs h1 h2
        go_wp2_with fail
        refine (L.out.1.take v rs ⟨#[]⟩ key false false 0 _ R4.out K.out Z.out L.out.2 (by decide)).mono ?_
        rintro ev w5 ⟨x, rfl, h1, hs⟩
        have R5 := Lib.hid (R4.out.below hs)
        have B5 := Lib.hid (B4.out.trans (hs.mono B4.out.size))
        have U2 := Lib.hid (U1.out.below hs)
        have A1 := Lib.hid (A0.out.below hs)
        have E1 := Lib.hid (E0.out.below hs)
        clear R4 B4 U1 A0 E0
        have X0 := Lib.hid (h1)
        clear hs h1
        go_wp2_with fail
        refine (refSame_any a x _ _ _ A1.out X0.out).mono ?_
        rintro ev w6 ⟨rfl, hs⟩
        rw [take_low key rs V.out, sameR_self]
        have R6 := Lib.hid (R5.out.below hs)
        have B6 := Lib.hid (B5.out.trans (hs.mono B5.out.size))
        have U3 := Lib.hid (U2.out.below hs)
        have A2 := Lib.hid (A1.out.below hs)
        have E2 := Lib.hid (E1.out.below hs)
        have X1 := Lib.hid (X0.out.below hs)
        clear R5 B5 U2 A1 E1 X0
        clear hs
        go_wp2_with fail
        refine (L.out.1.take v rs key ⟨#[]⟩ true false 0 _ R6.out K.out L.out.2 Z.out (by decide)).mono ?_
        rintro ev w7 ⟨y, rfl, h1, hs⟩
        have R7 := Lib.hid (R6.out.below hs)
        have B7 := Lib.hid (B6.out.trans (hs.mono B6.out.size))
        have U4 := Lib.hid (U3.out.below hs)
        have A3 := Lib.hid (A2.out.below hs)
        have E3 := Lib.hid (E2.out.below hs)
        have X2 := Lib.hid (X1.out.below hs)
        clear R6 B6 U3 A2 E2 X1
        have Y0 := Lib.hid (h1)
        clear hs h1
        go_wp2_with fail
        refine (refSame_any e y _ _ _ E3.out Y0.out).mono ?_
        rintro ev w8 ⟨rfl, hs⟩
        rw [take_high key rs V.out, sameR_self]
        have R8 := Lib.hid (R7.out.below hs)
        have B8 := Lib.hid (B7.out.trans (hs.mono B7.out.size))
        have U5 := Lib.hid (U4.out.below hs)
        have A4 := Lib.hid (A3.out.below hs)
        have E4 := Lib.hid (E3.out.below hs)
        have X3 := Lib.hid (X2.out.below hs)
        have Y1 := Lib.hid (Y0.out.below hs)
        clear R7 B7 U4 A3 E3 X2 Y0
        clear hs
        go_wp2_with fail
        refine (L.out.1.right a _ _ A4.out KA.out).mono ?_
        rintro ev w9 ⟨rfl, hs⟩
        rw [hA.out]
        have R9 := Lib.hid (R8.out.below hs)
        have B9 := Lib.hid (B8.out.trans (hs.mono B8.out.size))
        have U6 := Lib.hid (U5.out.below hs)
        have A5 := Lib.hid (A4.out.below hs)
        have E5 := Lib.hid (E4.out.below hs)
        have X4 := Lib.hid (X3.out.below hs)
        have Y2 := Lib.hid (Y1.out.below hs)
        clear R8 B8 U5 A4 E4 X3 Y1
        clear hs
        go_wp2_with fail
        refine (L.out.1.right e _ _ E5.out KE.out).mono ?_
        rintro ev w10 ⟨rfl, hs⟩
        rw [hE.out]
        have R10 := Lib.hid (R9.out.below hs)
        have B10 := Lib.hid (B9.out.trans (hs.mono B9.out.size))
        have U7 := Lib.hid (U6.out.below hs)
        have A6 := Lib.hid (A5.out.below hs)
        have E6 := Lib.hid (E5.out.below hs)
        have X5 := Lib.hid (X4.out.below hs)
        have Y3 := Lib.hid (Y2.out.below hs)
        clear R9 B9 U6 A5 E5 X4 Y2
        clear hs
        go_wp2_with fail
        refine (awakeR L.out.1 _).mono ?_
        rintro ev w11 ⟨rfl, hs⟩
        have R11 := Lib.hid (R10.out.below hs)
        have B11 := Lib.hid (B10.out.trans (hs.mono B10.out.size))
        have U8 := Lib.hid (U7.out.below hs)
        have A7 := Lib.hid (A6.out.below hs)
        have E7 := Lib.hid (E6.out.below hs)
        have X6 := Lib.hid (X5.out.below hs)
        have Y4 := Lib.hid (Y3.out.below hs)
        clear R10 B10 U7 A6 E6 X5 Y3
        clear hs
        go_wp2
        go_ret
        exact ⟨rfl, B11.out⟩
      · go_wp2_with fail
        refine (awakeR L.out.1 _).mono ?_
        rintro ev w3 ⟨rfl, hs⟩
        have R3 := Lib.hid (R2.out.below hs)
        have B3 := Lib.hid (B2.out.trans (hs.mono B2.out.size))
        clear R2 B2
        clear hs
        go_wp2
        go_ret
        exact ⟨rfl, B3.out⟩
end Go.Proofs.Ytaaikmompiejdaa
