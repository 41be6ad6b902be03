/- The walk of the law ArenaNobody, out of package arena's contracts. -/
import Derived.Test.YtkokpbkpmhhemaaArDo
namespace Go.Proofs.Ytkokpbkpmhhemaa
open Go.RowKit

set_option maxRecDepth 100000 in
set_option maxHeartbeats 4000000 in
theorem lawNobody (C : ArC) (verb : Int) (s : Sc) (rv en : Value) (x y : Int) (last : Bool) (nn : Int) (rows : List Rw) (ents : List En) (w : World) (hr : SV lRow w rv rows) (he : SV lEnt w en ents) :
    Calls Try.prog 6 #[doVal verb s rv en x y last nn] w fun ev w' => ev = .returned (.bool true) ∧ Below w.heap.size w w' := by
  obtain ⟨ra, rc, rfl, -, -⟩ := hr.lenform
  obtain ⟨ea, ec, rfl, -, -⟩ := he.lenform
  have b0 := alloc_below0 w (doObj verb s (.slice ra rows.length rc) (.slice ea ents.length ec) x y last nn)
  have D0 := Lib.hid (DB.new verb s (.slice ra rows.length rc) (.slice ea ents.length ec) x y last nn w)
  have R0 := Lib.hid (hr.below b0)
  have E0 := Lib.hid (he.below b0)
  have B0 := Lib.hid (b0)
  unfold doObj at D0 R0 E0 B0
  unfold doVal
  clear hr he b0
  go_enter Try.func6, Try.ntmps6
  by_cases h1 : rows.length ≤ 60
  · by_cases h2 : ents.length ≤ 60
    · go_wp2_with fail
      refine (C.allocNil _ ⟨s, rows, ents⟩ _ ⟨_, _, rfl, R0.out, E0.out⟩ (show rows.length ≤ 1000 by omega) (show ents.length ≤ 1000 by omega)).mono ?_
      rintro ev w1 ⟨rfl, hs⟩
      have D1 := Lib.hid (D0.out.step hs)
      have R1 := Lib.hid (R0.out.below hs)
      have E1 := Lib.hid (E0.out.below hs)
      have B1 := Lib.hid (B0.out.trans (hs.mono B0.out.size))
      clear D0 R0 E0 B0
      clear hs
      unfold refV
      clear R1
      clear E1
      have hs := alloc_below0 w1 (.cells #[.int .i64 0, .int .i64 0] 34)
      have D2 := Lib.hid (D1.out.step hs)
      have B2 := Lib.hid (B1.out.trans (hs.mono B1.out.size))
      clear D1 B1
      have X0 := Lib.hid (XB.new 0 0 w1 34)
      clear hs
      have d_16 := D2.out.c16
      have d_17 := D2.out.c17
      go_wp2_with fail
      refine (C.loadNil x y _).mono ?_
      rintro ev w2 ⟨rv2, en2, rfl, g1, g2, hs⟩
      have D3 := Lib.hid (D2.out.step hs)
      have B3 := Lib.hid (B2.out.trans (hs.mono B2.out.size))
      have X1 := Lib.hid (X0.out.step hs)
      clear D2 B2 X0
      have Y0 := Lib.hid (g1)
      have Z0 := Lib.hid (g2)
      clear hs g1 g2
      clear d_16 d_17
      obtain ⟨ya, yc, rfl, -, -⟩ := Y0.out.lenform
      obtain ⟨za, zc, rfl, -, -⟩ := Z0.out.lenform
      simp only [List.length_nil]
      unfold recVal
      have hs := alloc_below0 w2 (recObj Sc.zero (.slice ya 0 yc) (.slice za 0 zc))
      have D4 := Lib.hid (D3.out.step hs)
      have B4 := Lib.hid (B3.out.trans (hs.mono B3.out.size))
      have X2 := Lib.hid (X1.out.step hs)
      have Y1 := Lib.hid (Y0.out.below hs)
      have Z1 := Lib.hid (Z0.out.below hs)
      clear D3 B3 X1 Y0 Z0
      have T0 := Lib.hid (RB.new Sc.zero (.slice ya 0 yc) (.slice za 0 zc) w2)
      clear hs
      unfold recObj at D4 B4 X2 Y1 Z1 T0
      have e1 : ((1 : Int) == 1) = true := rfl
      have x_0 := X2.out.c0
      have x_1 := X2.out.c1
      go_wp2_with fail
      refine (fIs_code 1 1 _).mono ?_
      rintro ev w3 ⟨rfl, hs⟩
      rw [e1]
      have D5 := Lib.hid (D4.out.step hs)
      have B5 := Lib.hid (B4.out.trans (hs.mono B4.out.size))
      have X3 := Lib.hid (X2.out.step hs)
      have Y2 := Lib.hid (Y1.out.below hs)
      have Z2 := Lib.hid (Z1.out.below hs)
      have T1 := Lib.hid (T0.out.step hs)
      clear D4 B4 X2 Y1 Z1 T0
      clear hs
      clear x_0 x_1
      have t_0 := T1.out.c0
      have t_1 := T1.out.c1
      have t_2 := T1.out.c2
      have t_3 := T1.out.c3
      have t_4 := T1.out.c4
      have t_5 := T1.out.c5
      have t_6 := T1.out.c6
      have t_7 := T1.out.c7
      have t_8 := T1.out.c8
      have t_9 := T1.out.c9
      have t_10 := T1.out.c10
      have t_11 := T1.out.c11
      have t_12 := T1.out.c12
      have t_13 := T1.out.c13
      have t_14 := T1.out.c14
      go_wp2_with fail
      refine (same_rec _ _ RecD.zero _ ⟨_, _, rfl, Y2.out, Z2.out⟩ (RecV.zero _) (by decide) (by decide)).mono ?_
      rintro ev w4 ⟨rfl, hs⟩
      have D6 := Lib.hid (D5.out.step hs)
      have B6 := Lib.hid (B5.out.trans (hs.mono B5.out.size))
      have X4 := Lib.hid (X3.out.step hs)
      have Y3 := Lib.hid (Y2.out.below hs)
      have Z3 := Lib.hid (Z2.out.below hs)
      have T2 := Lib.hid (T1.out.step hs)
      clear D5 B5 X3 Y2 Z2 T1
      clear hs
      clear t_0 t_1 t_2 t_3 t_4 t_5 t_6 t_7 t_8 t_9 t_10 t_11 t_12 t_13 t_14
      go_wp2_with fail
      refine (fIs_code 1 1 _).mono ?_
      rintro ev w5 ⟨rfl, hs⟩
      rw [e1]
      have D7 := Lib.hid (D6.out.step hs)
      have B7 := Lib.hid (B6.out.trans (hs.mono B6.out.size))
      have X5 := Lib.hid (X4.out.step hs)
      have Y4 := Lib.hid (Y3.out.below hs)
      have Z4 := Lib.hid (Z3.out.below hs)
      have T3 := Lib.hid (T2.out.step hs)
      clear D6 B6 X4 Y3 Z3 T2
      clear hs
      have d_16 := D7.out.c16
      have d_17 := D7.out.c17
      go_wp2_with fail
      refine (C.freeNil x y _).mono ?_
      rintro ev w6 ⟨rfl, hs⟩
      have D8 := Lib.hid (D7.out.step hs)
      have B8 := Lib.hid (B7.out.trans (hs.mono B7.out.size))
      have X6 := Lib.hid (X5.out.step hs)
      have Y5 := Lib.hid (Y4.out.below hs)
      have Z5 := Lib.hid (Z4.out.below hs)
      have T4 := Lib.hid (T3.out.step hs)
      clear D7 B7 X5 Y4 Z4 T3
      clear hs
      clear d_16 d_17
      go_wp2_with fail
      refine (fIs_code 1 1 _).mono ?_
      rintro ev w7 ⟨rfl, hs⟩
      rw [e1]
      have D9 := Lib.hid (D8.out.step hs)
      have B9 := Lib.hid (B8.out.trans (hs.mono B8.out.size))
      have X7 := Lib.hid (X6.out.step hs)
      have Y6 := Lib.hid (Y5.out.below hs)
      have Z6 := Lib.hid (Z5.out.below hs)
      have T5 := Lib.hid (T4.out.step hs)
      clear D8 B8 X6 Y5 Z5 T4
      clear hs
      go_wp2_with fail
      refine (C.liveNil _).mono ?_
      rintro ev w8 ⟨lv, rfl, g1, hs⟩
      have D10 := Lib.hid (D9.out.step hs)
      have B10 := Lib.hid (B9.out.trans (hs.mono B9.out.size))
      have X8 := Lib.hid (X7.out.step hs)
      have Y7 := Lib.hid (Y6.out.below hs)
      have Z7 := Lib.hid (Z6.out.below hs)
      have T6 := Lib.hid (T5.out.step hs)
      clear D9 B9 X7 Y6 Z6 T5
      have V0 := Lib.hid (g1)
      clear hs g1
      obtain ⟨va, vc, rfl, -, -⟩ := V0.out.lenform
      simp only [List.length_nil]
      go_wp2_with fail
      refine (C.leftNil _).mono ?_
      rintro ev w9 ⟨rfl, hs⟩
      have D11 := Lib.hid (D10.out.step hs)
      have B11 := Lib.hid (B10.out.trans (hs.mono B10.out.size))
      have X9 := Lib.hid (X8.out.step hs)
      have Y8 := Lib.hid (Y7.out.below hs)
      have Z8 := Lib.hid (Z7.out.below hs)
      have T7 := Lib.hid (T6.out.step hs)
      have V1 := Lib.hid (V0.out.below hs)
      clear D10 B10 X8 Y7 Z7 T6 V0
      clear hs
      go_wp2_with fail
      refine (C.copyNil _).mono ?_
      rintro ev w10 ⟨rfl, hs⟩
      have D12 := Lib.hid (D11.out.step hs)
      have B12 := Lib.hid (B11.out.trans (hs.mono B11.out.size))
      have X10 := Lib.hid (X9.out.step hs)
      have Y9 := Lib.hid (Y8.out.below hs)
      have Z9 := Lib.hid (Z8.out.below hs)
      have T8 := Lib.hid (T7.out.step hs)
      have V2 := Lib.hid (V1.out.below hs)
      clear D11 B11 X9 Y8 Z8 T7 V1
      clear hs
      go_wp2_with fail
      refine (awakeA C _).mono ?_
      rintro ev w11 ⟨rfl, hs⟩
      have D13 := Lib.hid (D12.out.step hs)
      have B13 := Lib.hid (B12.out.trans (hs.mono B12.out.size))
      have X11 := Lib.hid (X10.out.step hs)
      have Y10 := Lib.hid (Y9.out.below hs)
      have Z10 := Lib.hid (Z9.out.below hs)
      have T9 := Lib.hid (T8.out.step hs)
      have V3 := Lib.hid (V2.out.below hs)
      clear D12 B12 X10 Y9 Z9 T8 V2
      clear hs
      go_wp2
      go_ret
      exact ⟨rfl, B13.out⟩
    · go_wp2_with fail
      refine (awakeA C _).mono ?_
      rintro ev w1 ⟨rfl, hs⟩
      have D1 := Lib.hid (D0.out.step hs)
      have R1 := Lib.hid (R0.out.below hs)
      have E1 := Lib.hid (E0.out.below hs)
      have B1 := Lib.hid (B0.out.trans (hs.mono B0.out.size))
      clear D0 R0 E0 B0
      clear hs
      go_wp2
      go_ret
      exact ⟨rfl, B1.out⟩
  · go_wp2_with fail
    refine (awakeA C _).mono ?_
    rintro ev w1 ⟨rfl, hs⟩
    have D1 := Lib.hid (D0.out.step hs)
    have R1 := Lib.hid (R0.out.below hs)
    have E1 := Lib.hid (E0.out.below hs)
    have B1 := Lib.hid (B0.out.trans (hs.mono B0.out.size))
    clear D0 R0 E0 B0
    clear hs
    go_wp2
    go_ret
    exact ⟨rfl, B1.out⟩
end Go.Proofs.Ytkokpbkpmhhemaa
