/- The walk of the law RowsTakes, out of package rows's contracts. -/
import Derived.Test.YtaaikmompiejdaaRwC
import Derived.Test.YtaaikmompiejdaaRwSB
namespace Go.Proofs.Ytaaikmompiejdaa
open Go.RowKit

set_option maxRecDepth 100000 in
set_option maxHeartbeats 4000000 in
theorem lawTakes (C : RwC) (v : Value) (rs : List Rw) (low high : ByteArray) (unb rev : Bool) (limit : Int) (w : World) (hv : RowsV w v rs) (hlo : low.size ≤ maxLen) (hhi : high.size ≤ maxLen) (hli : -9223372036854775808 ≤ limit ∧ limit ≤ 9223372036854775807) :
    Calls Try.prog 6 #[v, .agg #[.string low, .string high, .bool unb], .int .i64 limit, .bool rev] w fun ev w' => ev = .returned (.bool true) ∧ Below w.heap.size w w' := by
  have hnot : ∀ (x : Bool) (w : World), (Op.unary .not (.bool x)).run Try.prog w = .ok (.bool (!x)) w := fun _ _ => rfl
  have L : Aside (RwC ∧ low.size ≤ maxLen ∧ high.size ≤ maxLen ∧ (-9223372036854775808 ≤ limit ∧ limit ≤ 9223372036854775807)) := ⟨C, hlo, hhi, hli⟩
  have R0 := Lib.hid (hv.alloc (.cells #[.string low, .string high, .bool unb] 54))
  have S0 := Lib.hid (SB.new low high unb w 54)
  have B0 := Lib.hid (alloc_below0 w (.cells #[.string low, .string high, .bool unb] 54))
  unfold maxLen at hlo hhi
  clear C hv hli
  go_enter Try.func6, Try.ntmps6
  go_wp2_with fail
  refine (rfew_any v rs _ R0.out).mono ?_
  rintro ev w1 ⟨rfl, hs⟩
  have R1 := Lib.hid (R0.out.below hs)
  have S1 := Lib.hid (S0.out.step hs)
  have B1 := Lib.hid (B0.out.trans (hs.mono B0.out.size))
  clear R0 S0 B0
  clear hs
  cases hf : fewR rs with
  | false =>
    clear hf
    go_wp2_with fail
    refine (awakeR L.out.1 _).mono ?_
    rintro ev w2 ⟨rfl, hs⟩
    have R2 := Lib.hid (R1.out.below hs)
    have S2 := Lib.hid (S1.out.step hs)
    have B2 := Lib.hid (B1.out.trans (hs.mono B1.out.size))
    clear R1 S1 B1
    clear hs
    go_wp2
    go_ret
    exact ⟨rfl, B2.out⟩
  | true =>
    have K := Lib.hid (show rs.length ≤ 1000 by have := fewR_len hf; omega)
    clear hf
    have c0 := S1.out.c0
    have c1 := S1.out.c1
    by_cases h1 : low.size ≤ 100
    · by_cases h2 : high.size ≤ 100
      · have c2 := S1.out.c2
        go_wp2_with fail
        refine (L.out.1.take v rs low high unb rev limit _ R1.out K.out L.out.2.1 L.out.2.2.1 L.out.2.2.2).mono ?_
        rintro ev w2 ⟨v1, rfl, h1, hs⟩
        have R2 := Lib.hid (R1.out.below hs)
        have S2 := Lib.hid (S1.out.step hs)
        have B2 := Lib.hid (B1.out.trans (hs.mono B1.out.size))
        clear R1 S1 B1
        have X0 := Lib.hid (h1)
        clear hs h1
        clear c0 c1 c2
        have c0 := S2.out.c0
        have c1 := S2.out.c1
        have c2 := S2.out.c2
        go_wp2_with fail
        refine (refTake_any v rs low high unb rev limit _ R2.out L.out.2.1 L.out.2.2.1 K.out L.out.2.2.2).mono ?_
        rintro ev w3 ⟨v2, rfl, h2, hs⟩
        have R3 := Lib.hid (R2.out.below hs)
        have S3 := Lib.hid (S2.out.step hs)
        have B3 := Lib.hid (B2.out.trans (hs.mono B2.out.size))
        have X1 := Lib.hid (X0.out.below hs)
        clear R2 S2 B2 X0
        have Y0 := Lib.hid (h2)
        clear hs h2
        go_wp2_with fail
        refine (refSame_any v1 v2 _ _ _ X1.out Y0.out).mono ?_
        rintro ev w4 ⟨rfl, hs⟩
        rw [sameR_self]
        have R4 := Lib.hid (R3.out.below hs)
        have S4 := Lib.hid (S3.out.step hs)
        have B4 := Lib.hid (B3.out.trans (hs.mono B3.out.size))
        have X2 := Lib.hid (X1.out.below hs)
        have Y1 := Lib.hid (Y0.out.below hs)
        clear R3 S3 B3 X1 Y0
        clear hs
        go_wp2_with fail
        refine (awakeR L.out.1 _).mono ?_
        rintro ev w5 ⟨rfl, hs⟩
        have R5 := Lib.hid (R4.out.below hs)
        have S5 := Lib.hid (S4.out.step hs)
        have B5 := Lib.hid (B4.out.trans (hs.mono B4.out.size))
        have X3 := Lib.hid (X2.out.below hs)
        have Y2 := Lib.hid (Y1.out.below hs)
        clear R4 S4 B4 X2 Y1
        clear hs
        go_wp2
        go_ret
        exact ⟨rfl, B5.out⟩
      · go_wp2_with fail
        refine (awakeR L.out.1 _).mono ?_
        rintro ev w2 ⟨rfl, hs⟩
        have R2 := Lib.hid (R1.out.below hs)
        have S2 := Lib.hid (S1.out.step hs)
        have B2 := Lib.hid (B1.out.trans (hs.mono B1.out.size))
        clear R1 S1 B1
        clear hs
        go_wp2
        go_ret
        exact ⟨rfl, B2.out⟩
    · go_wp2_with fail
      refine (awakeR L.out.1 _).mono ?_
      rintro ev w2 ⟨rfl, hs⟩
      have R2 := Lib.hid (R1.out.below hs)
      have S2 := Lib.hid (S1.out.step hs)
      have B2 := Lib.hid (B1.out.trans (hs.mono B1.out.size))
      clear R1 S1 B1
      clear hs
      go_wp2
      go_ret
      exact ⟨rfl, B2.out⟩
end Go.Proofs.Ytaaikmompiejdaa
