/- The walk of the law BkeyBetween, out of bkey's contracts. -/
import Derived.Test.YtakdnhfohpmcpaaBkC
import Derived.Test.YtakdnhfohpmcpaaErrIs
namespace Go.Proofs.Ytakdnhfohpmcpaa
open Go.RowKit

set_option maxRecDepth 100000 in
set_option maxHeartbeats 4000000 in
theorem lawBetween (C : BkC) (a b : ByteArray) (w : World) (ha : a.size ≤ maxLen) (hb : b.size ≤ maxLen) :
    Calls Try.prog 5 #[.string a, .string b] w fun ev w' => ev = .returned (.bool true) ∧ Below w.heap.size w w' := by
  have hnot : ∀ (x : Bool) (w : World), (Op.unary .not (.bool x)).run Try.prog w = .ok (.bool (!x)) w := fun _ _ => rfl
  have L : Aside (BkC ∧ a.size ≤ maxLen ∧ b.size ≤ maxLen) := ⟨C, ha, hb⟩
  clear C ha hb
  have hb0 : Aside (Below w.heap.size w (w.alloc (.cells #[.string a, .string b] 9))) := (Below.refl _ _).alloc (Nat.le_refl _) _
  go_enter Try.func5, Try.ntmps5
  go_wp2_with fail
  refine (few_of _ [a, b] _ (strsV_new w [a, b] 9 (by simp [maxLen]))).mono ?_
  rintro ev w1 ⟨rfl, rfl⟩
  cases hf : fewB [a, b] with
  | false =>
    clear hf
    go_wp2_with fail
    refine (awake_of L.out.1 _).mono ?_
    rintro ev w1 ⟨rfl, hs⟩
    have B : Aside (Below w.heap.size w w1) := hb0.out.trans (hs.mono hb0.out.size)
    clear hs
    go_wp2
    go_ret
    exact ⟨rfl, B.out⟩
  | true =>
    clear hf
    cases hbe : bef a.data.toList b.data.toList with
    | false =>
      have H := Lib.hid hbe
      clear hbe
      go_wp2_with fail
      refine (L.out.1.betweenNo a b _ L.out.2.1 L.out.2.2 H.out).mono ?_
      rintro ev w1 ⟨rfl, hs⟩
      have B1 : Aside (Below w.heap.size w w1) := hb0.out.trans (hs.mono hb0.out.size)
      clear hs
      go_wp2_with fail
      refine (refBetween_no a b _ L.out.2.1 L.out.2.2 H.out).mono ?_
      rintro ev w2 ⟨rfl, hs⟩
      have B2 : Aside (Below w.heap.size w w2) := B1.out.trans (hs.mono B1.out.size)
      clear hs
      go_wp2_with fail
      refine (Is_code 1 1 _).mono ?_
      rintro ev w3 ⟨rfl, rfl⟩
      have e1 : ((1 : Int) == 1) = true := rfl
      rw [e1]
      clear e1
      go_wp2_with fail
      refine (awake_of L.out.1 _).mono ?_
      rintro ev w3 ⟨rfl, hs⟩
      have B3 : Aside (Below w.heap.size w w3) := B2.out.trans (hs.mono B2.out.size)
      clear hs
      go_wp2
      go_ret
      exact ⟨rfl, B3.out⟩
    | true =>
      have H := Lib.hid hbe
      clear hbe
      go_wp2_with fail
      refine (L.out.1.betweenYes a b _ L.out.2.1 L.out.2.2 H.out).mono ?_
      rintro ev w1 ⟨rfl, hs⟩
      have B1 : Aside (Below w.heap.size w w1) := hb0.out.trans (hs.mono hb0.out.size)
      clear hs
      go_wp2_with fail
      refine (refBetween_yes a b _ L.out.2.1 L.out.2.2 H.out).mono ?_
      rintro ev w2 ⟨rfl, hs⟩
      have B2 : Aside (Below w.heap.size w w2) := B1.out.trans (hs.mono B1.out.size)
      clear hs
      generalize btw a b = s at *
      go_wp2_with fail
      refine (awake_of L.out.1 _).mono ?_
      rintro ev w3 ⟨rfl, hs⟩
      have B3 : Aside (Below w.heap.size w w3) := B2.out.trans (hs.mono B2.out.size)
      clear hs
      go_wp2
      go_ret
      exact ⟨rfl, B3.out⟩
end Go.Proofs.Ytakdnhfohpmcpaa
