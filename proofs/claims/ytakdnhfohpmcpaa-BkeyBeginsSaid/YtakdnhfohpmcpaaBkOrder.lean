/- The walk of the law BkeyOrder, out of bkey's contracts. -/
import Derived.Test.YtakdnhfohpmcpaaBkParts
namespace Go.Proofs.Ytakdnhfohpmcpaa
open Go.RowKit

set_option maxRecDepth 100000 in
set_option maxHeartbeats 8000000 in
theorem order_core (C : BkC) (a b : ByteArray) (c : Nat) (x : Int) (w : World) (ha : a.size ≤ maxLen) (hb : b.size ≤ maxLen)
    (hc : com a.data.toList b.data.toList = c) (hx : cmp a.data.toList b.data.toList = x) (hca : c ≤ a.size) (hcb : c ≤ b.size)
    (hpre : a.extract 0 c = b.extract 0 c)
    (hst : (¬ c < a.size) ∨ (c < a.size ∧ ¬ c < b.size) ∨ (c < a.size ∧ c < b.size ∧ ∀ (h1 : c < a.size) (h2 : c < b.size), ((a[c].toNat : Int) == (b[c].toNat : Int)) = false)) :
    Calls Try.prog 3 #[.string a, .string b] w fun ev w' => ev = .returned (.bool true) ∧ Below w.heap.size w w' := by
  have hnot : ∀ (x : Bool) (w : World), (Op.unary .not (.bool x)).run Try.prog w = .ok (.bool (!x)) w := fun _ _ => rfl
  have L : Aside (BkC ∧ a.size ≤ maxLen ∧ b.size ≤ maxLen) := ⟨C, ha, hb⟩
  have X := Lib.hid hx
  have K := Lib.hid hc
  have S := Lib.hid hst
  have g4 : ((a.extract 0 c).toList == (b.extract 0 c).toList) = true := by rw [hpre]; simp
  have g1 : decide ((c : Int) < 0) = false := decide_eq_false (by omega)
  have g2 : decide (a.size < c) = false := decide_eq_false (by omega)
  have g3 : decide (b.size < c) = false := decide_eq_false (by omega)
  unfold maxLen at ha hb
  clear C hx hc hst hpre
  have hb0 : Aside (Below w.heap.size w (w.alloc (.cells #[.string a, .string b] 9))) := (Below.refl _ _).alloc (Nat.le_refl _) _
  go_enter Try.func3, Try.ntmps3
  go_wp2_with fail
  refine (few_of _ [a, b] _ (strsV_new w [a, b] 9 (by simp [maxLen]))).mono ?_
  rintro ev w1 ⟨rfl, rfl⟩
  cases hf : fewB [a, b] with
  | false =>
    clear hf
    go_wp2_with fail
    refine (awake_of L.out.1 _).mono ?_
    rintro ev w1 ⟨rfl, hs⟩
    have B : Aside (Below w.heap.size w w1) := hb0.out.trans (hs.mono hb0.out.size)
    clear hs
    go_wp2
    go_ret
    exact ⟨rfl, B.out⟩
  | true =>
    clear hf
    go_wp2_with fail
    refine (L.out.1.common a b _ L.out.2.1 L.out.2.2).mono ?_
    rintro ev w1 ⟨rfl, hs⟩
    rw [K.out]
    have B1 : Aside (Below w.heap.size w w1) := hb0.out.trans (hs.mono hb0.out.size)
    clear hs
    rcases S.out with h1 | ⟨h1, h2⟩ | ⟨h1, h2, h3⟩
    · clear S
      have g5 : decide (c < a.size) = false := decide_eq_false (by omega)
      go_wp2_with fail
      go_quiet (fail)
      have B2 : Aside (Below w.heap.size w (w1.drewN nq)) := below_drewN B1.out _
      generalize w1.drewN nq = w2 at *
      go_wp2_with fail
      refine (L.out.1.compare a b _ L.out.2.1 L.out.2.2).mono ?_
      rintro ev w3 ⟨rfl, hs⟩
      rw [X.out]
      have B3 : Aside (Below w.heap.size w w3) := B2.out.trans (hs.mono B2.out.size)
      clear hs
      go_wp2_with fail
      refine (refCompare_any a b _ L.out.2.1 L.out.2.2).mono ?_
      rintro ev w4 ⟨rfl, hs⟩
      rw [X.out]
      have B4 : Aside (Below w.heap.size w w4) := B3.out.trans (hs.mono B3.out.size)
      clear hs
      go_wp2_with fail
      refine (L.out.1.right a _ L.out.2.1).mono ?_
      rintro ev w5 ⟨rfl, hs⟩
      have B5 : Aside (Below w.heap.size w w5) := B4.out.trans (hs.mono B4.out.size)
      clear hs
      generalize hR : rgt a.size = r
      have R := Lib.hid hR
      clear hR
      go_wp2_with fail
      refine (refRight_any a _ L.out.2.1).mono ?_
      rintro ev w6 ⟨rfl, rfl⟩
      rw [R.out]
      have hrr : (r == r) = true := by simp
      go_wp2_with fail
      refine (awake_of L.out.1 _).mono ?_
      rintro ev w7 ⟨rfl, hs⟩
      have B7 : Aside (Below w.heap.size w w7) := B5.out.trans (hs.mono B5.out.size)
      clear hs
      go_wp2
      go_ret
      exact ⟨rfl, B7.out⟩
    · clear S
      have g5 : decide (c < a.size) = true := decide_eq_true (by omega)
      have g6 : decide (c < b.size) = false := decide_eq_false (by omega)
      go_wp2_with fail
      go_quiet (fail)
      have B2 : Aside (Below w.heap.size w (w1.drewN nq)) := below_drewN B1.out _
      generalize w1.drewN nq = w2 at *
      go_wp2_with fail
      refine (L.out.1.compare a b _ L.out.2.1 L.out.2.2).mono ?_
      rintro ev w3 ⟨rfl, hs⟩
      rw [X.out]
      have B3 : Aside (Below w.heap.size w w3) := B2.out.trans (hs.mono B2.out.size)
      clear hs
      go_wp2_with fail
      refine (refCompare_any a b _ L.out.2.1 L.out.2.2).mono ?_
      rintro ev w4 ⟨rfl, hs⟩
      rw [X.out]
      have B4 : Aside (Below w.heap.size w w4) := B3.out.trans (hs.mono B3.out.size)
      clear hs
      go_wp2_with fail
      refine (L.out.1.right a _ L.out.2.1).mono ?_
      rintro ev w5 ⟨rfl, hs⟩
      have B5 : Aside (Below w.heap.size w w5) := B4.out.trans (hs.mono B4.out.size)
      clear hs
      generalize hR : rgt a.size = r
      have R := Lib.hid hR
      clear hR
      go_wp2_with fail
      refine (refRight_any a _ L.out.2.1).mono ?_
      rintro ev w6 ⟨rfl, rfl⟩
      rw [R.out]
      have hrr : (r == r) = true := by simp
      go_wp2_with fail
      refine (awake_of L.out.1 _).mono ?_
      rintro ev w7 ⟨rfl, hs⟩
      have B7 : Aside (Below w.heap.size w w7) := B5.out.trans (hs.mono B5.out.size)
      clear hs
      go_wp2
      go_ret
      exact ⟨rfl, B7.out⟩
    · clear S
      have g5 : decide (c < a.size) = true := decide_eq_true (by omega)
      have g6 : decide (c < b.size) = true := decide_eq_true (by omega)
      have h4 := h3 h1 h2
      clear h3
      go_wp2_with fail
      go_quiet (fail)
      have B2 : Aside (Below w.heap.size w (w1.drewN nq)) := below_drewN B1.out _
      generalize w1.drewN nq = w2 at *
      go_wp2_with fail
      refine (L.out.1.compare a b _ L.out.2.1 L.out.2.2).mono ?_
      rintro ev w3 ⟨rfl, hs⟩
      rw [X.out]
      have B3 : Aside (Below w.heap.size w w3) := B2.out.trans (hs.mono B2.out.size)
      clear hs
      go_wp2_with fail
      refine (refCompare_any a b _ L.out.2.1 L.out.2.2).mono ?_
      rintro ev w4 ⟨rfl, hs⟩
      rw [X.out]
      have B4 : Aside (Below w.heap.size w w4) := B3.out.trans (hs.mono B3.out.size)
      clear hs
      go_wp2_with fail
      refine (L.out.1.right a _ L.out.2.1).mono ?_
      rintro ev w5 ⟨rfl, hs⟩
      have B5 : Aside (Below w.heap.size w w5) := B4.out.trans (hs.mono B4.out.size)
      clear hs
      generalize hR : rgt a.size = r
      have R := Lib.hid hR
      clear hR
      go_wp2_with fail
      refine (refRight_any a _ L.out.2.1).mono ?_
      rintro ev w6 ⟨rfl, rfl⟩
      rw [R.out]
      have hrr : (r == r) = true := by simp
      go_wp2_with fail
      refine (awake_of L.out.1 _).mono ?_
      rintro ev w7 ⟨rfl, hs⟩
      have B7 : Aside (Below w.heap.size w w7) := B5.out.trans (hs.mono B5.out.size)
      clear hs
      go_wp2
      go_ret
      exact ⟨rfl, B7.out⟩

theorem ext_com (a b : ByteArray) : a.extract 0 (com a.data.toList b.data.toList) = b.extract 0 (com a.data.toList b.data.toList) := by
  have e := com_take a.data.toList b.data.toList
  rw [← ext_take, ← ext_take] at e
  generalize a.extract 0 _ = s at *
  generalize b.extract 0 _ = t at *
  cases s; cases t
  simp at e
  rw [e]
theorem lawOrder (C : BkC) (a b : ByteArray) (w : World) (ha : a.size ≤ maxLen) (hb : b.size ≤ maxLen) :
    Calls Try.prog 3 #[.string a, .string b] w fun ev w' => ev = .returned (.bool true) ∧ Below w.heap.size w w' := by
  have h1 : com a.data.toList b.data.toList ≤ a.size := by simpa using com_le_left a.data.toList b.data.toList
  have h2 : com a.data.toList b.data.toList ≤ b.size := by simpa using com_le_right a.data.toList b.data.toList
  refine order_core C a b _ _ w ha hb rfl rfl h1 h2 ?_ ?_
  · exact ext_com a b
  · by_cases k1 : com a.data.toList b.data.toList < a.size
    · by_cases k2 : com a.data.toList b.data.toList < b.size
      · refine .inr (.inr ⟨k1, k2, fun j1 j2 => ?_⟩)
        have hne := com_stop a.data.toList b.data.toList (a[com a.data.toList b.data.toList]) (b[com a.data.toList b.data.toList])
          (List.getElem?_eq_getElem (by simpa using k1)) (List.getElem?_eq_getElem (by simpa using k2))
        have := u8_ne hne
        simp; omega
      · exact .inr (.inl ⟨k1, k2⟩)
    · exact .inl k1
end Go.Proofs.Ytakdnhfohpmcpaa
