/- The walk of the law BkeyLine, out of bkey's contracts. -/
import Derived.Test.YtakdnhfohpmcpaaBkC
namespace Go.Proofs.Ytakdnhfohpmcpaa
open Go.RowKit

theorem str_ne {a b : ByteArray} (h : cmp a.data.toList b.data.toList ≠ 0) : (¬ a.toList = b.toList) ∧ (a.toList == b.toList) = false := by
  have h1 : ¬ a.toList = b.toList := fun e => h ((cmp_zero _ _).2 (by rw [← ByteArray.toList_eq, ← ByteArray.toList_eq]; exact e))
  exact ⟨h1, by simpa using h1⟩
theorem str_eq {a b : ByteArray} (h : cmp a.data.toList b.data.toList = 0) : a = b := by
  have := (cmp_zero _ _).1 h
  cases a; cases b
  simp at this
  rw [this]

set_option maxRecDepth 100000 in
set_option maxHeartbeats 16000000 in
theorem line_ne (C : BkC) (a b c : ByteArray) (x y z : Int) (w : World) (ha : a.size ≤ maxLen) (hb : b.size ≤ maxLen) (hc : c.size ≤ maxLen)
    (ex : cmp a.data.toList b.data.toList = x) (ey : cmp b.data.toList c.data.toList = y) (ez : cmp a.data.toList c.data.toList = z)
    (hx : x = -1 ∧ y = -1 ∧ z = -1 ∨ x = -1 ∧ y = 0 ∧ z = -1 ∨ x = -1 ∧ y = 1 ∧ z = -1 ∨ x = -1 ∧ y = 1 ∧ z = 0 ∨ x = -1 ∧ y = 1 ∧ z = 1 ∨
      x = 1 ∧ y = -1 ∧ z = -1 ∨ x = 1 ∧ y = -1 ∧ z = 0 ∨ x = 1 ∧ y = -1 ∧ z = 1 ∨ x = 1 ∧ y = 0 ∧ z = 1 ∨ x = 1 ∧ y = 1 ∧ z = 1) :
    Calls Try.prog 4 #[.string a, .string b, .string c] w fun ev w' => ev = .returned (.bool true) ∧ Below w.heap.size w w' := by
  have hnot : ∀ (x : Bool) (w : World), (Op.unary .not (.bool x)).run Try.prog w = .ok (.bool (!x)) w := fun _ _ => rfl
  have hsw : cmp b.data.toList a.data.toList = -x := by rw [cmp_swap, ex]
  have hne := str_ne (a := a) (b := b) (by rw [ex]; omega)
  obtain ⟨n1, n2⟩ := hne
  rcases hx with ⟨rfl, rfl, rfl⟩ | ⟨rfl, rfl, rfl⟩ | ⟨rfl, rfl, rfl⟩ | ⟨rfl, rfl, rfl⟩ | ⟨rfl, rfl, rfl⟩ | ⟨rfl, rfl, rfl⟩ | ⟨rfl, rfl, rfl⟩ | ⟨rfl, rfl, rfl⟩ | ⟨rfl, rfl, rfl⟩ | ⟨rfl, rfl, rfl⟩
  all_goals
    have L : Aside (BkC ∧ a.size ≤ maxLen ∧ b.size ≤ maxLen ∧ c.size ≤ maxLen) := ⟨C, ha, hb, hc⟩
    have X := Lib.hid ex
    have Y := Lib.hid ey
    have Z := Lib.hid ez
    have S := Lib.hid hsw
    clear C ha hb hc ex ey ez hsw
    have hb0 : Aside (Below w.heap.size w (w.alloc (.cells #[.string a, .string b, .string c] 9))) := (Below.refl _ _).alloc (Nat.le_refl _) _
    go_enter Try.func4, Try.ntmps4
    go_wp2_with fail
    refine (few_of _ [a, b, c] _ (strsV_new w [a, b, c] 9 (by simp [maxLen]))).mono ?_
    rintro ev w1 ⟨rfl, rfl⟩
    cases hf : fewB [a, b, c] with
    | false =>
      clear hf
      go_wp2_with fail
      refine (awake_of L.out.1 _).mono ?_
      rintro ev w1 ⟨rfl, hs⟩
      have B : Aside (Below w.heap.size w w1) := hb0.out.trans (hs.mono hb0.out.size)
      clear hs
      go_wp2
      go_ret
      exact ⟨rfl, B.out⟩
    | true =>
      clear hf
      go_wp2_with fail
      refine (L.out.1.compare a b _ L.out.2.1 L.out.2.2.1).mono ?_
      rintro ev w1 ⟨rfl, hs⟩
      rw [X.out]
      have B1 : Aside (Below w.heap.size w w1) := hb0.out.trans (hs.mono hb0.out.size)
      clear hs
      go_wp2_with fail
      refine (L.out.1.compare b c _ L.out.2.2.1 L.out.2.2.2).mono ?_
      rintro ev w2 ⟨rfl, hs⟩
      rw [Y.out]
      have B2 : Aside (Below w.heap.size w w2) := B1.out.trans (hs.mono B1.out.size)
      clear hs
      go_wp2_with fail
      refine (L.out.1.compare a c _ L.out.2.1 L.out.2.2.2).mono ?_
      rintro ev w3 ⟨rfl, hs⟩
      rw [Z.out]
      have B3 : Aside (Below w.heap.size w w3) := B2.out.trans (hs.mono B2.out.size)
      clear hs
      go_wp2_with fail
      refine (L.out.1.compare b a _ L.out.2.2.1 L.out.2.1).mono ?_
      rintro ev w4 ⟨rfl, hs⟩
      rw [S.out]
      have B4 : Aside (Below w.heap.size w w4) := B3.out.trans (hs.mono B3.out.size)
      clear hs
      go_wp2_with fail
      refine (awake_of L.out.1 _).mono ?_
      rintro ev w5 ⟨rfl, hs⟩
      have B5 : Aside (Below w.heap.size w w5) := B4.out.trans (hs.mono B4.out.size)
      clear hs
      go_wp2
      go_ret
      exact ⟨rfl, B5.out⟩

set_option maxRecDepth 100000 in
set_option maxHeartbeats 16000000 in
theorem line_eq (C : BkC) (a c : ByteArray) (y : Int) (w : World) (ha : a.size ≤ maxLen) (hc : c.size ≤ maxLen)
    (ex : cmp a.data.toList a.data.toList = 0) (ey : cmp a.data.toList c.data.toList = y) (hx : y = -1 ∨ y = 0 ∨ y = 1) :
    Calls Try.prog 4 #[.string a, .string a, .string c] w fun ev w' => ev = .returned (.bool true) ∧ Below w.heap.size w w' := by
  have hnot : ∀ (x : Bool) (w : World), (Op.unary .not (.bool x)).run Try.prog w = .ok (.bool (!x)) w := fun _ _ => rfl
  rcases hx with rfl | rfl | rfl
  all_goals
    have L : Aside (BkC ∧ a.size ≤ maxLen ∧ a.size ≤ maxLen ∧ c.size ≤ maxLen) := ⟨C, ha, ha, hc⟩
    have X := Lib.hid ex
    have Y := Lib.hid ey
    clear C ha hc ex ey
    have hb0 : Aside (Below w.heap.size w (w.alloc (.cells #[.string a, .string a, .string c] 9))) := (Below.refl _ _).alloc (Nat.le_refl _) _
    go_enter Try.func4, Try.ntmps4
    go_wp2_with fail
    refine (few_of _ [a, a, c] _ (strsV_new w [a, a, c] 9 (by simp [maxLen]))).mono ?_
    rintro ev w1 ⟨rfl, rfl⟩
    cases hf : fewB [a, a, c] with
    | false =>
      clear hf
      go_wp2_with fail
      refine (awake_of L.out.1 _).mono ?_
      rintro ev w1 ⟨rfl, hs⟩
      have B : Aside (Below w.heap.size w w1) := hb0.out.trans (hs.mono hb0.out.size)
      clear hs
      go_wp2
      go_ret
      exact ⟨rfl, B.out⟩
    | true =>
      clear hf
      go_wp2_with fail
      refine (L.out.1.compare a a _ L.out.2.1 L.out.2.2.1).mono ?_
      rintro ev w1 ⟨rfl, hs⟩
      rw [X.out]
      have B1 : Aside (Below w.heap.size w w1) := hb0.out.trans (hs.mono hb0.out.size)
      clear hs
      go_wp2_with fail
      refine (L.out.1.compare a c _ L.out.2.2.1 L.out.2.2.2).mono ?_
      rintro ev w2 ⟨rfl, hs⟩
      rw [Y.out]
      have B2 : Aside (Below w.heap.size w w2) := B1.out.trans (hs.mono B1.out.size)
      clear hs
      go_wp2_with fail
      refine (L.out.1.compare a c _ L.out.2.1 L.out.2.2.2).mono ?_
      rintro ev w3 ⟨rfl, hs⟩
      rw [Y.out]
      have B3 : Aside (Below w.heap.size w w3) := B2.out.trans (hs.mono B2.out.size)
      clear hs
      go_wp2_with fail
      refine (L.out.1.compare a a _ L.out.2.2.1 L.out.2.1).mono ?_
      rintro ev w4 ⟨rfl, hs⟩
      rw [X.out]
      have B4 : Aside (Below w.heap.size w w4) := B3.out.trans (hs.mono B3.out.size)
      clear hs
      go_wp2_with fail
      refine (awake_of L.out.1 _).mono ?_
      rintro ev w5 ⟨rfl, hs⟩
      have B5 : Aside (Below w.heap.size w w5) := B4.out.trans (hs.mono B4.out.size)
      clear hs
      go_wp2
      go_ret
      exact ⟨rfl, B5.out⟩

theorem line_ints (x y z : Int) (hx : x = -1 ∨ x = 1) (hy : y = -1 ∨ y = 0 ∨ y = 1) (hz : z = -1 ∨ z = 0 ∨ z = 1) (h1 : x ≤ 0 → y ≤ 0 → z ≤ 0) (h2 : x < 0 → y ≤ 0 → z < 0) (h3 : -y ≤ 0 → -x ≤ 0 → -z ≤ 0) (h4 : -y ≤ 0 → -x < 0 → -z < 0) :
    x = -1 ∧ y = -1 ∧ z = -1 ∨ x = -1 ∧ y = 0 ∧ z = -1 ∨ x = -1 ∧ y = 1 ∧ z = -1 ∨ x = -1 ∧ y = 1 ∧ z = 0 ∨ x = -1 ∧ y = 1 ∧ z = 1 ∨
      x = 1 ∧ y = -1 ∧ z = -1 ∨ x = 1 ∧ y = -1 ∧ z = 0 ∨ x = 1 ∧ y = -1 ∧ z = 1 ∨ x = 1 ∧ y = 0 ∧ z = 1 ∨ x = 1 ∧ y = 1 ∧ z = 1 := by
  rcases hx with rfl | rfl <;> rcases hy with rfl | rfl | rfl <;> rcases hz with rfl | rfl | rfl <;> simp_all
theorem cmp_line' (a b c : List UInt8) : cmp a b ≤ 0 → cmp b c < 0 → cmp a c < 0 := by
  intro h1 h2
  by_cases e : cmp a b = 0
  · rw [cmp_zero] at e; rw [e]; exact h2
  · exact (cmp_line a b c).2 (by have := cmp_three a b; omega) (by omega)
theorem line_lists (a b c : List UInt8) (h : cmp a b = -1 ∨ cmp a b = 1) :
    cmp a b = -1 ∧ cmp b c = -1 ∧ cmp a c = -1 ∨ cmp a b = -1 ∧ cmp b c = 0 ∧ cmp a c = -1 ∨ cmp a b = -1 ∧ cmp b c = 1 ∧ cmp a c = -1 ∨ cmp a b = -1 ∧ cmp b c = 1 ∧ cmp a c = 0 ∨ cmp a b = -1 ∧ cmp b c = 1 ∧ cmp a c = 1 ∨
      cmp a b = 1 ∧ cmp b c = -1 ∧ cmp a c = -1 ∨ cmp a b = 1 ∧ cmp b c = -1 ∧ cmp a c = 0 ∨ cmp a b = 1 ∧ cmp b c = -1 ∧ cmp a c = 1 ∨ cmp a b = 1 ∧ cmp b c = 0 ∧ cmp a c = 1 ∨ cmp a b = 1 ∧ cmp b c = 1 ∧ cmp a c = 1 :=
  line_ints (cmp a b) (cmp b c) (cmp a c) h (cmp_three b c) (cmp_three a c) (cmp_line a b c).1 (cmp_line a b c).2
    (by rw [← cmp_swap, ← cmp_swap, ← cmp_swap]; exact (cmp_line c b a).1) (by rw [← cmp_swap, ← cmp_swap, ← cmp_swap]; exact cmp_line' c b a)
theorem lawLine (C : BkC) (a b c : ByteArray) (w : World) (ha : a.size ≤ maxLen) (hb : b.size ≤ maxLen) (hc : c.size ≤ maxLen) :
    Calls Try.prog 4 #[.string a, .string b, .string c] w fun ev w' => ev = .returned (.bool true) ∧ Below w.heap.size w w' := by
  by_cases h : cmp a.data.toList b.data.toList = 0
  · obtain rfl := str_eq h
    exact line_eq C a c _ w ha hc h rfl (cmp_three _ _)
  · exact line_ne C a b c _ _ _ w ha hb hc rfl rfl rfl (line_lists _ _ _ ((cmp_three _ _).elim .inl fun k => .inr (k.resolve_left h)))
end Go.Proofs.Ytakdnhfohpmcpaa
