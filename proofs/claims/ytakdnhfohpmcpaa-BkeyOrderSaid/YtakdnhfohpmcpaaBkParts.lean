/- The walk of the law BkeyParts, out of bkey's contracts. -/
import Derived.Test.YtakdnhfohpmcpaaBkAfter
namespace Go.Proofs.Ytakdnhfohpmcpaa
open Go.RowKit

set_option maxRecDepth 100000 in
set_option maxHeartbeats 8000000 in
theorem parts_yes (C : BkC) (a b s : ByteArray) (c : Nat) (x z : Int) (w : World) (ha : a.size ≤ maxLen) (hb : b.size ≤ maxLen)
    (hB : ∀ w, Calls Try.prog 19 #[.string a, .string b] w fun ev w' => ev = .returned (.tuple #[.string s, .nilIface]) ∧ Below w.heap.size w w')
    (hsz : s.size = c + 1) (hxs : b.extract 0 (c + 1) = s) (hcb : c < b.size) (has : cmp a.data.toList s.data.toList = -1) (hsb : cmp s.data.toList b.data.toList = x) (hx : x = -1 ∨ x = 0)
    (hrs : rgt b.size = true → rgt s.size = true) (hz : cmp a.data.toList (b.extract 0 c).data.toList = z) (hz' : z = 0 ∨ z = 1) :
    Calls Try.prog 6 #[.string a, .string b] w fun ev w' => ev = .returned (.bool true) ∧ Below w.heap.size w w' := by
  have hnot : ∀ (x : Bool) (w : World), (Op.unary .not (.bool x)).run Try.prog w = .ok (.bool (!x)) w := fun _ _ => rfl
  have hs' : s.size ≤ maxLen := by omega
  have he' : (b.extract 0 c).size ≤ maxLen := by rw [ext_size b c (by omega)]; omega
  have L : Aside (BkC ∧ a.size ≤ maxLen ∧ b.size ≤ maxLen ∧ s.size ≤ maxLen ∧ (b.extract 0 c).size ≤ maxLen) := ⟨C, ha, hb, hs', he'⟩
  have N : Aside (∀ w, Calls Try.prog 19 #[.string a, .string b] w fun ev w' => ev = .returned (.tuple #[.string s, .nilIface]) ∧ Below w.heap.size w w') := hB
  have A := Lib.hid has
  have X := Lib.hid hsb
  have Z := Lib.hid hz
  have R := Lib.hid hrs
  have Hx := Lib.hid hx
  have Hz := Lib.hid hz'
  unfold maxLen at hb
  clear C ha hs' he' hB has hsb hz hrs hx hz'
  have hb0 : Aside (Below w.heap.size w (w.alloc (.cells #[.string a, .string b] 9))) := (Below.refl _ _).alloc (Nat.le_refl _) _
  go_enter Try.func6, Try.ntmps6
  go_wp2_with fail
  refine (few_of _ [a, b] _ (strsV_new w [a, b] 9 (by simp [maxLen]))).mono ?_
  rintro ev w1 ⟨rfl, rfl⟩
  cases hf : fewB [a, b] with
  | false =>
    clear hf
    go_wp2_with fail
    refine (awake_of L.out.1 _).mono ?_
    rintro ev w1 ⟨rfl, hs⟩
    have B : Aside (Below w.heap.size w w1) := hb0.out.trans (hs.mono hb0.out.size)
    clear hs
    go_wp2
    go_ret
    exact ⟨rfl, B.out⟩
  | true =>
    clear hf
    go_wp2_with fail
    refine (N.out _).mono ?_
    rintro ev w1 ⟨rfl, hs⟩
    have B1 : Aside (Below w.heap.size w w1) := hb0.out.trans (hs.mono hb0.out.size)
    clear hs
    go_wp2_with fail
    refine (L.out.1.compare a s _ L.out.2.1 L.out.2.2.2.1).mono ?_
    rintro ev w2 ⟨rfl, hs⟩
    rw [A.out]
    have B2 : Aside (Below w.heap.size w w2) := B1.out.trans (hs.mono B1.out.size)
    clear hs
    go_wp2_with fail
    refine (L.out.1.compare s b _ L.out.2.2.2.1 L.out.2.2.1).mono ?_
    rintro ev w3 ⟨rfl, hs⟩
    rw [X.out]
    have B3 : Aside (Below w.heap.size w w3) := B2.out.trans (hs.mono B2.out.size)
    clear hs
    rcases Hx.out with rfl | rfl
    all_goals
      clear Hx
      go_wp2_with fail
      refine (L.out.1.right b _ L.out.2.2.1).mono ?_
      rintro ev w4 ⟨rfl, hs⟩
      have B4 : Aside (Below w.heap.size w w4) := B3.out.trans (hs.mono B3.out.size)
      clear hs
      cases hrb : rgt b.size with
      | false =>
        clear hrb
        go_wp2_with fail
        refine (L.out.1.compare a _ _ L.out.2.1 L.out.2.2.2.2).mono ?_
        rintro ev w5 ⟨rfl, hs⟩
        rw [Z.out]
        have B5 : Aside (Below w.heap.size w w5) := B4.out.trans (hs.mono B4.out.size)
        clear hs
        rcases Hz.out with rfl | rfl
        all_goals
          clear Hz
          go_wp2_with fail
          refine (awake_of L.out.1 _).mono ?_
          rintro ev w9 ⟨rfl, hs⟩
          have B9 : Aside (Below w.heap.size w w9) := B5.out.trans (hs.mono B5.out.size)
          clear hs
          go_wp2
          go_ret
          exact ⟨rfl, B9.out⟩
      | true =>
        have hrs := Lib.hid (R.out hrb)
        clear hrb
        go_wp2_with fail
        refine (L.out.1.right s _ L.out.2.2.2.1).mono ?_
        rintro ev w4' ⟨rfl, hs⟩
        rw [hrs.out]
        have B4' : Aside (Below w.heap.size w w4') := B4.out.trans (hs.mono B4.out.size)
        clear hs
        go_wp2_with fail
        refine (L.out.1.compare a _ _ L.out.2.1 L.out.2.2.2.2).mono ?_
        rintro ev w5 ⟨rfl, hs⟩
        rw [Z.out]
        have B5 : Aside (Below w.heap.size w w5) := B4'.out.trans (hs.mono B4'.out.size)
        clear hs
        rcases Hz.out with rfl | rfl
        all_goals
          clear Hz
          go_wp2_with fail
          refine (awake_of L.out.1 _).mono ?_
          rintro ev w9 ⟨rfl, hs⟩
          have B9 : Aside (Below w.heap.size w w9) := B5.out.trans (hs.mono B5.out.size)
          clear hs
          go_wp2
          go_ret
          exact ⟨rfl, B9.out⟩

set_option maxHeartbeats 4000000 in
theorem parts_no (C : BkC) (a b : ByteArray) (x : Int) (w : World) (ha : a.size ≤ maxLen) (hb : b.size ≤ maxLen) (h : bef a.data.toList b.data.toList = false) (ex : cmp a.data.toList b.data.toList = x) (hx : x = 0 ∨ x = 1) :
    Calls Try.prog 6 #[.string a, .string b] w fun ev w' => ev = .returned (.bool true) ∧ Below w.heap.size w w' := by
  have hnot : ∀ (x : Bool) (w : World), (Op.unary .not (.bool x)).run Try.prog w = .ok (.bool (!x)) w := fun _ _ => rfl
  have L : Aside (BkC ∧ a.size ≤ maxLen ∧ b.size ≤ maxLen ∧ bef a.data.toList b.data.toList = false) := ⟨C, ha, hb, h⟩
  have X := Lib.hid ex
  have Hx := Lib.hid hx
  clear C ha hb h ex hx
  have hb0 : Aside (Below w.heap.size w (w.alloc (.cells #[.string a, .string b] 9))) := (Below.refl _ _).alloc (Nat.le_refl _) _
  go_enter Try.func6, Try.ntmps6
  go_wp2_with fail
  refine (few_of _ [a, b] _ (strsV_new w [a, b] 9 (by simp [maxLen]))).mono ?_
  rintro ev w1 ⟨rfl, rfl⟩
  cases hf : fewB [a, b] with
  | false =>
    clear hf
    go_wp2_with fail
    refine (awake_of L.out.1 _).mono ?_
    rintro ev w1 ⟨rfl, hs⟩
    have B : Aside (Below w.heap.size w w1) := hb0.out.trans (hs.mono hb0.out.size)
    clear hs
    go_wp2
    go_ret
    exact ⟨rfl, B.out⟩
  | true =>
    clear hf
    go_wp2_with fail
    refine (L.out.1.betweenNo a b _ L.out.2.1 L.out.2.2.1 L.out.2.2.2).mono ?_
    rintro ev w1 ⟨rfl, hs⟩
    have B1 : Aside (Below w.heap.size w w1) := hb0.out.trans (hs.mono hb0.out.size)
    clear hs
    go_wp2_with fail
    refine (L.out.1.compare a b _ L.out.2.1 L.out.2.2.1).mono ?_
    rintro ev w2 ⟨rfl, hs⟩
    rw [X.out]
    have B2 : Aside (Below w.heap.size w w2) := B1.out.trans (hs.mono B1.out.size)
    clear hs X
    rcases Hx.out with rfl | rfl
    all_goals
      clear Hx
      go_wp2_with fail
      refine (awake_of L.out.1 _).mono ?_
      rintro ev w9 ⟨rfl, hs⟩
      have B9 : Aside (Below w.heap.size w w9) := B2.out.trans (hs.mono B2.out.size)
      clear hs
      go_wp2
      go_ret
      exact ⟨rfl, B9.out⟩

theorem cmp_ge_of {a b : List UInt8} (h : bef a b = false) : cmp a b = 0 ∨ cmp a b = 1 := by
  rcases cmp_three a b with k | k | k
  · rw [(cmp_neg_iff _ _).1 (by rw [k]; decide)] at h; cases h
  · exact .inl k
  · exact .inr k
theorem lawParts (C : BkC) (a b : ByteArray) (w : World) (ha : a.size ≤ maxLen) (hb : b.size ≤ maxLen) :
    Calls Try.prog 6 #[.string a, .string b] w fun ev w' => ev = .returned (.bool true) ∧ Below w.heap.size w w' := by
  cases h : bef a.data.toList b.data.toList with
  | false => exact parts_no C a b _ w ha hb h rfl (cmp_ge_of h)
  | true =>
    have hc := com_lt_of_bef _ _ h
    have hcb : com a.data.toList b.data.toList < b.size := by simpa using hc
    have hsz : (btw a b).size = com a.data.toList b.data.toList + 1 := ext_size b _ (by omega)
    have hd : (btw a b).data.toList = b.data.toList.take (com a.data.toList b.data.toList + 1) := ext_take _ _
    refine parts_yes C a b (btw a b) _ _ _ w ha hb (fun w => C.betweenYes a b w ha hb h) hsz rfl hcb ?_ rfl ?_ ?_ rfl ?_
    · rw [hd]; unfold cmp; rw [if_pos (btw_bef _ _ h)]
    · rw [hd]; exact cmp_of_not_bef (bef_take _ _)
    · intro hr
      have hr' : 0 < b.size ∧ b.size < 17 := by simpa [rgt] using hr
      rw [hsz]; simp [rgt]; omega
    · rw [ext_take]; exact cmp_ge_of (bef_take_small _ _ _ (Nat.le_refl _))
end Go.Proofs.Ytakdnhfohpmcpaa
