/- The walk of the law BkeyAfter, out of bkey's contracts. -/
import Derived.Test.YtakdnhfohpmcpaaBkNext
namespace Go.Proofs.Ytakdnhfohpmcpaa
open Go.RowKit

/-- What Next owes at a key: the key next to it, or that there is none. -/
theorem next_key (C : BkC) (a : ByteArray) (hr : rgt a.size = true) :
    (∃ s : ByteArray, (∀ w, Calls Try.prog 22 #[.string a] w fun ev w' => ev = .returned (.tuple #[.string s, .nilIface]) ∧ Below w.heap.size w w') ∧ s.size ≤ maxLen ∧ rgt s.size = true ∧ cmp a.data.toList s.data.toList = -1 ∧
      ∀ o : ByteArray, rgt o.size = true → bef a.data.toList o.data.toList = true → bef o.data.toList s.data.toList = false) ∨
    ((∀ w, Calls Try.prog 22 #[.string a] w fun ev w' => ev = .returned (.tuple #[.string ⟨#[]⟩, .iface 35 (.int .i64 6)]) ∧ Below w.heap.size w w') ∧
      ∀ o : ByteArray, rgt o.size = true → bef a.data.toList o.data.toList = false) := by
  have hsz : 0 < a.size ∧ a.size < 17 := by simpa [rgt] using hr
  by_cases h16 : a.size < 16
  · have hd : (a ++ ⟨#[0]⟩).data.toList = a.data.toList ++ [0] := by simp
    have hs : (a ++ ⟨#[0]⟩ : ByteArray).size = a.size + 1 := by simp [ByteArray.size_append]; rfl
    have hb : bef a.data.toList (a ++ ⟨#[0]⟩ : ByteArray).data.toList = true := by rw [hd]; exact bef_append _ _ _
    exact .inl ⟨a ++ ⟨#[0]⟩, fun w => C.nextShort a w hsz.1 h16, by rw [hs]; simp [maxLen]; omega, by rw [hs]; simp [rgt]; omega, by unfold cmp; rw [if_pos hb], fun o _ h => by rw [hd]; exact bef_snoc0 _ _ h⟩
  · have hsz16 : a.size = 16 := by omega
    have htk : a.data.toList.take 16 = a.data.toList := List.take_of_length_le (by simp; omega)
    cases hn : nxtAt a 16 with
    | some s =>
      have h1 := nxtAt_some a 16 s (by omega) hn
      rw [htk] at h1
      have h2 := nxtL_ahead _ _ h1
      have hsl : 0 < s.size ∧ s.size ≤ 16 := by
        have h3 := h2.2
        simp at h3
        exact ⟨h3.1, by have h4 := h3.2; rw [hsz16] at h4; exact h4⟩
      refine .inl ⟨s, fun w => C.nextLong a s w hsz16 hn, by simp [maxLen]; omega, by simp [rgt]; omega, by unfold cmp; rw [if_pos h2.1], fun o ho h => ?_⟩
      have hro' : 0 < o.size ∧ o.size < 17 := by simpa [rgt] using ho
      obtain ⟨s', e', hb⟩ := nxtL_between a.data.toList o.data.toList (by simp; omega) h
      rw [h1] at e'
      obtain rfl := Option.some.inj e'
      exact hb
    | none =>
      have h1 := nxtAt_none a 16 (by omega) hn
      rw [htk] at h1
      refine .inr ⟨fun w => C.nextNone a w hsz16 hn, fun o ho => ?_⟩
      have hro' : 0 < o.size ∧ o.size < 17 := by simpa [rgt] using ho
      cases h3 : bef a.data.toList o.data.toList with
      | false => rfl
      | true =>
        obtain ⟨s', e', -⟩ := nxtL_between a.data.toList o.data.toList (by simp; omega) h3
        rw [h1] at e'; cases e'
theorem cmp_of_not_bef {a b : List UInt8} (h : bef a b = false) : cmp b a = -1 ∨ cmp b a = 0 := by
  rcases cmp_three b a with k | k | k
  · exact .inl k
  · exact .inr k
  · have := (cmp_neg_iff a b).1 (by rw [cmp_swap, k]; decide)
    rw [this] at h; cases h

set_option maxHeartbeats 4000000 in
theorem after_no (C : BkC) (a b : ByteArray) (w : World) (ha : a.size ≤ maxLen) (hb : b.size ≤ maxLen) (h : rgt a.size = false ∨ rgt a.size = true ∧ rgt b.size = false) :
    Calls Try.prog 11 #[.string a, .string b] w fun ev w' => ev = .returned (.bool true) ∧ Below w.heap.size w w' := by
  have hnot : ∀ (x : Bool) (w : World), (Op.unary .not (.bool x)).run Try.prog w = .ok (.bool (!x)) w := fun _ _ => rfl
  have L : Aside (BkC ∧ a.size ≤ maxLen ∧ b.size ≤ maxLen) := ⟨C, ha, hb⟩
  have H := Lib.hid h
  clear C ha hb h
  go_enter Try.func11, Try.ntmps11
  go_wp2_with fail
  refine (refRight_any a _ L.out.2.1).mono ?_
  rintro ev w1 ⟨rfl, rfl⟩
  rcases H.out with h | ⟨h, h2⟩
  · rw [h]
    clear h
    go_wp2_with fail
    refine (awake_of L.out.1 _).mono ?_
    rintro ev w9 ⟨rfl, hs⟩
    have B9 : Aside (Below w.heap.size w w9) := hs
    clear hs
    go_wp2
    go_ret
    exact ⟨rfl, B9.out⟩
  · rw [h]
    clear h
    go_wp2_with fail
    refine (refRight_any b _ L.out.2.2).mono ?_
    rintro ev w2 ⟨rfl, rfl⟩
    rw [h2]
    clear h2
    go_wp2_with fail
    refine (awake_of L.out.1 _).mono ?_
    rintro ev w9 ⟨rfl, hs⟩
    have B9 : Aside (Below w.heap.size w w9) := hs
    clear hs
    go_wp2
    go_ret
    exact ⟨rfl, B9.out⟩

set_option maxHeartbeats 4000000 in
theorem after_none (C : BkC) (a b : ByteArray) (x : Int) (w : World) (ha : a.size ≤ maxLen) (hb : b.size ≤ maxLen) (hra : rgt a.size = true) (hrb : rgt b.size = true)
    (hN : ∀ w, Calls Try.prog 22 #[.string a] w fun ev w' => ev = .returned (.tuple #[.string ⟨#[]⟩, .iface 35 (.int .i64 6)]) ∧ Below w.heap.size w w')
    (ex : cmp b.data.toList a.data.toList = x) (hx : x = -1 ∨ x = 0) :
    Calls Try.prog 11 #[.string a, .string b] w fun ev w' => ev = .returned (.bool true) ∧ Below w.heap.size w w' := by
  have hnot : ∀ (x : Bool) (w : World), (Op.unary .not (.bool x)).run Try.prog w = .ok (.bool (!x)) w := fun _ _ => rfl
  have L : Aside (BkC ∧ a.size ≤ maxLen ∧ b.size ≤ maxLen ∧ rgt a.size = true ∧ rgt b.size = true) := ⟨C, ha, hb, hra, hrb⟩
  have N : Aside (∀ w, Calls Try.prog 22 #[.string a] w fun ev w' => ev = .returned (.tuple #[.string ⟨#[]⟩, .iface 35 (.int .i64 6)]) ∧ Below w.heap.size w w') := hN
  have X := Lib.hid ex
  clear C ha hb hra hrb hN ex
  go_enter Try.func11, Try.ntmps11
  go_wp2_with fail
  refine (refRight_any a _ L.out.2.1).mono ?_
  rintro ev w1 ⟨rfl, rfl⟩
  rw [L.out.2.2.2.1]
  go_wp2_with fail
  refine (refRight_any b _ L.out.2.2.1).mono ?_
  rintro ev w2 ⟨rfl, rfl⟩
  rw [L.out.2.2.2.2]
  go_wp2_with fail
  refine (N.out _).mono ?_
  rintro ev w3 ⟨rfl, hs⟩
  have B3 : Aside (Below w.heap.size w w3) := hs
  clear hs
  go_wp2_with fail
  refine (L.out.1.compare b a _ L.out.2.2.1 L.out.2.1).mono ?_
  rintro ev w4 ⟨rfl, hs⟩
  rw [X.out]
  have B4 : Aside (Below w.heap.size w w4) := B3.out.trans (hs.mono B3.out.size)
  clear hs X
  rcases hx with rfl | rfl
  all_goals
    go_wp2_with fail
    refine (awake_of L.out.1 _).mono ?_
    rintro ev w9 ⟨rfl, hs⟩
    have B9 : Aside (Below w.heap.size w w9) := B4.out.trans (hs.mono B4.out.size)
    clear hs
    go_wp2
    go_ret
    exact ⟨rfl, B9.out⟩

set_option maxHeartbeats 8000000 in
theorem after_last (C : BkC) (a b n : ByteArray) (x z : Int) (w : World) (ha : a.size ≤ maxLen) (hb : b.size ≤ maxLen) (hn : n.size ≤ maxLen) (hra : rgt a.size = true) (hrb : rgt b.size = true)
    (hN : ∀ w, Calls Try.prog 22 #[.string a] w fun ev w' => ev = .returned (.tuple #[.string n, .nilIface]) ∧ Below w.heap.size w w')
    (hM : ∀ w, Calls Try.prog 22 #[.string n] w fun ev w' => ev = .returned (.tuple #[.string ⟨#[]⟩, .iface 35 (.int .i64 6)]) ∧ Below w.heap.size w w')
    (ex : cmp a.data.toList b.data.toList = x) (ez : cmp n.data.toList b.data.toList = z) (hx : (x = 0 ∨ x = 1) ∨ x = -1 ∧ (z = -1 ∨ z = 0)) :
    Calls Try.prog 11 #[.string a, .string b] w fun ev w' => ev = .returned (.bool true) ∧ Below w.heap.size w w' := by
  have hnot : ∀ (x : Bool) (w : World), (Op.unary .not (.bool x)).run Try.prog w = .ok (.bool (!x)) w := fun _ _ => rfl
  have L : Aside (BkC ∧ a.size ≤ maxLen ∧ b.size ≤ maxLen ∧ rgt a.size = true ∧ rgt b.size = true) := ⟨C, ha, hb, hra, hrb⟩
  have N : Aside (n.size ≤ maxLen ∧ (∀ w, Calls Try.prog 22 #[.string a] w fun ev w' => ev = .returned (.tuple #[.string n, .nilIface]) ∧ Below w.heap.size w w') ∧
    (∀ w, Calls Try.prog 22 #[.string n] w fun ev w' => ev = .returned (.tuple #[.string ⟨#[]⟩, .iface 35 (.int .i64 6)]) ∧ Below w.heap.size w w')) := ⟨hn, hN, hM⟩
  have X := Lib.hid ex
  have Z := Lib.hid ez
  clear C ha hb hn hra hrb hN hM ex ez
  go_enter Try.func11, Try.ntmps11
  go_wp2_with fail
  refine (refRight_any a _ L.out.2.1).mono ?_
  rintro ev w1 ⟨rfl, rfl⟩
  rw [L.out.2.2.2.1]
  go_wp2_with fail
  refine (refRight_any b _ L.out.2.2.1).mono ?_
  rintro ev w2 ⟨rfl, rfl⟩
  rw [L.out.2.2.2.2]
  go_wp2_with fail
  refine (N.out.2.1 _).mono ?_
  rintro ev w3 ⟨rfl, hs⟩
  have B3 : Aside (Below w.heap.size w w3) := hs
  clear hs
  go_wp2_with fail
  refine (N.out.2.2 _).mono ?_
  rintro ev w4 ⟨rfl, hs⟩
  have B4 : Aside (Below w.heap.size w w4) := B3.out.trans (hs.mono B3.out.size)
  clear hs
  have B5 : Aside (Below w.heap.size w w4) := B4.out
  go_wp2_with fail
  refine (L.out.1.compare a b _ L.out.2.1 L.out.2.2.1).mono ?_
  rintro ev w6 ⟨rfl, hs⟩
  rw [X.out]
  have B6 : Aside (Below w.heap.size w w6) := B5.out.trans (hs.mono B5.out.size)
  clear hs X
  rcases hx with (rfl | rfl) | ⟨rfl, hz⟩
  · go_wp2_with fail
    refine (awake_of L.out.1 _).mono ?_
    rintro ev w9 ⟨rfl, hs⟩
    have B9 : Aside (Below w.heap.size w w9) := B6.out.trans (hs.mono B6.out.size)
    clear hs
    go_wp2
    go_ret
    exact ⟨rfl, B9.out⟩
  · go_wp2_with fail
    refine (awake_of L.out.1 _).mono ?_
    rintro ev w9 ⟨rfl, hs⟩
    have B9 : Aside (Below w.heap.size w w9) := B6.out.trans (hs.mono B6.out.size)
    clear hs
    go_wp2
    go_ret
    exact ⟨rfl, B9.out⟩
  · go_wp2_with fail
    refine (L.out.1.compare n b _ N.out.1 L.out.2.2.1).mono ?_
    rintro ev w7 ⟨rfl, hs⟩
    rw [Z.out]
    have B7 : Aside (Below w.heap.size w w7) := B6.out.trans (hs.mono B6.out.size)
    clear hs Z
    rcases hz with rfl | rfl
    all_goals
      go_wp2_with fail
      refine (awake_of L.out.1 _).mono ?_
      rintro ev w9 ⟨rfl, hs⟩
      have B9 : Aside (Below w.heap.size w w9) := B7.out.trans (hs.mono B7.out.size)
      clear hs
      go_wp2
      go_ret
      exact ⟨rfl, B9.out⟩

set_option maxHeartbeats 8000000 in
theorem after_two (C : BkC) (a b n : ByteArray) (m : ByteArray) (x z : Int) (w : World) (ha : a.size ≤ maxLen) (hb : b.size ≤ maxLen) (hn : n.size ≤ maxLen) (hra : rgt a.size = true) (hrb : rgt b.size = true)
    (hN : ∀ w, Calls Try.prog 22 #[.string a] w fun ev w' => ev = .returned (.tuple #[.string n, .nilIface]) ∧ Below w.heap.size w w')
    (hM : ∀ w, Calls Try.prog 22 #[.string n] w fun ev w' => ev = .returned (.tuple #[.string m, .nilIface]) ∧ Below w.heap.size w w')
    (hm : m.size ≤ maxLen ∧ cmp n.data.toList m.data.toList = -1 ∧ cmp a.data.toList m.data.toList = -1)
    (ex : cmp a.data.toList b.data.toList = x) (ez : cmp n.data.toList b.data.toList = z) (hx : (x = 0 ∨ x = 1) ∨ x = -1 ∧ (z = -1 ∨ z = 0)) :
    Calls Try.prog 11 #[.string a, .string b] w fun ev w' => ev = .returned (.bool true) ∧ Below w.heap.size w w' := by
  have hnot : ∀ (x : Bool) (w : World), (Op.unary .not (.bool x)).run Try.prog w = .ok (.bool (!x)) w := fun _ _ => rfl
  have L : Aside (BkC ∧ a.size ≤ maxLen ∧ b.size ≤ maxLen ∧ rgt a.size = true ∧ rgt b.size = true) := ⟨C, ha, hb, hra, hrb⟩
  have N : Aside (n.size ≤ maxLen ∧ (∀ w, Calls Try.prog 22 #[.string a] w fun ev w' => ev = .returned (.tuple #[.string n, .nilIface]) ∧ Below w.heap.size w w') ∧
    (∀ w, Calls Try.prog 22 #[.string n] w fun ev w' => ev = .returned (.tuple #[.string m, .nilIface]) ∧ Below w.heap.size w w')) := ⟨hn, hN, hM⟩
  have M : Aside (m.size ≤ maxLen ∧ cmp n.data.toList m.data.toList = -1 ∧ cmp a.data.toList m.data.toList = -1) := hm
  clear hm
  have X := Lib.hid ex
  have Z := Lib.hid ez
  clear C ha hb hn hra hrb hN hM ex ez
  go_enter Try.func11, Try.ntmps11
  go_wp2_with fail
  refine (refRight_any a _ L.out.2.1).mono ?_
  rintro ev w1 ⟨rfl, rfl⟩
  rw [L.out.2.2.2.1]
  go_wp2_with fail
  refine (refRight_any b _ L.out.2.2.1).mono ?_
  rintro ev w2 ⟨rfl, rfl⟩
  rw [L.out.2.2.2.2]
  go_wp2_with fail
  refine (N.out.2.1 _).mono ?_
  rintro ev w3 ⟨rfl, hs⟩
  have B3 : Aside (Below w.heap.size w w3) := hs
  clear hs
  go_wp2_with fail
  refine (N.out.2.2 _).mono ?_
  rintro ev w4 ⟨rfl, hs⟩
  have B4 : Aside (Below w.heap.size w w4) := B3.out.trans (hs.mono B3.out.size)
  clear hs
  go_wp2_with fail
  refine (L.out.1.compare n m _ N.out.1 M.out.1).mono ?_
  rintro ev w5 ⟨rfl, hs⟩
  rw [M.out.2.1]
  have B4' : Aside (Below w.heap.size w w5) := B4.out.trans (hs.mono B4.out.size)
  clear hs
  go_wp2_with fail
  refine (L.out.1.compare a m _ L.out.2.1 M.out.1).mono ?_
  rintro ev w5' ⟨rfl, hs⟩
  rw [M.out.2.2]
  have B5 : Aside (Below w.heap.size w w5') := B4'.out.trans (hs.mono B4'.out.size)
  clear hs
  go_wp2_with fail
  refine (L.out.1.compare a b _ L.out.2.1 L.out.2.2.1).mono ?_
  rintro ev w6 ⟨rfl, hs⟩
  rw [X.out]
  have B6 : Aside (Below w.heap.size w w6) := B5.out.trans (hs.mono B5.out.size)
  clear hs X
  rcases hx with (rfl | rfl) | ⟨rfl, hz⟩
  · go_wp2_with fail
    refine (awake_of L.out.1 _).mono ?_
    rintro ev w9 ⟨rfl, hs⟩
    have B9 : Aside (Below w.heap.size w w9) := B6.out.trans (hs.mono B6.out.size)
    clear hs
    go_wp2
    go_ret
    exact ⟨rfl, B9.out⟩
  · go_wp2_with fail
    refine (awake_of L.out.1 _).mono ?_
    rintro ev w9 ⟨rfl, hs⟩
    have B9 : Aside (Below w.heap.size w w9) := B6.out.trans (hs.mono B6.out.size)
    clear hs
    go_wp2
    go_ret
    exact ⟨rfl, B9.out⟩
  · go_wp2_with fail
    refine (L.out.1.compare n b _ N.out.1 L.out.2.2.1).mono ?_
    rintro ev w7 ⟨rfl, hs⟩
    rw [Z.out]
    have B7 : Aside (Below w.heap.size w w7) := B6.out.trans (hs.mono B6.out.size)
    clear hs Z
    rcases hz with rfl | rfl
    all_goals
      go_wp2_with fail
      refine (awake_of L.out.1 _).mono ?_
      rintro ev w9 ⟨rfl, hs⟩
      have B9 : Aside (Below w.heap.size w w9) := B7.out.trans (hs.mono B7.out.size)
      clear hs
      go_wp2
      go_ret
      exact ⟨rfl, B9.out⟩

theorem lawAfter (C : BkC) (a b : ByteArray) (w : World) (ha : a.size ≤ maxLen) (hb : b.size ≤ maxLen) :
    Calls Try.prog 11 #[.string a, .string b] w fun ev w' => ev = .returned (.bool true) ∧ Below w.heap.size w w' := by
  cases hra : rgt a.size with
  | false => exact after_no C a b w ha hb (.inl hra)
  | true =>
    cases hrb : rgt b.size with
    | false => exact after_no C a b w ha hb (.inr ⟨hra, hrb⟩)
    | true =>
      rcases next_key C a hra with ⟨n, hN, hn, hrn, hc, hbt⟩ | ⟨hN, hbt⟩
      · have hx : (cmp a.data.toList b.data.toList = 0 ∨ cmp a.data.toList b.data.toList = 1) ∨ cmp a.data.toList b.data.toList = -1 ∧ (cmp n.data.toList b.data.toList = -1 ∨ cmp n.data.toList b.data.toList = 0) := by
          rcases cmp_three a.data.toList b.data.toList with k | k | k
          · exact .inr ⟨k, cmp_of_not_bef (hbt b hrb ((cmp_neg_iff _ _).1 (by rw [k]; decide)))⟩
          · exact .inl (.inl k)
          · exact .inl (.inr k)
        rcases next_key C n hrn with ⟨m, hM, hm, -, hc2, -⟩ | ⟨hM, -⟩
        · have h1 := (cmp_neg_iff a.data.toList n.data.toList).1 (by rw [hc]; decide)
          have h2 := (cmp_neg_iff n.data.toList m.data.toList).1 (by rw [hc2]; decide)
          exact after_two C a b n m _ _ w ha hb hn hra hrb hN hM ⟨hm, hc2, by unfold cmp; rw [if_pos (bef_trans _ _ _ h1 h2)]⟩ rfl rfl hx
        · exact after_last C a b n _ _ w ha hb hn hra hrb hN hM rfl rfl hx
      · exact after_none C a b _ w ha hb hra hrb hN rfl (cmp_of_not_bef (hbt b hrb))
end Go.Proofs.Ytakdnhfohpmcpaa
