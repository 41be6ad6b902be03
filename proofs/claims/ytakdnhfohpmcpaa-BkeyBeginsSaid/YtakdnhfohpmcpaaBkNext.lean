/- The walk of the law BkeyNext, out of bkey's contracts. -/
import Derived.Test.YtakdnhfohpmcpaaBkLine
import Derived.Test.YtakdnhfohpmcpaaErrIs
namespace Go.Proofs.Ytakdnhfohpmcpaa
open Go.RowKit

theorem nxtAt_some (a : ByteArray) : ∀ (n : Nat) (s : ByteArray), n ≤ a.size → nxtAt a n = some s → nxtL (a.data.toList.take n) = some s.data.toList
  | 0, _, _, h => by cases h
  | n + 1, s, hn, h => by
    have hlt : n < a.data.toList.length := by simpa using Nat.lt_of_succ_le hn
    rw [List.take_succ_eq_append_getElem hlt, nxtL_snoc]
    have e : a.data.toList.getD n 0 = a.data.toList[n] := by rw [List.getD, List.getElem?_eq_getElem hlt]; rfl
    unfold nxtAt at h
    rw [e] at h
    by_cases hx : a.data.toList[n].toNat < 255
    · rw [if_pos hx] at h ⊢
      obtain rfl := Option.some.inj h
      simp
    · rw [if_neg hx] at h ⊢
      exact nxtAt_some a n s (by omega) h
theorem nxtAt_none (a : ByteArray) : ∀ (n : Nat), n ≤ a.size → nxtAt a n = none → nxtL (a.data.toList.take n) = none
  | 0, _, _ => rfl
  | n + 1, hn, h => by
    have hlt : n < a.data.toList.length := by simpa using Nat.lt_of_succ_le hn
    rw [List.take_succ_eq_append_getElem hlt, nxtL_snoc]
    have e : a.data.toList.getD n 0 = a.data.toList[n] := by rw [List.getD, List.getElem?_eq_getElem hlt]; rfl
    unfold nxtAt at h
    rw [e] at h
    by_cases hx : a.data.toList[n].toNat < 255
    · rw [if_pos hx] at h; cases h
    · rw [if_neg hx] at h ⊢
      exact nxtAt_none a n (by omega) h

set_option maxRecDepth 100000 in
set_option maxHeartbeats 8000000 in
theorem next_core (C : BkC) (a o n : ByteArray) (w : World) (ha : a.size ≤ maxLen) (ho : o.size ≤ maxLen) (hn : n.size ≤ maxLen) (hra : rgt a.size = true) (hrn : rgt n.size = true)
    (hN : ∀ w, Calls Try.prog 22 #[.string a] w fun ev w' => ev = .returned (.tuple #[.string n, .nilIface]) ∧ Below w.heap.size w w')
    (hR : ∀ w, Calls Try.prog 23 #[.string a] w fun ev w' => ev = .returned (.tuple #[.string n, .bool true]) ∧ Below w.heap.size w w')
    (hcmp : cmp a.data.toList n.data.toList = -1) (x z : Int) (ex : cmp o.data.toList a.data.toList = x) (ez : cmp o.data.toList n.data.toList = z)
    (hx : rgt o.size = false ∨ rgt o.size = true ∧ (x = -1 ∨ x = 0) ∨ rgt o.size = true ∧ x = 1 ∧ (z = 0 ∨ z = 1)) :
    Calls Try.prog 7 #[.string a, .string o] w fun ev w' => ev = .returned (.bool true) ∧ Below w.heap.size w w' := by
  have hnot : ∀ (x : Bool) (w : World), (Op.unary .not (.bool x)).run Try.prog w = .ok (.bool (!x)) w := fun _ _ => rfl
  have L : Aside (BkC ∧ a.size ≤ maxLen ∧ o.size ≤ maxLen ∧ n.size ≤ maxLen) := ⟨C, ha, ho, hn⟩
  have N : Aside ((∀ w, Calls Try.prog 22 #[.string a] w fun ev w' => ev = .returned (.tuple #[.string n, .nilIface]) ∧ Below w.heap.size w w') ∧
    (∀ w, Calls Try.prog 23 #[.string a] w fun ev w' => ev = .returned (.tuple #[.string n, .bool true]) ∧ Below w.heap.size w w')) := ⟨hN, hR⟩
  have E : Aside (rgt a.size = true ∧ rgt n.size = true ∧ cmp a.data.toList n.data.toList = -1) := ⟨hra, hrn, hcmp⟩
  have X := Lib.hid ex
  have Z := Lib.hid ez
  clear C ha ho hn hN hR hra hrn hcmp ex ez
  have hb0 : Aside (Below w.heap.size w (w.alloc (.cells #[.string a, .string o] 9))) := (Below.refl _ _).alloc (Nat.le_refl _) _
  go_enter Try.func7, Try.ntmps7
  go_wp2_with fail
  refine (few_of _ [a, o] _ (strsV_new w [a, o] 9 (by simp [maxLen]))).mono ?_
  rintro ev w1 ⟨rfl, rfl⟩
  cases hf : fewB [a, o] with
  | false =>
    clear hf hx
    go_wp2_with fail
    refine (awake_of L.out.1 _).mono ?_
    rintro ev w1 ⟨rfl, hs⟩
    have B : Aside (Below w.heap.size w w1) := hb0.out.trans (hs.mono hb0.out.size)
    clear hs
    go_wp2
    go_ret
    exact ⟨rfl, B.out⟩
  | true =>
    clear hf
    have HX := Lib.hid hx
    clear hx
    go_wp2_with fail
    refine (N.out.1 _).mono ?_
    rintro ev w1 ⟨rfl, hs⟩
    have B1 : Aside (Below w.heap.size w w1) := hb0.out.trans (hs.mono hb0.out.size)
    clear hs
    go_wp2_with fail
    refine (refRight_any a _ L.out.2.1).mono ?_
    rintro ev w2 ⟨rfl, rfl⟩
    rw [E.out.1]
    go_wp2_with fail
    refine (N.out.2 _).mono ?_
    rintro ev w2 ⟨rfl, hs⟩
    have B2 : Aside (Below w.heap.size w w2) := B1.out.trans (hs.mono B1.out.size)
    clear hs
    go_wp2_with fail
    refine (L.out.1.right n _ L.out.2.2.2).mono ?_
    rintro ev w3 ⟨rfl, hs⟩
    rw [E.out.2.1]
    have B3 : Aside (Below w.heap.size w w3) := B2.out.trans (hs.mono B2.out.size)
    clear hs
    go_wp2_with fail
    refine (L.out.1.compare a n _ L.out.2.1 L.out.2.2.2).mono ?_
    rintro ev w4 ⟨rfl, hs⟩
    rw [E.out.2.2]
    have B4 : Aside (Below w.heap.size w w4) := B3.out.trans (hs.mono B3.out.size)
    clear hs
    go_wp2_with fail
    refine (refRight_any o _ L.out.2.2.1).mono ?_
    rintro ev w5 ⟨rfl, rfl⟩
    rcases HX.out with h | ⟨h, h1⟩ | ⟨h, rfl, h1⟩
    · rw [h]
      clear h
      go_wp2_with fail
      refine (awake_of L.out.1 _).mono ?_
      rintro ev w6 ⟨rfl, hs⟩
      have B6 : Aside (Below w.heap.size w w6) := B4.out.trans (hs.mono B4.out.size)
      clear hs
      go_wp2
      go_ret
      exact ⟨rfl, B6.out⟩
    · rw [h]
      clear h HX
      go_wp2_with fail
      refine (L.out.1.compare o a _ L.out.2.2.1 L.out.2.1).mono ?_
      rintro ev w6 ⟨rfl, hs⟩
      rw [X.out]
      have B6 : Aside (Below w.heap.size w w6) := B4.out.trans (hs.mono B4.out.size)
      clear hs X
      rcases h1 with rfl | rfl
      all_goals
        go_wp2_with fail
        refine (awake_of L.out.1 _).mono ?_
        rintro ev w7 ⟨rfl, hs⟩
        have B7 : Aside (Below w.heap.size w w7) := B6.out.trans (hs.mono B6.out.size)
        clear hs
        go_wp2
        go_ret
        exact ⟨rfl, B7.out⟩
    · rw [h]
      clear h HX
      go_wp2_with fail
      refine (L.out.1.compare o a _ L.out.2.2.1 L.out.2.1).mono ?_
      rintro ev w6 ⟨rfl, hs⟩
      rw [X.out]
      have B6 : Aside (Below w.heap.size w w6) := B4.out.trans (hs.mono B4.out.size)
      clear hs X
      go_wp2_with fail
      refine (L.out.1.compare o n _ L.out.2.2.1 L.out.2.2.2).mono ?_
      rintro ev w7 ⟨rfl, hs⟩
      rw [Z.out]
      have B7 : Aside (Below w.heap.size w w7) := B6.out.trans (hs.mono B6.out.size)
      clear hs Z
      rcases h1 with rfl | rfl
      all_goals
        go_wp2_with fail
        refine (awake_of L.out.1 _).mono ?_
        rintro ev w8 ⟨rfl, hs⟩
        have B8 : Aside (Below w.heap.size w w8) := B7.out.trans (hs.mono B7.out.size)
        clear hs
        go_wp2
        go_ret
        exact ⟨rfl, B8.out⟩

set_option maxRecDepth 100000 in
set_option maxHeartbeats 8000000 in
theorem next_arg (C : BkC) (a o : ByteArray) (w : World) (ha : a.size ≤ maxLen) (hra : rgt a.size = false) :
    Calls Try.prog 7 #[.string a, .string o] w fun ev w' => ev = .returned (.bool true) ∧ Below w.heap.size w w' := by
  have L : Aside (BkC ∧ a.size ≤ maxLen ∧ rgt a.size = false) := ⟨C, ha, hra⟩
  clear C ha hra
  have hnot : ∀ (x : Bool) (w : World), (Op.unary .not (.bool x)).run Try.prog w = .ok (.bool (!x)) w := fun _ _ => rfl
  have hb0 : Aside (Below w.heap.size w (w.alloc (.cells #[.string a, .string o] 9))) := (Below.refl _ _).alloc (Nat.le_refl _) _
  go_enter Try.func7, Try.ntmps7
  go_wp2_with fail
  refine (few_of _ [a, o] _ (strsV_new w [a, o] 9 (by simp [maxLen]))).mono ?_
  rintro ev w1 ⟨rfl, rfl⟩
  cases hf : fewB [a, o] with
  | false =>
    clear hf
    go_wp2_with fail
    refine (awake_of L.out.1 _).mono ?_
    rintro ev w1 ⟨rfl, hs⟩
    have B : Aside (Below w.heap.size w w1) := hb0.out.trans (hs.mono hb0.out.size)
    clear hs
    go_wp2
    go_ret
    exact ⟨rfl, B.out⟩
  | true =>
    clear hf
    go_wp2_with fail
    refine (L.out.1.nextArg a _ L.out.2.1 L.out.2.2).mono ?_
    rintro ev w1 ⟨rfl, hs⟩
    have B1 : Aside (Below w.heap.size w w1) := hb0.out.trans (hs.mono hb0.out.size)
    clear hs
    go_wp2_with fail
    refine (refRight_any a _ L.out.2.1).mono ?_
    rintro ev w2 ⟨rfl, rfl⟩
    rw [L.out.2.2]
    go_wp2_with fail
    refine (Is_code 1 1 _).mono ?_
    rintro ev w3 ⟨rfl, rfl⟩
    have e1 : ((1 : Int) == 1) = true := rfl
    rw [e1]
    clear e1
    go_wp2_with fail
    refine (awake_of L.out.1 _).mono ?_
    rintro ev w9 ⟨rfl, hs⟩
    have B9 : Aside (Below w.heap.size w w9) := B1.out.trans (hs.mono B1.out.size)
    clear hs
    go_wp2
    go_ret
    exact ⟨rfl, B9.out⟩

set_option maxRecDepth 100000 in
set_option maxHeartbeats 8000000 in
theorem next_none (C : BkC) (a o : ByteArray) (x : Int) (w : World) (ha : a.size = 16) (ho : o.size ≤ maxLen) (hn : nxtAt a 16 = none) (ex : cmp o.data.toList a.data.toList = x)
    (hx : rgt o.size = false ∨ rgt o.size = true ∧ (x = -1 ∨ x = 0)) :
    Calls Try.prog 7 #[.string a, .string o] w fun ev w' => ev = .returned (.bool true) ∧ Below w.heap.size w w' := by
  have L : Aside (BkC ∧ a.size = 16 ∧ o.size ≤ maxLen ∧ nxtAt a 16 = none ∧ cmp o.data.toList a.data.toList = x ∧ a.size ≤ maxLen ∧ rgt a.size = true) := ⟨C, ha, ho, hn, ex, by rw [ha]; simp [maxLen], by rw [ha]; rfl⟩
  have HX := Lib.hid hx
  clear C ha ho hn ex hx
  have hnot : ∀ (x : Bool) (w : World), (Op.unary .not (.bool x)).run Try.prog w = .ok (.bool (!x)) w := fun _ _ => rfl
  have hb0 : Aside (Below w.heap.size w (w.alloc (.cells #[.string a, .string o] 9))) := (Below.refl _ _).alloc (Nat.le_refl _) _
  go_enter Try.func7, Try.ntmps7
  go_wp2_with fail
  refine (few_of _ [a, o] _ (strsV_new w [a, o] 9 (by simp [maxLen]))).mono ?_
  rintro ev w1 ⟨rfl, rfl⟩
  cases hf : fewB [a, o] with
  | false =>
    clear hf
    go_wp2_with fail
    refine (awake_of L.out.1 _).mono ?_
    rintro ev w1 ⟨rfl, hs⟩
    have B : Aside (Below w.heap.size w w1) := hb0.out.trans (hs.mono hb0.out.size)
    clear hs
    go_wp2
    go_ret
    exact ⟨rfl, B.out⟩
  | true =>
    clear hf
    go_wp2_with fail
    refine (L.out.1.nextNone a _ L.out.2.1 L.out.2.2.2.1).mono ?_
    rintro ev w1 ⟨rfl, hs⟩
    have B1 : Aside (Below w.heap.size w w1) := hb0.out.trans (hs.mono hb0.out.size)
    clear hs
    go_wp2_with fail
    refine (refRight_any a _ L.out.2.2.2.2.2.1).mono ?_
    rintro ev w2 ⟨rfl, rfl⟩
    rw [L.out.2.2.2.2.2.2]
    go_wp2_with fail
    refine (refNext_long a _ L.out.2.1).mono ?_
    rintro ev w3 ⟨hr, hs⟩
    rw [L.out.2.2.2.1] at hr
    subst hr
    have B3 : Aside (Below w.heap.size w w3) := B1.out.trans (hs.mono B1.out.size)
    clear hs
    go_wp2_with fail
    refine (Is_code 6 6 _).mono ?_
    rintro ev w4 ⟨rfl, rfl⟩
    have e1 : ((6 : Int) == 6) = true := rfl
    rw [e1]
    clear e1
    go_wp2_with fail
    refine (refRight_any o _ L.out.2.2.1).mono ?_
    rintro ev w5 ⟨rfl, rfl⟩
    rcases HX.out with h | ⟨h, h1⟩
    · rw [h]
      clear h
      go_wp2_with fail
      refine (awake_of L.out.1 _).mono ?_
      rintro ev w9 ⟨rfl, hs⟩
      have B9 : Aside (Below w.heap.size w w9) := B3.out.trans (hs.mono B3.out.size)
      clear hs
      go_wp2
      go_ret
      exact ⟨rfl, B9.out⟩
    · rw [h]
      clear h HX
      go_wp2_with fail
      refine (L.out.1.compare o a _ L.out.2.2.1 L.out.2.2.2.2.2.1).mono ?_
      rintro ev w6 ⟨rfl, hs⟩
      rw [L.out.2.2.2.2.1]
      have B6 : Aside (Below w.heap.size w w6) := B3.out.trans (hs.mono B3.out.size)
      clear hs
      rcases h1 with h1 | h1
      all_goals
        rw [h1]
        clear h1
        go_wp2_with fail
        refine (awake_of L.out.1 _).mono ?_
        rintro ev w9 ⟨rfl, hs⟩
        have B9 : Aside (Below w.heap.size w w9) := B6.out.trans (hs.mono B6.out.size)
        clear hs
        go_wp2
        go_ret
        exact ⟨rfl, B9.out⟩

theorem lawNext (C : BkC) (a o : ByteArray) (w : World) (ha : a.size ≤ maxLen) (ho : o.size ≤ maxLen) :
    Calls Try.prog 7 #[.string a, .string o] w fun ev w' => ev = .returned (.bool true) ∧ Below w.heap.size w w' := by
  by_cases hr : rgt a.size = false
  · exact next_arg C a o w ha hr
  · have hr' : rgt a.size = true := by simpa using hr
    have hsz : 0 < a.size ∧ a.size < 17 := by simpa [rgt] using hr'
    have key : ∀ n : ByteArray, bef a.data.toList n.data.toList = true → (rgt o.size = true → bef a.data.toList o.data.toList = true → bef o.data.toList n.data.toList = false) →
        cmp a.data.toList n.data.toList = -1 ∧ (rgt o.size = false ∨ rgt o.size = true ∧ (cmp o.data.toList a.data.toList = -1 ∨ cmp o.data.toList a.data.toList = 0) ∨ rgt o.size = true ∧ cmp o.data.toList a.data.toList = 1 ∧ (cmp o.data.toList n.data.toList = 0 ∨ cmp o.data.toList n.data.toList = 1)) := by
      intro n h1 h2
      refine ⟨by unfold cmp; rw [if_pos h1], ?_⟩
      cases ho' : rgt o.size with
      | false => exact .inl rfl
      | true =>
        rcases cmp_three o.data.toList a.data.toList with h | h | h
        · exact .inr (.inl ⟨rfl, .inl h⟩)
        · exact .inr (.inl ⟨rfl, .inr h⟩)
        · refine .inr (.inr ⟨rfl, h, ?_⟩)
          have h3 : bef a.data.toList o.data.toList = true := (cmp_neg_iff _ _).1 (by rw [cmp_swap, h]; decide)
          have h4 := h2 ho' h3
          rcases cmp_three o.data.toList n.data.toList with k | k | k
          · rw [(cmp_neg_iff _ _).1 (by rw [k]; decide)] at h4; cases h4
          · exact .inl k
          · exact .inr k
    by_cases h16 : a.size < 16
    · have hd : (a ++ ⟨#[0]⟩).data.toList = a.data.toList ++ [0] := by simp
      have hs : (a ++ ⟨#[0]⟩ : ByteArray).size = a.size + 1 := by simp [ByteArray.size_append]; rfl
      obtain ⟨k1, k2⟩ := key (a ++ ⟨#[0]⟩) (by rw [hd]; exact bef_append _ _ _) (fun _ h => by rw [hd]; exact bef_snoc0 _ _ h)
      exact next_core C a o (a ++ ⟨#[0]⟩) w ha ho (by rw [hs]; simp [maxLen]; omega) hr' (by rw [hs]; simp [rgt]; omega) (fun w => C.nextShort a w hsz.1 h16) (fun w => refNext_short a w h16) k1 _ _ rfl rfl k2
    · have hsz16 : a.size = 16 := by omega
      have htk : a.data.toList.take 16 = a.data.toList := List.take_of_length_le (by simp; omega)
      cases hn : nxtAt a 16 with
      | some s =>
        have h1 := nxtAt_some a 16 s (by omega) hn
        rw [htk] at h1
        have h2 := nxtL_ahead _ _ h1
        have hsl : 0 < s.size ∧ s.size ≤ 16 := by
          have h3 := h2.2
          simp at h3
          exact ⟨h3.1, by have : a.data.size = 16 := hsz16; have h4 := h3.2; rw [hsz16] at h4; exact h4⟩
        obtain ⟨k1, k2⟩ := key s h2.1 (fun hro h => by
          have hro' : 0 < o.size ∧ o.size < 17 := by simpa [rgt] using hro
          obtain ⟨s', e', hb⟩ := nxtL_between a.data.toList o.data.toList (by simp; omega) h
          rw [h1] at e'
          obtain rfl := Option.some.inj e'
          exact hb)
        exact next_core C a o s w ha ho (by simp [maxLen]; omega) hr' (by simp [rgt]; omega) (fun w => C.nextLong a s w hsz16 hn)
          (fun w => (refNext_long a w hsz16).mono fun e w' h => by unfold NextOf at h; rw [hn] at h; exact h) k1 _ _ rfl rfl k2
      | none =>
        have h1 := nxtAt_none a 16 (by omega) hn
        rw [htk] at h1
        refine next_none C a o _ w hsz16 ho hn rfl ?_
        cases ho' : rgt o.size with
        | false => exact .inl rfl
        | true =>
          refine .inr ⟨rfl, ?_⟩
          have hro' : 0 < o.size ∧ o.size < 17 := by simpa [rgt] using ho'
          rcases cmp_three o.data.toList a.data.toList with h | h | h
          · exact .inl h
          · exact .inr h
          · have h3 : bef a.data.toList o.data.toList = true := (cmp_neg_iff _ _).1 (by rw [cmp_swap, h]; decide)
            obtain ⟨s', e', -⟩ := nxtL_between a.data.toList o.data.toList (by simp; omega) h3
            rw [h1] at e'; cases e'
end Go.Proofs.Ytakdnhfohpmcpaa
