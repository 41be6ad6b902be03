/- Plain: texts as lists of bytes: their order, what two begin with alike. No program is named here. -/
import Derived.WalkKit
namespace Go.Proofs.YtkbfhpgcjljbbaaDoor

/-- a is ahead of b, bytewise; a true beginning is ahead. -/
def bef : List UInt8 → List UInt8 → Bool
  | _, [] => false
  | [], _ :: _ => true
  | a :: as, b :: bs => if a = b then bef as bs else decide (a.toNat < b.toNat)
/-- how many bytes two texts begin with alike -/
def com : List UInt8 → List UInt8 → Nat
  | a :: as, b :: bs => if a = b then com as bs + 1 else 0
  | _, _ => 0
/-- -1, 0, 1 -/
def cmp (a b : List UInt8) : Int := if bef a b then -1 else if bef b a then 1 else 0

theorem bef_nil (a : List UInt8) : bef a [] = false := by cases a <;> rfl
theorem nil_bef (a : List UInt8) : bef [] a = !a.isEmpty := by cases a <;> rfl
theorem bef_cons (a b : UInt8) (as bs : List UInt8) : bef (a :: as) (b :: bs) = if a = b then bef as bs else decide (a.toNat < b.toNat) := rfl
theorem u8_ne {a b : UInt8} (h : ¬ a = b) : a.toNat ≠ b.toNat := fun e => h (UInt8.toNat_inj.1 e)
theorem bef_irr : ∀ a : List UInt8, bef a a = false
  | [] => rfl
  | a :: as => by rw [bef_cons, if_pos rfl]; exact bef_irr as
theorem bef_asymm : ∀ a b : List UInt8, bef a b = true → bef b a = false
  | a, [], h => by rw [bef_nil] at h; cases h
  | [], b :: bs, _ => bef_nil _
  | a :: as, b :: bs, h => by
    rw [bef_cons] at h ⊢
    by_cases e : a = b
    · rw [if_pos e] at h; rw [if_pos e.symm]; exact bef_asymm as bs h
    · rw [if_neg e] at h; rw [if_neg (fun h' => e h'.symm)]
      have := of_decide_eq_true h
      exact decide_eq_false (by omega)
theorem bef_total : ∀ a b : List UInt8, bef a b = false → bef b a = false → a = b
  | [], [], _, _ => rfl
  | [], b :: bs, h, _ => by cases h
  | a :: as, [], _, h => by cases h
  | a :: as, b :: bs, h, h' => by
    rw [bef_cons] at h h'
    by_cases e : a = b
    · rw [if_pos e] at h; rw [if_pos e.symm] at h'
      rw [e, bef_total as bs h h']
    · rw [if_neg e] at h; rw [if_neg (fun k => e k.symm)] at h'
      have h1 := of_decide_eq_false h
      have h2 := of_decide_eq_false h'
      exact absurd (show a.toNat = b.toNat by omega) (u8_ne e)
theorem bef_trans : ∀ a b c : List UInt8, bef a b = true → bef b c = true → bef a c = true
  | a, [], _, h, _ => by rw [bef_nil] at h; cases h
  | _, b :: bs, [], _, h => by rw [bef_nil] at h; cases h
  | [], b :: bs, c :: cs, _, _ => rfl
  | a :: as, b :: bs, c :: cs, h, h' => by
    rw [bef_cons] at h h' ⊢
    by_cases e : a = b
    · subst e
      rw [if_pos rfl] at h
      by_cases e' : a = c
      · subst e'; rw [if_pos rfl] at h' ⊢; exact bef_trans as bs cs h h'
      · rw [if_neg e'] at h' ⊢; exact h'
    · rw [if_neg e] at h
      have h1 := of_decide_eq_true h
      by_cases e' : b = c
      · subst e'; rw [if_neg e]; exact decide_eq_true h1
      · rw [if_neg e'] at h'
        have h2 := of_decide_eq_true h'
        have hne : ¬ a = c := fun k => by subst k; omega
        rw [if_neg hne]; exact decide_eq_true (by omega)
theorem com_le_left : ∀ a b : List UInt8, com a b ≤ a.length
  | [], _ => by simp [com]
  | _ :: _, [] => by simp [com]
  | a :: as, b :: bs => by
    unfold com; split
    · have := com_le_left as bs; simp; omega
    · simp
theorem com_comm : ∀ a b : List UInt8, com a b = com b a
  | [], [] => rfl
  | [], _ :: _ => rfl
  | _ :: _, [] => rfl
  | a :: as, b :: bs => by
    unfold com
    by_cases e : a = b
    · rw [if_pos e, if_pos e.symm, com_comm as bs]
    · rw [if_neg e, if_neg (fun h => e h.symm)]
theorem com_le_right (a b : List UInt8) : com a b ≤ b.length := by rw [com_comm]; exact com_le_left b a
theorem com_take : ∀ a b : List UInt8, a.take (com a b) = b.take (com a b)
  | [], b => by simp [com]
  | _ :: _, [] => by simp [com]
  | a :: as, b :: bs => by
    unfold com
    by_cases e : a = b
    · rw [if_pos e]; simp [e, com_take as bs]
    · rw [if_neg e]; simp
theorem com_stop : ∀ a b : List UInt8, ∀ x y, a[com a b]? = some x → b[com a b]? = some y → x ≠ y
  | [], _, _, _, h, _ => by simp [com] at h
  | _ :: _, [], _, _, _, h => by simp [com] at h
  | a :: as, b :: bs, x, y, h, h' => by
    unfold com at h h'
    by_cases e : a = b
    · rw [if_pos e] at h h'
      exact com_stop as bs x y (by simpa using h) (by simpa using h')
    · rw [if_neg e] at h h'
      simp at h h'
      subst h; subst h'; exact e
/-- the order by the first place at which two texts part -/
theorem bef_drop : ∀ (a b : List UInt8) (k : Nat), a.take k = b.take k → k ≤ a.length → k ≤ b.length → bef a b = bef (a.drop k) (b.drop k)
  | a, b, 0, _, _, _ => by simp
  | a :: as, b :: bs, k + 1, h, ha, hb => by
    simp at h ha hb
    rw [bef_cons, if_pos h.1, bef_drop as bs k h.2 ha hb]; rfl
  | [], _, k + 1, _, ha, _ => by simp at ha
  | _ :: _, [], k + 1, _, _, hb => by simp at hb
/-- a text's beginning is not behind it -/
theorem bef_take (a : List UInt8) (k : Nat) : bef a (a.take k) = false := by
  induction a generalizing k with
  | nil => simp [bef_nil]
  | cons x a ih =>
    cases k with
    | zero => exact bef_nil _
    | succ k => rw [List.take_succ_cons, bef_cons, if_pos rfl]; exact ih k
theorem take_bef (a : List UInt8) (k : Nat) (h : k < a.length) : bef (a.take k) a = true := by
  induction a generalizing k with
  | nil => simp at h
  | cons x a ih =>
    cases k with
    | zero => rfl
    | succ k => rw [List.take_succ_cons, bef_cons, if_pos rfl]; exact ih k (by simpa using h)
/-- what is ahead of a beginning is ahead of a longer one -/
theorem bef_take_mono (a b : List UInt8) (j k : Nat) (hjk : j ≤ k) (h : bef a (b.take j) = true) : bef a (b.take k) = true := by
  by_cases e : b.take j = b.take k
  · rw [← e]; exact h
  · refine bef_trans _ _ _ h ?_
    have hj : j < (b.take k).length := by
      rw [List.length_take]
      rcases Nat.lt_or_ge j (min k b.length) with h' | h'
      · exact h'
      · exfalso; apply e
        have : b.length ≤ j ∨ k = j := by omega
        rcases this with h1 | h1
        · rw [List.take_of_length_le h1, List.take_of_length_le (by omega)]
        · rw [h1]
    have := take_bef (b.take k) j hj
    rwa [List.take_take, Nat.min_eq_left hjk] at this
theorem bef_of_take (a b : List UInt8) (k : Nat) (h : bef a (b.take k) = true) : bef a b = true := by
  by_cases hk : b.length ≤ k
  · rwa [List.take_of_length_le hk] at h
  · exact bef_trans _ _ _ h (take_bef b k (by omega))
theorem cmp_bd (a b : List UInt8) : -1 ≤ cmp a b ∧ cmp a b ≤ 1 := by unfold cmp; repeat' split
                                                                     all_goals omega
theorem cmp_self (a : List UInt8) : cmp a a = 0 := by unfold cmp; simp [bef_irr]
theorem cmp_swap (a b : List UInt8) : cmp b a = -cmp a b := by
  unfold cmp
  cases h : bef a b with
  | true => simp [bef_asymm a b h]
  | false => cases h' : bef b a <;> simp
theorem cmp_zero (a b : List UInt8) : cmp a b = 0 ↔ a = b := by
  unfold cmp
  constructor
  · cases h : bef a b with
    | true => intro k; simp at k
    | false =>
      cases h' : bef b a with
      | true => intro k; simp at k
      | false => intro _; exact bef_total a b h h'
  · rintro rfl; simp [bef_irr]
theorem btw_bef : ∀ a b : List UInt8, bef a b = true → bef a (b.take (com a b + 1)) = true
  | a, [], h => by rw [bef_nil] at h; cases h
  | [], b :: bs, _ => rfl
  | a :: as, b :: bs, h => by
    rw [bef_cons] at h
    unfold com
    by_cases e : a = b
    · rw [if_pos e] at h ⊢
      rw [List.take_succ_cons, bef_cons, if_pos e]
      exact btw_bef as bs h
    · rw [if_neg e] at h ⊢
      rw [List.take_succ_cons, bef_cons, if_neg e]; exact h
theorem bef_take_small (a b : List UInt8) (n : Nat) (h : n ≤ com a b) : bef a (b.take n) = false := by
  have e : b.take n = a.take n := by
    have := congrArg (List.take n) (com_take a b)
    rw [List.take_take, List.take_take, Nat.min_eq_left h] at this
    exact this.symm
  rw [e]; exact bef_take a n
theorem com_lt_of_bef : ∀ a b : List UInt8, bef a b = true → com a b < b.length
  | a, [], h => by rw [bef_nil] at h; cases h
  | [], b :: bs, _ => by simp [com]
  | a :: as, b :: bs, h => by
    rw [bef_cons] at h
    unfold com
    by_cases e : a = b
    · rw [if_pos e] at h ⊢
      have := com_lt_of_bef as bs h
      simp; omega
    · rw [if_neg e]; simp
theorem cmp_neg_iff (a b : List UInt8) : cmp a b < 0 ↔ bef a b = true := by
  unfold cmp
  cases h : bef a b with
  | true => simp
  | false => cases h' : bef b a <;> simp
theorem cmp_line (a b c : List UInt8) : (cmp a b ≤ 0 → cmp b c ≤ 0 → cmp a c ≤ 0) ∧ (cmp a b < 0 → cmp b c ≤ 0 → cmp a c < 0) := by
  have key : cmp a b < 0 → cmp b c ≤ 0 → cmp a c < 0 := by
    intro h1 h2
    rw [cmp_neg_iff] at h1 ⊢
    by_cases e : cmp b c = 0
    · rw [cmp_zero] at e; rw [← e]; exact h1
    · exact bef_trans _ _ _ h1 ((cmp_neg_iff b c).1 (by omega))
  refine ⟨fun h1 h2 => ?_, key⟩
  by_cases e : cmp a b = 0
  · rw [cmp_zero] at e; rw [e]; exact h2
  · have := key (by omega) h2; omega
theorem cmp_three (a b : List UInt8) : cmp a b = -1 ∨ cmp a b = 0 ∨ cmp a b = 1 := by have := cmp_bd a b; omega
/-- behind a text the next one is that text and a byte 0: nothing lies between -/
theorem bef_snoc0 : ∀ a o : List UInt8, bef a o = true → bef o (a ++ [0]) = false
  | _, [], h => by rw [bef_nil] at h; cases h
  | [], y :: ys, _ => by
    show bef (y :: ys) [0] = false
    rw [bef_cons]
    by_cases e : y = 0
    · rw [if_pos e]; exact bef_nil _
    · rw [if_neg e]; exact decide_eq_false (by simp)
  | x :: xs, y :: ys, h => by
    rw [bef_cons] at h
    show bef (y :: ys) (x :: (xs ++ [0])) = false
    rw [bef_cons]
    by_cases e : x = y
    · rw [if_pos e] at h; rw [if_pos e.symm]; exact bef_snoc0 xs ys h
    · rw [if_neg e] at h; rw [if_neg (fun k => e k.symm)]
      have := of_decide_eq_true h
      exact decide_eq_false (by omega)
theorem bef_append (a : List UInt8) (x : UInt8) (l : List UInt8) : bef a (a ++ x :: l) = true := by
  induction a with
  | nil => rfl
  | cons y a ih => show bef (y :: a) (y :: (a ++ x :: l)) = true; rw [bef_cons, if_pos rfl]; exact ih
/-- the next text of at most as many bytes: the last byte that is below 255 is one more -/
def nxtL : List UInt8 → Option (List UInt8)
  | [] => none
  | x :: xs => match nxtL xs with
    | some s => some (x :: s)
    | none => if x.toNat < 255 then some [x + 1] else none
theorem u8_succ (x : UInt8) (h : x.toNat < 255) : (x + 1).toNat = x.toNat + 1 := by rw [UInt8.toNat_add]; simp; omega
theorem nxtL_ahead : ∀ a s : List UInt8, nxtL a = some s → bef a s = true ∧ 0 < s.length ∧ s.length ≤ a.length
  | [], _, h => by cases h
  | x :: xs, s, h => by
    unfold nxtL at h
    cases hn : nxtL xs with
    | some s' =>
      rw [hn] at h
      obtain rfl := Option.some.inj h
      have ih := nxtL_ahead xs s' hn
      refine ⟨by rw [bef_cons, if_pos rfl]; exact ih.1, by simp, by simp; omega⟩
    | none =>
      rw [hn] at h
      by_cases hx : x.toNat < 255
      · simp only [if_pos hx] at h
        obtain rfl := Option.some.inj h
        have hs := u8_succ x hx
        refine ⟨?_, by simp, by simp⟩
        rw [bef_cons, if_neg (fun e => by have := congrArg UInt8.toNat e; omega)]
        exact decide_eq_true (by omega)
      · simp only [if_neg hx] at h; cases h
theorem nxtL_between : ∀ a o : List UInt8, o.length ≤ a.length → bef a o = true → ∃ s, nxtL a = some s ∧ bef o s = false
  | _, [], _, h => by rw [bef_nil] at h; cases h
  | [], y :: ys, hl, _ => by simp at hl
  | x :: xs, y :: ys, hl, h => by
    rw [bef_cons] at h
    by_cases e : x = y
    · rw [if_pos e] at h
      obtain ⟨s, hs, hb⟩ := nxtL_between xs ys (by simpa using hl) h
      refine ⟨x :: s, by unfold nxtL; rw [hs], ?_⟩
      rw [bef_cons, if_pos e.symm]; exact hb
    · rw [if_neg e] at h
      have hlt := of_decide_eq_true h
      have hy : y.toNat < 256 := y.toNat_lt
      cases hn : nxtL xs with
      | some s =>
        refine ⟨x :: s, by unfold nxtL; rw [hn], ?_⟩
        rw [bef_cons, if_neg (fun k => e k.symm)]
        exact decide_eq_false (by omega)
      | none =>
        have hx : x.toNat < 255 := by omega
        have hs := u8_succ x hx
        refine ⟨[x + 1], by unfold nxtL; rw [hn]; exact if_pos hx, ?_⟩
        rw [bef_cons]
        by_cases e' : y = x + 1
        · rw [if_pos e']; exact bef_nil _
        · rw [if_neg e']
          have := u8_ne e'
          exact decide_eq_false (by omega)
theorem nxtL_snoc : ∀ (l : List UInt8) (x : UInt8), nxtL (l ++ [x]) = if x.toNat < 255 then some (l ++ [x + 1]) else nxtL l
  | [], x => rfl
  | y :: l, x => by
    show (match nxtL (l ++ [x]) with | some s => some (y :: s) | none => if y.toNat < 255 then some [y + 1] else none) = _
    rw [nxtL_snoc l x]
    by_cases hx : x.toNat < 255
    · rw [if_pos hx, if_pos hx]; rfl
    · rw [if_neg hx, if_neg hx]; rfl
end Go.Proofs.YtkbfhpgcjljbbaaDoor
