/- Plain: the list of errors that the law FaultWorst lays (a nil at one place, else an error for each code), and its worst. No program is named here. -/
import Derived.Test.YtkhhdaekdledoaaDoorFltPure
namespace Go.Proofs.YtkhhdaekdledoaaDoor

/-- The errors behind k codes: none at place a, else the code and its place. -/
def sp (l : List Int) (a : Nat) : Nat → List (Option (Int × Int))
  | 0 => []
  | k + 1 => sp l a k ++ ((if k = a then [none] else []) ++ [some ((k : Int), l.getD k 0)])
/-- One step of the worst: the first of the heaviest. -/
def wsf : Option (Int × Int) → Option (Int × Int) → Option (Int × Int)
  | o, none => o
  | none, some x => some x
  | some y, some x => if wt y.2 < wt x.2 then some x else some y
/-- The place of the first heaviest of the first k codes. -/
def rwn (l : List Int) : Nat → Nat
  | 0 => 0
  | k + 1 => if k = 0 ∨ wt (l.getD (rwn l k) 0) < wt (l.getD k 0) then k else rwn l k
theorem sp_len (l : List Int) (a : Nat) : ∀ k, (sp l a k).length = k + (if a < k then 1 else 0)
  | 0 => by simp [sp]
  | k + 1 => by
    simp only [sp, List.length_append, sp_len l a k, List.length_singleton]
    by_cases h1 : k = a
    · subst h1; simp
    · rw [if_neg h1]
      by_cases h2 : a < k
      · rw [if_pos h2, if_pos (by omega)]; simp
      · rw [if_neg h2, if_neg (by omega)]; simp
theorem rwn_succ (l : List Int) (k : Nat) : rwn l (k + 1) = if k = 0 ∨ wt (l.getD (rwn l k) 0) < wt (l.getD k 0) then k else rwn l k := rfl
theorem sp_le (l : List Int) (a k : Nat) : (sp l a k).length ≤ k + 1 := by rw [sp_len]; split <;> omega
theorem rwn_lt (l : List Int) : ∀ k, 0 < k → rwn l k < k
  | 0, h => absurd h (by simp)
  | k + 1, _ => by
    unfold rwn; split
    · omega
    · rename_i h
      have : 0 < k := by omega
      have := rwn_lt l k this; omega
theorem rwn_max (l : List Int) : ∀ k j, j < k → wt (l.getD j 0) ≤ wt (l.getD (rwn l k) 0)
  | 0, _, h => absurd h (by simp)
  | k + 1, j, h => by
    unfold rwn
    by_cases hj : j < k
    · have := rwn_max l k j hj
      split
      · rename_i h'; omega
      · exact this
    · obtain rfl : j = k := by omega
      split
      · exact Int.le_refl _
      · rename_i h'; omega
theorem sp_worst (l : List Int) (a : Nat) : ∀ k, (sp l a k).foldl wsf none = if k = 0 then none else some ((rwn l k : Int), l.getD (rwn l k) 0)
  | 0 => by simp [sp]
  | k + 1 => by
    have e0 : ∀ o, List.foldl wsf o ((if k = a then [none] else []) ++ [some ((k : Int), l.getD k 0)]) = wsf o (some ((k : Int), l.getD k 0)) := fun o => by
      split
      · cases o <;> rfl
      · rfl
    rw [sp, List.foldl_append, e0, sp_worst l a k, if_neg (Nat.succ_ne_zero k)]
    by_cases hk : k = 0
    · subst hk; rfl
    · rw [if_neg hk]
      show (if wt (l.getD (rwn l k) 0) < wt (l.getD k 0) then _ else _) = _
      rw [rwn_succ]
      by_cases hw : wt (l.getD (rwn l k) 0) < wt (l.getD k 0)
      · rw [if_pos hw, if_pos (Or.inr hw)]
      · rw [if_neg hw, if_neg (by omega)]
/-- the weight of the worst so far -/
def mst : Option (Int × Int) → Int
  | none => -1
  | some x => wt x.2
theorem mst_bd (o : Option (Int × Int)) : -1 ≤ mst o ∧ mst o ≤ 5 := by
  cases o with
  | none => simp [mst]
  | some x => have := wt_bd x.2; simp only [mst]; omega
theorem wsf_gt (o : Option (Int × Int)) (x : Int × Int) (h : mst o < wt x.2) : wsf o (some x) = some x := by
  cases o with
  | none => rfl
  | some y => exact if_pos h
theorem wsf_le (o : Option (Int × Int)) (x : Int × Int) (h : ¬ mst o < wt x.2) : wsf o (some x) = o := by
  cases o with
  | none => have := wt_bd x.2; simp only [mst] at h; omega
  | some y => exact if_neg h
end Go.Proofs.YtkhhdaekdledoaaDoor
