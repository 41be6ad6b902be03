/- Plain facts: what stands in each slot, its generation and its record, by all that was ever put. -/
import Derived.Test.YtkkmfacngmginaaMm
import Derived.Test.YtkkmfacngmginaaArVal
namespace Go.Proofs.Ytkkmfacngmginaa
open Go.RowKit

/-- a slot's generation, and the record that stands there -/
def stOf (ps : List Pt) (m : Nat) : Nat × Option RecD := ps.foldl (fun s p => if p.slot = m then (p.gen, if p.live then some p.rcd else none) else s) (0, none)
theorem stOf_nil (m : Nat) : stOf [] m = (0, none) := rfl
theorem stOf_snoc (ps : List Pt) (p : Pt) (m : Nat) : stOf (ps ++ [p]) m = if p.slot = m then (p.gen, if p.live then some p.rcd else none) else stOf ps m := by unfold stOf; rw [List.foldl_append]; rfl
theorem snoc_ind {P : List Pt → Prop} (h0 : P []) (h1 : ∀ ps p, P ps → P (ps ++ [p])) (ps : List Pt) : P ps := by
  have h : ∀ l : List Pt, P l.reverse := fun l => by
    induction l with
    | nil => exact h0
    | cons p l ih => rw [List.reverse_cons]; exact h1 _ _ ih
  have := h ps.reverse
  rwa [List.reverse_reverse] at this
theorem slot_st (m : Nat) (ps : List Pt) : slotOf ps m = ((stOf ps m).1, (stOf ps m).2.isSome) := by
  induction ps using snoc_ind with
  | h0 => rfl
  | h1 ps p ih =>
    rw [slotOf_snoc, stOf_snoc]
    split
    · cases p.live <;> rfl
    · exact ih
/-- a record that stands in a slot was put there by the last put -/
theorem st_some {m : Nat} {d : RecD} (ps : List Pt) (h : (stOf ps m).2 = some d) : ∃ l1 p l2, ps = l1 ++ p :: l2 ∧ p.slot = m ∧ p.gen = (stOf ps m).1 ∧ p.live = true ∧ p.rcd = d := by
  induction ps using snoc_ind with
  | h0 => cases h
  | h1 ps p ih =>
    rw [stOf_snoc] at h ⊢
    by_cases hp : p.slot = m
    · rw [if_pos hp] at h ⊢
      cases hl : p.live with
      | false => rw [hl] at h; cases h
      | true =>
        rw [hl] at h
        exact ⟨ps, p, [], rfl, hp, rfl, hl, Option.some.inj h⟩
    · rw [if_neg hp] at h ⊢
      obtain ⟨l1, q, l2, e, r⟩ := ih h
      exact ⟨l1, q, l2 ++ [p], by rw [e]; simp, r⟩
theorem stOf_app : ∀ (l2 l1 : List Pt) (m : Nat), (∀ q ∈ l2, q.slot ≠ m) → stOf (l1 ++ l2) m = stOf l1 m
  | [], l1, m, _ => by rw [List.append_nil]
  | q :: l2, l1, m, h => by
    rw [show l1 ++ q :: l2 = (l1 ++ [q]) ++ l2 by simp, stOf_app l2 (l1 ++ [q]) m (fun r hr => h r (List.mem_cons_of_mem _ hr)), stOf_snoc, if_neg (h q (List.mem_cons_self ..))]
theorem stOf_mid {l1 l2 : List Pt} {p : Pt} (h : ∀ q ∈ l2, q.slot ≠ p.slot) : stOf (l1 ++ p :: l2) p.slot = (p.gen, if p.live then some p.rcd else none) := by
  rw [show l1 ++ p :: l2 = (l1 ++ [p]) ++ l2 by simp, stOf_app l2 _ _ h, stOf_snoc, if_pos rfl]
theorem stOf_swap {l1 l2 : List Pt} {p q : Pt} (hs : q.slot = p.slot) {m : Nat} (hm : m ≠ p.slot) : stOf (l1 ++ q :: l2) m = stOf (l1 ++ p :: l2) m := by
  unfold stOf
  rw [List.foldl_append, List.foldl_append, List.foldl_cons, List.foldl_cons, if_neg (by rw [hs]; exact fun e => hm e.symm), if_neg (fun e => hm e.symm)]
/-- a live ref is one whose slot has just that generation, and a record -/
theorem find_st {n : Nat} {ps : List Pt} (h : Valid n ps) (i : Nat) (y : Int) :
    (∃ d j p, (stOf ps i).2 = some d ∧ ((stOf ps i).1 : Int) = y ∧ findM ps (i : Int) y = some j ∧ ps[j]? = some p ∧ p.rcd = d ∧ ∀ m, stOf (ps.modify j (fun p => { p with live := false })) m = if m = i then ((stOf ps i).1, none) else stOf ps m)
    ∨ (((stOf ps i).2 = none ∨ ((stOf ps i).1 : Int) ≠ y) ∧ findM ps (i : Int) y = none) := by
  cases hf : findM ps (i : Int) y with
  | some j =>
    left
    obtain ⟨l1, p, l2, he, hj, hx, hy, hl⟩ := findM_some hf
    have hi : p.slot = i := by omega
    subst hi
    have e : stOf ps p.slot = (p.gen, some p.rcd) := by rw [he, stOf_mid (h.last he hl), hl]; rfl
    refine ⟨p.rcd, j, p, by rw [e], by rw [e]; exact hy, rfl, by rw [he, ← hj]; simp, rfl, fun m => ?_⟩
    rw [e, he, ← hj, modify_mid]
    by_cases hm : m = p.slot
    · rw [if_pos hm, hm]
      exact stOf_mid (l1 := l1) (l2 := l2) (p := ({ p with live := false } : Pt)) (show ∀ q ∈ l2, q.slot ≠ p.slot from h.last he hl)
    · rw [if_neg hm]
      exact stOf_swap (l1 := l1) (l2 := l2) (p := p) (q := ({ p with live := false } : Pt)) rfl hm
  | none =>
    right
    refine ⟨?_, rfl⟩
    cases hs : (stOf ps i).2 with
    | none => exact .inl rfl
    | some d =>
      right
      intro hy
      obtain ⟨l1, p, l2, he, h1, h2, h3, h4⟩ := st_some ps hs
      have hmem : p ∈ ps := by rw [he]; simp
      have hn := findM_none hf p hmem
      unfold isAt at hn
      rw [h1, h2, h3, hy] at hn
      simp at hn
/-- all generations are at most l -/
def GenLe (l : Nat) (ps : List Pt) : Prop := ∀ m, (stOf ps m).1 ≤ l
theorem GenLe.nil (l : Nat) : GenLe l [] := fun _ => Nat.zero_le _
end Go.Proofs.Ytkkmfacngmginaa
