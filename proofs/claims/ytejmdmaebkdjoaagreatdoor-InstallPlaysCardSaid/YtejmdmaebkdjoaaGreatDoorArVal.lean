/- Plain facts on all that was ever put: each slot's live record is its last one; what putting and freeing do to the slots' states. -/
import Derived.Test.YtejmdmaebkdjoaaGreatDoorMm
import Derived.Test.YtejmdmaebkdjoaaGreatDoorArMod
namespace Go.Proofs.YtejmdmaebkdjoaaGreatDoor
set_option linter.unusedVariables false
set_option linter.unusedSimpArgs false
open Go.RowKit
theorem slotOf_snoc (ps : List Pt) (p : Pt) (m : Nat) : slotOf (ps ++ [p]) m = if p.slot = m then (p.gen, p.live) else slotOf ps m := by
 unfold slotOf
 rw [List.foldl_append]
 rfl
theorem allocGo_used {l : Nat} {ps : List Pt} {f m g : Nat} {e : Int} (h : slotOf ps m = (g, true)) : allocGo l ps (f + 1) m e = allocGo l ps f (m + 1) e := by
 show (if (slotOf ps m).2 = true then _ else _) = _
 rw [h]; rfl
theorem allocGo_free {l : Nat} {ps : List Pt} {f m g : Nat} {e : Int} (h : slotOf ps m = (g, false)) (hl : g < l) : allocGo l ps (f + 1) m e = (m, g + 1, 0) := by
 show (if (slotOf ps m).2 = true then _ else if (slotOf ps m).1 < l then (m, (slotOf ps m).1 + 1, 0) else _) = _
 rw [h, if_neg (by simp), if_pos hl]
theorem allocGo_worn {l : Nat} {ps : List Pt} {f m g : Nat} {e : Int} (h : slotOf ps m = (g, false)) (hl : ¬ g < l) : allocGo l ps (f + 1) m e = allocGo l ps f (m + 1) 5 := by
 show (if (slotOf ps m).2 = true then _ else if (slotOf ps m).1 < l then (m, (slotOf ps m).1 + 1, 0) else _) = _
 rw [h, if_neg (by simp), if_neg hl]
open Go.RowKit
structure Valid (n : Nat) (ps : List Pt) : Prop where
 pair : ps.Pairwise fun p q => p.live = true → q.slot ≠ p.slot
 slots : ∀ p ∈ ps, 1 ≤ p.slot ∧ p.slot ≤ n
theorem Valid.nil (n : Nat) : Valid n [] := ⟨List.Pairwise.nil, fun p h => by cases h⟩
theorem Valid.last {n : Nat} {ps l1 l2 : List Pt} {p : Pt} (h : Valid n ps) (he : ps = l1 ++ p :: l2) (hl : p.live = true) : ∀ q ∈ l2, q.slot ≠ p.slot := by
 have hp := h.pair
 rw [he, List.pairwise_append, List.pairwise_cons] at hp
 exact fun q hq => hp.2.1.1 q hq hl
theorem slotOf_app : ∀ (l2 l1 : List Pt) (m : Nat), (∀ q ∈ l2, q.slot ≠ m) → slotOf (l1 ++ l2) m = slotOf l1 m
 | [], l1, m, _ => by rw [List.append_nil]
 | q :: l2, l1, m, h => by
  rw [show l1 ++ q :: l2 = (l1 ++ [q]) ++ l2 by simp, slotOf_app l2 (l1 ++ [q]) m (fun r hr => h r (List.mem_cons_of_mem _ hr)), slotOf_snoc, if_neg (h q (List.mem_cons_self ..))]
theorem slotOf_mid {l1 l2 : List Pt} {p : Pt} (h : ∀ q ∈ l2, q.slot ≠ p.slot) : slotOf (l1 ++ p :: l2) p.slot = (p.gen, p.live) := by
 rw [show l1 ++ p :: l2 = (l1 ++ [p]) ++ l2 by simp, slotOf_app l2 _ _ h, slotOf_snoc, if_pos rfl]
theorem slotOf_swap {l1 l2 : List Pt} {p q : Pt} (hs : q.slot = p.slot) {m : Nat} (hm : m ≠ p.slot) : slotOf (l1 ++ q :: l2) m = slotOf (l1 ++ p :: l2) m := by
 unfold slotOf
 rw [List.foldl_append, List.foldl_append, List.foldl_cons, List.foldl_cons, if_neg (by rw [hs]; exact fun e => hm e.symm), if_neg (fun e => hm e.symm)]
theorem Valid.live {n : Nat} {ps l1 l2 : List Pt} {p : Pt} (h : Valid n ps) (he : ps = l1 ++ p :: l2) (hl : p.live = true) : slotOf ps p.slot = (p.gen, true) := by
 have e := slotOf_mid (l1 := l1) (h.last he hl)
 rw [he, e, hl]
theorem Valid.liveMem {n : Nat} {ps : List Pt} {p : Pt} (h : Valid n ps) (hp : p ∈ ps) (hl : p.live = true) : slotOf ps p.slot = (p.gen, true) := by
 obtain ⟨l1, l2, he⟩ := List.append_of_mem hp
 exact h.live he hl
theorem Valid.put {n : Nat} {ps : List Pt} (h : Valid n ps) {i g : Nat} {d : RecD} (hi : 1 ≤ i ∧ i ≤ n) (hf : (slotOf ps i).2 = false) : Valid n (ps ++ [⟨i, g, d, true⟩]) := by
 refine ⟨?_, fun p hp => ?_⟩
 ·rw [List.pairwise_append]
  refine ⟨h.pair, List.pairwise_singleton _ _, fun p hp q hq hl => ?_⟩
  obtain rfl := List.mem_singleton.1 hq
  intro e
  have := h.liveMem hp hl
  rw [← e] at this
  simp only at this
  rw [this] at hf
  cases hf
 ·rcases List.mem_append.1 hp with hp | hp
  ·exact h.slots p hp
  ·obtain rfl := List.mem_singleton.1 hp
   exact hi
theorem findM_some {ps : List Pt} {x y : Int} {j : Nat} (h : findM ps x y = some j) : ∃ l1 p l2, ps = l1 ++ p :: l2 ∧ l1.length = j ∧ (p.slot : Int) = x ∧ (p.gen : Int) = y ∧ p.live = true := by
 unfold findM at h
 obtain ⟨hj, hp, -⟩ := List.findIdx?_eq_some_iff_getElem.1 h
 refine ⟨ps.take j, ps[j], ps.drop (j + 1), ?_, ?_, ?_⟩
 ·rw [← List.drop_eq_getElem_cons hj, List.take_append_drop]
 ·rw [List.length_take]; omega
 ·unfold isAt at hp
  simp only [Bool.and_eq_true, beq_iff_eq] at hp
  exact ⟨hp.1.1, hp.1.2, hp.2⟩
theorem findM_none {ps : List Pt} {x y : Int} (h : findM ps x y = none) : ∀ p ∈ ps, isAt x y p = false := by
 unfold findM at h
 simpa [List.findIdx?_eq_none_iff] using h
theorem modify_mid {α : Type} (f : α → α) (p : α) (l2 : List α) : ∀ l1 : List α, (l1 ++ p :: l2).modify l1.length f = l1 ++ f p :: l2
 | [] => rfl
 | y :: l1 => by
  show (y :: (l1 ++ p :: l2)).modify (l1.length + 1) f = _
  rw [List.modify_succ_cons, modify_mid f p l2 l1]
  rfl
theorem free_some {n : Nat} {ps : List Pt} (h : Valid n ps) {x y : Int} (hc : codeM n ps x y = 0) :
  ∃ (i g : Nat), (i : Int) = x ∧ (g : Int) = y ∧ 1 ≤ i ∧ i ≤ n ∧ slotOf ps i = (g, true) ∧ Valid n (freeM n ps x y) ∧ (freeM n ps x y).length = ps.length ∧ ∀ m, slotOf (freeM n ps x y) m = if m = i then (g, false) else slotOf ps m := by
 have hc0 := hc
 unfold codeM at hc
 split at hc
 ·cases hc
 ·rename_i hr
  cases hf : findM ps x y with
  | none => rw [hf] at hc; cases hc
  | some j =>
   obtain ⟨l1, p, l2, he, hj, hx, hy, hl⟩ := findM_some hf
   have hfr : freeM n ps x y = l1 ++ { p with live := false } :: l2 := by
    unfold freeM
    rw [if_pos hc0, hf]
    simp only
    rw [he, ← hj, modify_mid]
   have hmem : p ∈ ps := by rw [he]; simp
   refine ⟨p.slot, p.gen, hx, hy, (h.slots p hmem).1, (h.slots p hmem).2, h.live he hl, ?_, ?_, fun m => ?_⟩
   ·rw [hfr]
    refine ⟨?_, fun q hq => ?_⟩
    ·have hp := h.pair
     rw [he, List.pairwise_append, List.pairwise_cons] at hp
     rw [List.pairwise_append, List.pairwise_cons]
     refine ⟨hp.1, ⟨fun q _ hql => (by cases hql), hp.2.1.2⟩, fun a ha q hq hal => ?_⟩
     rcases List.mem_cons.1 hq with rfl | hq
     ·exact hp.2.2 a ha p (List.mem_cons_self ..) hal
     ·exact hp.2.2 a ha q (List.mem_cons_of_mem _ hq) hal
    ·rcases List.mem_append.1 hq with hq | hq
     ·exact h.slots q (by rw [he]; simp [hq])
     ·rcases List.mem_cons.1 hq with rfl | hq
      ·exact h.slots p hmem
      ·exact h.slots q (by rw [he]; simp [hq])
   ·rw [hfr, he]; simp
   ·rw [hfr]
    by_cases e : m = p.slot
    ·rw [if_pos e, e]
     exact slotOf_mid (l1 := l1) (l2 := l2) (p := ({ p with live := false } : Pt)) (show ∀ q ∈ l2, q.slot ≠ p.slot from h.last he hl)
    ·rw [if_neg e, he]
     exact slotOf_swap (l1 := l1) (l2 := l2) (p := p) (q := ({ p with live := false } : Pt)) rfl e
theorem free_none {n : Nat} {ps : List Pt} {x y : Int} (hc : codeM n ps x y ≠ 0) : freeM n ps x y = ps := by unfold freeM; rw [if_neg hc]
/-! ### Counting slots -/
def cnt (n : Nat) (P : Nat → Bool) : Nat := ((List.range n).filter fun i => P (i + 1)).length
theorem cnt_succ (n : Nat) (P : Nat → Bool) : cnt (n + 1) P = cnt n P + (if P (n + 1) then 1 else 0) := by
 unfold cnt
 rw [List.range_succ, List.filter_append, List.length_append, List.filter_cons]
 cases P (n + 1) <;> simp
def usedB (ps : List Pt) (m : Nat) : Bool := (slotOf ps m).2
theorem liveM_len (n : Nat) (ps : List Pt) : (liveM n ps).length = cnt n (usedB ps) := by unfold liveM cnt usedB; rw [List.length_map]
end Go.Proofs.YtejmdmaebkdjoaaGreatDoor
