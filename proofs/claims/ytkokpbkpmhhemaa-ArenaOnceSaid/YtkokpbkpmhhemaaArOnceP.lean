/- Plain facts for ArenaOnce: which refs are live, which are gone. -/
import Derived.Test.YtkokpbkpmhhemaaArSt
import Derived.Test.YtkokpbkpmhhemaaArFirst
namespace Go.Proofs.Ytkokpbkpmhhemaa
open Go.RowKit

/-- puts of one slot have rising generations, all from 1 to l -/
structure Ord (l : Nat) (ps : List Pt) : Prop where
  pair : ps.Pairwise fun p q => p.slot = q.slot → p.gen < q.gen
  gens : ∀ p ∈ ps, 1 ≤ p.gen ∧ p.gen ≤ l
def liveB (ps : List Pt) (p q : Int) : Bool := ps.any (isAt p q)
def goneB (ps : List Pt) (p q : Int) : Bool := ps.any fun t => (t.slot : Int) == p && (t.gen : Int) == q && !t.live
def eqR (p q x y : Int) : Bool := p == x && q == y
theorem Ord.nil (l : Nat) : Ord l [] := ⟨List.Pairwise.nil, fun p h => by cases h⟩
theorem Ord.le {l : Nat} (ps : List Pt) (h : Ord l ps) : ∀ t ∈ ps, t.gen ≤ (slotOf ps t.slot).1 := by
  induction ps using snoc_ind with
  | h0 => intro t ht; cases ht
  | h1 ps p ih =>
    have hp := h.pair
    rw [List.pairwise_append] at hp
    have ho : Ord l ps := ⟨hp.1, fun q hq => h.gens q (List.mem_append_left _ hq)⟩
    intro t ht
    rw [slotOf_snoc]
    rcases List.mem_append.1 ht with ht | ht
    · by_cases e : p.slot = t.slot
      · rw [if_pos e]
        have := hp.2.2 t ht p (List.mem_singleton.2 rfl) e.symm
        simp only; omega
      · rw [if_neg e]; exact ih ho t ht
    · obtain rfl := List.mem_singleton.1 ht
      rw [if_pos rfl]; exact Nat.le_refl _
theorem slotOf_mem {m : Nat} (ps : List Pt) (h : (slotOf ps m).1 ≠ 0) : ∃ t ∈ ps, t.slot = m ∧ t.gen = (slotOf ps m).1 := by
  induction ps using snoc_ind with
  | h0 => exact absurd rfl h
  | h1 ps p ih =>
    rw [slotOf_snoc] at h ⊢
    by_cases e : p.slot = m
    · rw [if_pos e]; exact ⟨p, by simp, e, rfl⟩
    · rw [if_neg e] at h ⊢
      obtain ⟨t, h1, h2⟩ := ih h
      exact ⟨t, List.mem_append_left _ h1, h2⟩
theorem no_new {l i : Nat} {ps : List Pt} (h : Ord l ps) (t : Pt) (ht : t ∈ ps) : ¬ ((t.slot : Int) = (i : Int) ∧ (t.gen : Int) = (((slotOf ps i).1 + 1 : Nat) : Int)) := by
  rintro ⟨h1, h2⟩
  obtain rfl : t.slot = i := by omega
  have := h.le ps t ht
  omega
/-- what putting does -/
theorem put_refs {n l : Nat} {ps : List Pt} (d : RecD) (hv : Valid n ps) (ho : Ord l ps) :
    (∃ i g : Nat, allocM n l ps = (i, g, 0) ∧ 1 ≤ i ∧ i ≤ n ∧ 1 ≤ g ∧ g ≤ l ∧ liveB ps i g = false ∧ goneB ps i g = false ∧ Valid n (putM n l ps d) ∧ Ord l (putM n l ps d)
      ∧ (∀ p q, liveB (putM n l ps d) p q = (liveB ps p q || eqR p q i g)) ∧ (∀ p q, goneB (putM n l ps d) p q = goneB ps p q) ∧ (liveM n (putM n l ps d)).length = (liveM n ps).length + 1)
    ∨ (∃ e : Int, (e = 3 ∨ e = 5) ∧ allocM n l ps = (0, 0, e) ∧ putM n l ps d = ps) := by
  rcases allocM_spec n l ps with ⟨i, h1, h2, h3, h4, h5, -⟩ | ⟨-, e, h2, h3⟩
  · left
    have hput : putM n l ps d = ps ++ [⟨i, (slotOf ps i).1 + 1, d, true⟩] := by unfold putM; rw [h5]; rfl
    have hL : liveB ps (i : Int) (((slotOf ps i).1 + 1 : Nat) : Int) = false := by
      unfold liveB
      rw [List.any_eq_false]
      intro t ht hc
      unfold isAt at hc
      simp only [Bool.and_eq_true, beq_iff_eq] at hc
      exact no_new ho t ht hc.1
    have hG : goneB ps (i : Int) (((slotOf ps i).1 + 1 : Nat) : Int) = false := by
      unfold goneB
      rw [List.any_eq_false]
      intro t ht hc
      simp only [Bool.and_eq_true, beq_iff_eq] at hc
      exact no_new ho t ht hc.1
    refine ⟨i, _, h5, h1, h2, by omega, by omega, hL, hG, by rw [hput]; exact hv.put ⟨h1, h2⟩ h3, ?_, fun p q => ?_, fun p q => ?_, ?_⟩
    · rw [hput]
      refine ⟨?_, fun p hp => ?_⟩
      · rw [List.pairwise_append]
        refine ⟨ho.pair, List.pairwise_singleton _ _, fun p hp q hq e => ?_⟩
        obtain rfl := List.mem_singleton.1 hq
        simp only at e ⊢
        have := ho.le ps p hp
        rw [e] at this; omega
      · rcases List.mem_append.1 hp with hp | hp
        · exact ho.gens p hp
        · obtain rfl := List.mem_singleton.1 hp
          exact ⟨by simp only; omega, by simp only; omega⟩
    · rw [hput]
      unfold liveB eqR
      rw [List.any_append]
      congr 1
      simp only [List.any_cons, List.any_nil, Bool.or_false, isAt, Bool.and_true]
      rw [BEq.comm (a := (i : Int)), BEq.comm (a := (((slotOf ps i).1 + 1 : Nat) : Int))]
    · rw [hput]
      unfold goneB
      rw [List.any_append]
      simp
    · rw [liveM_len, liveM_len]
      have hslot : ∀ m, slotOf (putM n l ps d) m = if i = m then ((slotOf ps i).1 + 1, true) else slotOf ps m := fun m => by rw [hput, slotOf_snoc]
      refine cnt_one (i := i) ?_ ?_ (fun m hm => ?_) n h1 h2
      · unfold usedB; exact h3
      · unfold usedB; rw [hslot, if_pos rfl]
      · unfold usedB; rw [hslot, if_neg (fun e => hm e.symm)]
  · right
    exact ⟨e, h2, h3, by unfold putM; rw [h3, if_neg (by rcases h2 with rfl | rfl <;> simp)]⟩
theorem live_code {n : Nat} {ps : List Pt} (hv : Valid n ps) {p q : Int} (h : liveB ps p q = true) : codeM n ps p q = 0 ∧ 1 ≤ p ∧ p ≤ (n : Int) := by
  unfold liveB at h
  obtain ⟨t, ht, hc⟩ := List.any_eq_true.1 h
  have hs := hv.slots t ht
  have h0 := hc
  unfold isAt at hc
  simp only [Bool.and_eq_true, beq_iff_eq] at hc
  refine ⟨?_, by omega, by omega⟩
  unfold codeM
  rw [if_neg (by omega)]
  have : findM ps p q ≠ none := fun e => by
    have := findM_none e t ht
    rw [h0] at this; cases this
  cases hf : findM ps p q with
  | none => exact absurd hf this
  | some j => rfl
theorem live_one {n : Nat} {ps : List Pt} (hv : Valid n ps) {p q q' : Int} (h : liveB ps p q = true) (h' : liveB ps p q' = true) : q = q' := by
  unfold liveB at h h'
  obtain ⟨t, ht, hc⟩ := List.any_eq_true.1 h
  obtain ⟨t', ht', hc'⟩ := List.any_eq_true.1 h'
  unfold isAt at hc hc'
  simp only [Bool.and_eq_true, beq_iff_eq] at hc hc'
  have e := hv.liveMem ht hc.2
  have e' := hv.liveMem ht' hc'.2
  rw [show t'.slot = t.slot by omega, e] at e'
  have := (Prod.mk.inj e').1
  omega
theorem gone_code {n l : Nat} {ps : List Pt} (hv : Valid n ps) (ho : Ord l ps) {p q : Int} (h : goneB ps p q = true) : codeM n ps p q = 4 := by
  unfold goneB at h
  obtain ⟨t, ht, hc⟩ := List.any_eq_true.1 h
  have hs := hv.slots t ht
  simp only [Bool.and_eq_true, beq_iff_eq, Bool.not_eq_true'] at hc
  unfold codeM
  rw [if_neg (by omega)]
  cases hf : findM ps p q with
  | none => rfl
  | some j =>
    obtain ⟨l1, s, l2, he, -, h1, h2, h3⟩ := findM_some hf
    have hp := ho.pair
    rw [he, List.pairwise_append, List.pairwise_cons] at hp
    rw [he] at ht
    rcases List.mem_append.1 ht with ht | ht
    · have := hp.2.2 t ht s (List.mem_cons_self ..) (by omega); omega
    · rcases List.mem_cons.1 ht with rfl | ht
      · rw [h3] at hc; cases hc.2
      · have := hp.2.1.1 t ht (by omega); omega
/-- what freeing does -/
theorem free_refs {n l : Nat} {ps : List Pt} (hv : Valid n ps) (ho : Ord l ps) {x y : Int} (hc : codeM n ps x y = 0) :
    liveB ps x y = true ∧ 1 ≤ x ∧ x ≤ (n : Int) ∧ 1 ≤ y ∧ y ≤ (l : Int) ∧ Valid n (freeM n ps x y) ∧ Ord l (freeM n ps x y) ∧ (∀ p q, liveB (freeM n ps x y) p q = (liveB ps p q && !eqR p q x y)) ∧ (∀ p q, goneB (freeM n ps x y) p q = (goneB ps p q || eqR p q x y)) ∧ (liveM n (freeM n ps x y)).length + 1 = (liveM n ps).length := by
  have hc0 := hc
  obtain ⟨i, g, -, -, h1, h2, h3, h4, -, h5⟩ := free_some hv hc
  have hlen : (liveM n (freeM n ps x y)).length + 1 = (liveM n ps).length := by
    rw [liveM_len, liveM_len]
    refine (cnt_one (i := i) ?_ ?_ (fun m hm => ?_) n h1 h2).symm
    · unfold usedB; rw [h5, if_pos rfl]
    · unfold usedB; rw [h3]
    · unfold usedB; rw [h5, if_neg hm]
  unfold codeM at hc
  split at hc
  · cases hc
  · cases hf : findM ps x y with
    | none => rw [hf] at hc; cases hc
    | some j =>
      obtain ⟨l1, t, l2, he, hj, hx, hy, hl⟩ := findM_some hf
      have hfr : freeM n ps x y = l1 ++ { t with live := false } :: l2 := by
        unfold freeM
        rw [if_pos hc0, hf]
        simp only
        rw [he, ← hj, modify_mid]
      have hmem : t ∈ ps := by rw [he]; simp
      have hp := ho.pair
      rw [he, List.pairwise_append, List.pairwise_cons] at hp
      have hs := hv.slots t hmem
      have hg := ho.gens t hmem
      have n1 : ∀ s ∈ l1, ¬ ((s.slot : Int) = x ∧ (s.gen : Int) = y) := fun s hs ⟨a, b⟩ => by have := hp.2.2 s hs t (List.mem_cons_self ..) (by omega); omega
      have n2 : ∀ s ∈ l2, ¬ ((s.slot : Int) = x ∧ (s.gen : Int) = y) := fun s hs ⟨a, b⟩ => by have := hp.2.1.1 s hs (by omega); omega
      refine ⟨?_, by omega, by omega, by omega, by omega, h4, ?_, fun p q => ?_, fun p q => ?_, hlen⟩
      · unfold liveB
        rw [List.any_eq_true]
        exact ⟨t, hmem, by unfold isAt; rw [hx, hy, hl]; simp⟩
      · rw [hfr]
        refine ⟨?_, fun s hs => ?_⟩
        · rw [List.pairwise_append, List.pairwise_cons]
          refine ⟨hp.1, ⟨hp.2.1.1, hp.2.1.2⟩, fun a ha q hq => ?_⟩
          rcases List.mem_cons.1 hq with rfl | hq
          · exact hp.2.2 a ha t (List.mem_cons_self ..)
          · exact hp.2.2 a ha q (List.mem_cons_of_mem _ hq)
        · rcases List.mem_append.1 hs with hs | hs
          · exact ho.gens s (by rw [he]; simp [hs])
          · rcases List.mem_cons.1 hs with rfl | hs
            · exact hg
            · exact ho.gens s (by rw [he]; simp [hs])
      · rw [hfr]
        unfold liveB eqR
        rw [he, List.any_append, List.any_append, List.any_cons, List.any_cons]
        by_cases e : p = x ∧ q = y
        · obtain ⟨rfl, rfl⟩ := e
          have a1 : l1.any (isAt p q) = false := by
            rw [List.any_eq_false]; intro s hs hc
            unfold isAt at hc
            simp only [Bool.and_eq_true, beq_iff_eq] at hc
            exact n1 s hs hc.1
          have a2 : l2.any (isAt p q) = false := by
            rw [List.any_eq_false]; intro s hs hc
            unfold isAt at hc
            simp only [Bool.and_eq_true, beq_iff_eq] at hc
            exact n2 s hs hc.1
          rw [a1, a2]
          simp [isAt]
        · have b1 : (p == x && q == y) = false := by
            rw [Bool.eq_false_iff]; intro h
            simp only [Bool.and_eq_true, beq_iff_eq] at h
            exact e h
          have b2 : isAt p q t = false := by
            rw [Bool.eq_false_iff]; intro h
            unfold isAt at h
            simp only [Bool.and_eq_true, beq_iff_eq] at h
            exact e ⟨by omega, by omega⟩
          rw [b1, b2]
          simp [isAt]
      · rw [hfr]
        unfold goneB eqR
        rw [he, List.any_append, List.any_append, List.any_cons, List.any_cons]
        by_cases e : p = x ∧ q = y
        · obtain ⟨rfl, rfl⟩ := e
          simp [hx, hy]
        · have b1 : (p == x && q == y) = false := by
            rw [Bool.eq_false_iff]; intro h
            simp only [Bool.and_eq_true, beq_iff_eq] at h
            exact e h
          have b2 : ((t.slot : Int) == p && (t.gen : Int) == q) = false := by
            rw [Bool.eq_false_iff]; intro h
            simp only [Bool.and_eq_true, beq_iff_eq] at h
            exact e ⟨by omega, by omega⟩
          rw [b1, b2]
          simp
end Go.Proofs.Ytkokpbkpmhhemaa
