/- Plain: where a key's entry is, or would be, among rising entries; what the document's puts, splits, holds and drops do, by that place. -/
import Derived.Test.YtkkmfacngmginaaInGood
namespace Go.Proofs.Ytkkmfacngmginaa
open Go.RowKit

/-- is there an entry of just that key at its place? -/
def thereE (es : List En) (k : ByteArray) : Bool := decide (aheadE es k < es.length) && eqB (es.getD (aheadE es k) e0).1 k
theorem atE_place : ∀ {p : Option ByteArray} (es : List En) (k : ByteArray), risE p es = true → atE es k = if thereE es k = true then some (aheadE es k) else none
  | _, [], _, _ => rfl
  | _, e :: l, k, h => by
    obtain ⟨-, h3⟩ := risE_cons h
    have ih := atE_place l k h3
    show (if eqB e.1 k = true then some 0 else (atE l k).map (· + 1)) = _
    by_cases hb : bef e.1.data.toList k.data.toList = true
    · have a1 : aheadE (e :: l) k = aheadE l k + 1 := by
        show (if bef e.1.data.toList k.data.toList = true then _ else _) = _
        rw [if_pos hb]
      have t1 : thereE (e :: l) k = thereE l k := by
        unfold thereE
        rw [a1]
        simp
      rw [if_neg (by rw [eqB_neq (bef_ne hb)]; simp), ih, a1, t1]
      split <;> rfl
    · have a1 : aheadE (e :: l) k = 0 := by
        show (if bef e.1.data.toList k.data.toList = true then _ else _) = _
        rw [if_neg hb]
      have t1 : thereE (e :: l) k = eqB e.1 k := by
        unfold thereE
        rw [a1]
        simp
      rw [t1, a1]
      split
      · rfl
      · next he =>
        have hn : atE l k = none := by
          refine atE_none.2 fun x hx hk => ?_
          have h1 := risE_head _ _ h3 x hx
          rw [hk] at h1
          exact hb h1
        rw [hn]; rfl
theorem atE_yes {es : List En} {k : ByteArray} (h : risE none es = true) (ht : thereE es k = true) : atE es k = some (aheadE es k) := by rw [atE_place es k h, if_pos ht]
theorem atE_no {es : List En} {k : ByteArray} (h : risE none es = true) (ht : thereE es k = false) : atE es k = none := by rw [atE_place es k h, if_neg (by rw [ht]; simp)]
theorem there_has {es : List En} {k : ByteArray} (h : risE none es = true) : (atE es k).isSome = thereE es k := by
  cases ht : thereE es k with
  | true => rw [atE_yes h ht]; rfl
  | false => rw [atE_no h ht]; rfl
theorem there_key {es : List En} {k : ByteArray} (ht : thereE es k = true) : aheadE es k < es.length ∧ (es.getD (aheadE es k) e0).1 = k := by
  unfold thereE at ht
  rw [Bool.and_eq_true, decide_eq_true_eq, eqB_iff] at ht
  exact ht
theorem mem_at {es : List En} {i : Nat} (h : i < es.length) : es[i]? = some (es.getD i e0) := by rw [List.getD, List.getElem?_eq_getElem h]; rfl
/-- an entry is ahead of a key just if its place is ahead of the key's -/
theorem ahead_lt {es : List En} {k : ByteArray} (h : risE none es = true) {i : Nat} (hi : i < es.length) : bef (es.getD i e0).1.data.toList k.data.toList = decide (i < aheadE es k) := by
  obtain ⟨h1, h2⟩ := ahead_parts es k h
  by_cases hl : i < aheadE es k
  · rw [decide_eq_true hl]
    refine h1 _ ?_
    refine List.mem_of_getElem? (i := i) ?_
    rw [List.getElem?_take_of_lt hl, mem_at hi]
  · rw [decide_eq_false hl]
    refine h2 _ ?_
    refine List.mem_of_getElem? (i := i - aheadE es k) ?_
    rw [List.getElem?_drop, show aheadE es k + (i - aheadE es k) = i by omega, mem_at hi]
/-- a key's child, by its place -/
theorem childL_place : ∀ {p : Option ByteArray} (es : List En) (k : ByteArray), risE p es = true →
    childL es k = if thereE es k = true then some (es.getD (aheadE es k) e0) else if aheadE es k = 0 then none else some (es.getD (aheadE es k - 1) e0)
  | _, [], _, _ => rfl
  | _, e :: l, k, h => by
    obtain ⟨-, h3⟩ := risE_cons h
    have ih := childL_place l k h3
    show (if bef k.data.toList e.1.data.toList = true then none else some ((childL l k).getD e)) = _
    by_cases hb : bef e.1.data.toList k.data.toList = true
    · have a1 : aheadE (e :: l) k = aheadE l k + 1 := by
        show (if bef e.1.data.toList k.data.toList = true then _ else _) = _
        rw [if_pos hb]
      have t1 : thereE (e :: l) k = thereE l k := by
        unfold thereE
        rw [a1]
        simp
      rw [if_neg (by rw [bef_asymm _ _ hb]; simp), ih, a1, t1]
      simp only [List.getD_cons_succ, Nat.add_one_ne_zero, if_false, Nat.add_sub_cancel]
      cases ht : thereE l k with
      | true => rfl
      | false =>
        simp only [Bool.false_eq_true, if_false]
        by_cases hz : aheadE l k = 0
        · rw [if_pos hz, hz]; rfl
        · rw [if_neg hz]
          obtain ⟨n, hn⟩ : ∃ n, aheadE l k = n + 1 := ⟨aheadE l k - 1, by omega⟩
          rw [hn]; rfl
    · have a1 : aheadE (e :: l) k = 0 := by
        show (if bef e.1.data.toList k.data.toList = true then _ else _) = _
        rw [if_neg hb]
      have t1 : thereE (e :: l) k = eqB e.1 k := by
        unfold thereE
        rw [a1]
        simp
      have hb' : bef e.1.data.toList k.data.toList = false := by simpa using hb
      rw [t1, a1]
      by_cases he : eqB e.1 k = true
      · have hk := (eqB_iff _ _).1 he
        rw [if_pos he, if_neg (by rw [← hk, bef_irr]; simp)]
        cases l with
        | nil => rfl
        | cons x l =>
          have : bef k.data.toList x.1.data.toList = true := by rw [← hk]; exact risE_head _ _ h3 x (by simp)
          rw [childL_first x l this]; rfl
      · rw [if_neg he, if_pos rfl, if_pos (bef_of_ne hb' (fun e2 => he (by rw [e2]; exact eqB_self k)))]
/-- what a put, a split, a hold and a drop do, by the place of their key -/
theorem putI_place (v : IvD) (k : ByteArray) (p : Int) (h : risE none v.ents = true) :
    putI v k p = if thereE v.ents k = false ∧ inI v k = true then some { v with ents := v.ents.take (aheadE v.ents k) ++ (k, p) :: v.ents.drop (aheadE v.ents k) } else none := by
  unfold putI insE
  rw [atE_place _ _ h]
  cases thereE v.ents k <;> simp
theorem splitI_place (v : IvD) (k : ByteArray) (p : Int) (h : risE none v.ents = true) :
    splitI v k p = if thereE v.ents k = true ∧ aheadE v.ents k ≠ 0 then some { v with high := k, unb := false, right := p, ents := v.ents.take (aheadE v.ents k) } else none := by
  unfold splitI
  rw [atE_place _ _ h]
  cases ht : thereE v.ents k with
  | false => simp
  | true =>
    cases ha : aheadE v.ents k with
    | zero => simp
    | succ n => simp
theorem holdI_place (v : IvD) (hp hl : Int) (hk : ByteArray) (h : risE none v.ents = true) :
    holdI v hp hl hk = if thereE v.ents hk = true ∧ aheadE v.ents hk ≠ 0 ∧ (v.ents.getD (aheadE v.ents hk) e0).2 = hp ∧ (v.ents.getD (aheadE v.ents hk - 1) e0).2 = hl then some { v with held := true, hp := hp, hl := hl, hk := hk } else none := by
  unfold holdI
  rw [atE_place _ _ h]
  cases ht : thereE v.ents hk with
  | false => simp
  | true =>
    cases ha : aheadE v.ents hk with
    | zero => simp
    | succ n => simp
theorem dropI_place {v : IvD} (g : GoodI v) (hh : v.held = true) : thereE v.ents v.hk = true ∧ dropI v = some { v with ents := v.ents.take (aheadE v.ents v.hk) ++ v.ents.drop (aheadE v.ents v.hk + 1), held := false, hp := 0, hl := 0, hk := ⟨#[]⟩ } := by
  obtain ⟨n, hn, -, -⟩ := g.hold hh
  rw [atE_place _ _ g.ris] at hn
  split at hn
  · next ht =>
    refine ⟨ht, ?_⟩
    unfold dropI
    rw [atE_yes g.ris ht]
  · cases hn
theorem aheadE_le' (es : List En) (k : ByteArray) : aheadE es k ≤ es.length := aheadE_le es k
end Go.Proofs.Ytkkmfacngmginaa
