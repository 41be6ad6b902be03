/- An installer gives back just what it took: the pure part. -/
import Derived.Test.YtaiaaljahnackaaNsCrew
namespace Go.Proofs.Ytaiaaljahnackaa
open Go.RowKit

/-! ### Slots -/
theorem fold_live (m g : Nat) : ∀ (l : List Pt) (s : Nat × Bool), l.foldl (fun s p => if p.slot = m then (p.gen, p.live) else s) s = (g, true) → s = (g, true) ∨ ∃ p ∈ l, p.slot = m ∧ p.gen = g ∧ p.live = true
  | [], s, h => .inl h
  | p :: l, s, h => by
    rcases fold_live m g l _ h with e | ⟨q, hq, e⟩
    · by_cases hp : p.slot = m
      · simp only [hp, if_true, Prod.mk.injEq] at e
        exact .inr ⟨p, List.mem_cons_self .., hp, e.1, e.2⟩
      · simp only [hp, if_false] at e
        exact .inl e
    · exact .inr ⟨q, List.mem_cons_of_mem _ hq, e⟩
theorem slot_live {ps : List Pt} {m g : Nat} (h : slotOf ps m = (g, true)) : ∃ p ∈ ps, p.slot = m ∧ p.gen = g ∧ p.live = true := by
  rcases fold_live m g ps (0, false) h with e | e
  · simp at e
  · exact e
theorem code_slot {n : Nat} {ps : List Pt} {m g : Nat} (h : slotOf ps m = (g, true)) (h1 : 1 ≤ m) (h2 : m ≤ n) : codeM n ps (m : Int) (g : Int) = 0 := by
  unfold codeM
  rw [if_neg (by omega)]
  cases hf : findM ps (m : Int) (g : Int) with
  | none =>
    obtain ⟨p, hp, e1, e2, e3⟩ := slot_live h
    have h3 := findM_none hf p hp
    unfold isAt at h3
    rw [e1, e2, e3] at h3
    simp at h3
  | some j => rfl
/-- what putting does -/
theorem put_some {n l : Nat} {ps : List Pt} (d : RecD) (hv : Valid n ps) (h0 : (allocM n l ps).2.2 = 0) : ∃ m : Nat, 1 ≤ m ∧ m ≤ n ∧ (slotOf ps m).2 = false ∧ (allocM n l ps).1 = m ∧ putM n l ps d = ps ++ [⟨m, (allocM n l ps).2.1, d, true⟩] ∧ Valid n (putM n l ps d) ∧ ∀ k, slotOf (putM n l ps d) k = if k = m then ((allocM n l ps).2.1, true) else slotOf ps k := by
  rcases allocM_spec n l ps with ⟨i, h1, h2, hf, -, he, -⟩ | ⟨-, e, h3, he⟩
  · have e1 : (allocM n l ps).1 = i := by rw [he]
    have ep : putM n l ps d = ps ++ [⟨i, (allocM n l ps).2.1, d, true⟩] := by unfold putM; rw [if_pos h0, e1]
    refine ⟨i, h1, h2, hf, e1, ep, by rw [ep]; exact hv.put ⟨h1, h2⟩ hf, fun k => ?_⟩
    rw [ep, slotOf_snoc]
    by_cases e : i = k
    · rw [if_pos e, if_pos e.symm]
    · rw [if_neg e, if_neg (fun h => e h.symm)]
  · rw [he] at h0
    rcases h3 with rfl | rfl <;> cases h0
theorem put_none {n l : Nat} {ps : List Pt} (d : RecD) (h0 : (allocM n l ps).2.2 ≠ 0) : putM n l ps d = ps := by unfold putM; rw [if_neg h0]
/-! ### Pages -/
theorem take_some {L : List Pg} (h : takeE L = 0) : ∃ i : Nat, takeN L = i ∧ L[i]? = some none ∧ takeL L = L.set i (some (0, 0)) := by
  unfold takeE at h
  cases hf : firstFree L with
  | none => rw [hf] at h; cases h
  | some i =>
    obtain ⟨hl, hp, -⟩ := List.findIdx?_eq_some_iff_getElem.1 hf
    refine ⟨i, by unfold takeN; rw [hf]; rfl, ?_, by unfold takeL; rw [hf]⟩
    rw [List.getElem?_eq_getElem hl]
    cases hx : L[i] with
    | none => rfl
    | some r => rw [hx] at hp; cases hp
theorem take_none {L : List Pg} (h : takeE L ≠ 0) : takeL L = L := by
  unfold takeE at h
  cases hf : firstFree L with
  | none => unfold takeL; rw [hf]
  | some i => rw [hf] at h; exact absurd rfl h
theorem code_some {L : List Pg} {x : Nat} (h : ∃ r, L[x]? = some (some r)) : codeT L (x : Int) = 0 := by
  obtain ⟨r, h⟩ := h
  rw [codeT_at h]; rfl
theorem swap_some (L : List Pg) (x : Int) (o r : Rf) : swapL L x o r = L ∨ ∃ (i : Nat) (h : Rf), x = (i : Int) ∧ L[i]? = some (some h) ∧ swapL L x o r = L.set i (some r) := by
  unfold swapL
  split
  · next hb =>
    have hc := of_decide_eq_true ((Bool.and_eq_true _ _).mp hb).1
    rcases page_cases L x with ⟨e, -⟩ | ⟨i, -, -, e⟩ | ⟨i, h, rfl, hi, -, -⟩
    · rw [e] at hc; cases hc
    · rw [e] at hc; cases hc
    · exact .inr ⟨i, h, rfl, hi, by simp⟩
  · exact .inl rfl
/-! ### What was taken -/
structure InvO (n : Nat) (ps0 : List Pt) (L0 : List Pg) (pt tk : Nat) (rf : Nat → Rf) (pg : Nat → Int) (ps : List Pt) (L : List Pg) : Prop where
  v : Valid n ps
  own : ∀ q, q < pt → ∃ m g : Nat, rf q = ((m : Int), (g : Int)) ∧ 1 ≤ m ∧ m ≤ n ∧ slotOf ps m = (g, true) ∧ (slotOf ps0 m).2 = false
  oth : ∀ m : Nat, (∀ q, q < pt → (rf q).1 ≠ (m : Int)) → (slotOf ps m).2 = (slotOf ps0 m).2 ∧ ((slotOf ps0 m).2 = true → slotOf ps m = slotOf ps0 m)
  inj : ∀ q r, q < pt → r < pt → (rf q).1 = (rf r).1 → q = r
  len : L.length = L0.length
  pgs : ∀ q, q < tk → ∃ x : Nat, pg q = (x : Int) ∧ (∃ h, L[x]? = some (some h)) ∧ L0[x]? = some none
  pgo : ∀ x : Nat, (∀ q, q < tk → pg q ≠ (x : Int)) → (L[x]?).map Option.isSome = (L0[x]?).map Option.isSome
  pinj : ∀ q r, q < tk → r < tk → pg q = pg r → q = r
section
variable {n : Nat} {ps0 ps : List Pt} {L0 L : List Pg} {pt tk : Nat} {rf : Nat → Rf} {pg : Nat → Int}
theorem InvO.start (hv : Valid n ps0) (rf : Nat → Rf) (pg : Nat → Int) : InvO n ps0 L0 0 0 rf pg ps0 L0 :=
  ⟨hv, fun q h => absurd h (Nat.not_lt_zero q), fun m _ => ⟨rfl, fun _ => rfl⟩, fun q _ h => absurd h (Nat.not_lt_zero q), rfl, fun q h => absurd h (Nat.not_lt_zero q), fun x _ => rfl, fun q _ h => absurd h (Nat.not_lt_zero q)⟩
theorem InvO.zero (h : InvO n ps0 L0 0 0 rf pg ps L) (rf' : Nat → Rf) (pg' : Nat → Int) : InvO n ps0 L0 0 0 rf' pg' ps L :=
  ⟨h.v, fun q h => absurd h (Nat.not_lt_zero q), fun m _ => h.oth m (fun q h => absurd h (Nat.not_lt_zero q)), fun q _ h => absurd h (Nat.not_lt_zero q), h.len, fun q h => absurd h (Nat.not_lt_zero q), fun x _ => h.pgo x (fun q h => absurd h (Nat.not_lt_zero q)), fun q _ h => absurd h (Nat.not_lt_zero q)⟩
theorem InvO.take (h : InvO n ps0 L0 pt tk rf pg ps L) (h0 : takeE L = 0) : InvO n ps0 L0 pt (tk + 1) rf (upd pg tk (takeN L : Int)) ps (takeL L) := by
  obtain ⟨i, e, hi, eL⟩ := take_some h0
  rw [e, eL]
  have nw : ∀ q, q < tk → pg q ≠ (i : Int) := fun q hq e2 => by
    obtain ⟨x, e3, ⟨r, hr⟩, -⟩ := h.pgs q hq
    have : x = i := by rw [e3] at e2; omega
    subst this
    rw [hi] at hr; cases hr
  have hlt := (List.getElem?_eq_some_iff.1 hi).1
  refine ⟨h.v, h.own, h.oth, h.inj, by rw [List.length_set]; exact h.len, fun q hq => ?_, fun x hx => ?_, fun q r hq hr e2 => ?_⟩
  · by_cases eq : q = tk
    · subst eq
      rw [upd_at]
      refine ⟨i, rfl, ⟨_, by rw [List.getElem?_set_self hlt]⟩, ?_⟩
      have h2 := h.pgo i nw
      rw [hi] at h2
      cases h3 : L0[i]? with
      | none => rw [h3] at h2; cases h2
      | some p => rw [h3] at h2; cases p with
        | none => rfl
        | some r => cases h2
    · rw [upd_ne _ _ eq]
      obtain ⟨x, e3, hr, h3⟩ := h.pgs q (by omega)
      refine ⟨x, e3, ?_, h3⟩
      rw [List.getElem?_set_ne (fun e4 => nw q (by omega) (by rw [e3, e4]))]
      exact hr
  · have hxi : i ≠ x := fun e4 => hx tk (by omega) (by rw [upd_at, e4])
    rw [List.getElem?_set_ne hxi]
    exact h.pgo x (fun q hq => by have := hx q (by omega); rw [upd_ne _ _ (by omega)] at this; exact this)
  · by_cases eq : q = tk <;> by_cases er : r = tk
    · rw [eq, er]
    · rw [eq, upd_at, upd_ne _ _ er] at e2
      exact absurd e2.symm (nw r (by omega))
    · rw [er, upd_at, upd_ne _ _ eq] at e2
      exact absurd e2 (nw q (by omega))
    · rw [upd_ne _ _ eq, upd_ne _ _ er] at e2
      exact h.pinj q r (by omega) (by omega) e2
theorem InvO.put (h : InvO n ps0 L0 pt tk rf pg ps L) {l : Nat} (d : RecD) (h0 : (allocM n l ps).2.2 = 0) : InvO n ps0 L0 (pt + 1) tk (upd rf pt (((allocM n l ps).1 : Int), ((allocM n l ps).2.1 : Int))) pg (putM n l ps d) L := by
  obtain ⟨m, h1, h2, hf, em, -, hv, hs⟩ := put_some d h.v h0
  rw [em]
  have nw : ∀ q, q < pt → (rf q).1 ≠ (m : Int) := fun q hq e2 => by
    obtain ⟨x, g, e3, -, -, hx, -⟩ := h.own q hq
    have : x = m := by rw [e3] at e2; exact Int.ofNat.inj e2
    subst this
    rw [hx] at hf; cases hf
  refine ⟨hv, fun q hq => ?_, fun k hk => ?_, fun q r hq hr e2 => ?_, h.len, h.pgs, h.pgo, h.pinj⟩
  · by_cases eq : q = pt
    · subst eq
      rw [upd_at]
      refine ⟨m, _, rfl, h1, h2, by rw [hs, if_pos rfl], ?_⟩
      rw [← (h.oth m nw).1]; exact hf
    · rw [upd_ne _ _ eq]
      obtain ⟨x, g, e3, a1, a2, hx, h3⟩ := h.own q (by omega)
      refine ⟨x, g, e3, a1, a2, ?_, h3⟩
      rw [hs, if_neg (fun e4 => nw q (by omega) (by rw [e3, e4]))]
      exact hx
  · have hkm : k ≠ m := fun e4 => hk pt (by omega) (by rw [upd_at, e4])
    rw [hs, if_neg hkm]
    exact h.oth k (fun q hq => by have := hk q (by omega); rw [upd_ne _ _ (by omega)] at this; exact this)
  · by_cases eq : q = pt <;> by_cases er : r = pt
    · rw [eq, er]
    · rw [eq, upd_at, upd_ne _ _ er] at e2
      exact absurd e2.symm (nw r (by omega))
    · rw [er, upd_at, upd_ne _ _ eq] at e2
      exact absurd e2 (nw q (by omega))
    · rw [upd_ne _ _ eq, upd_ne _ _ er] at e2
      exact h.inj q r (by omega) (by omega) e2
theorem InvO.swap (h : InvO n ps0 L0 pt tk rf pg ps L) (x : Int) (o r : Rf) : InvO n ps0 L0 pt tk rf pg ps (swapL L x o r) := by
  rcases swap_some L x o r with e | ⟨i, hh, -, hi, e⟩
  · rw [e]; exact h
  · rw [e]
    have hlt := (List.getElem?_eq_some_iff.1 hi).1
    refine ⟨h.v, h.own, h.oth, h.inj, by rw [List.length_set]; exact h.len, fun q hq => ?_, fun y hy => ?_, h.pinj⟩
    · obtain ⟨y, e3, hr, h3⟩ := h.pgs q hq
      refine ⟨y, e3, ?_, h3⟩
      by_cases ey : i = y
      · subst ey
        exact ⟨r, by rw [List.getElem?_set_self hlt]⟩
      · rw [List.getElem?_set_ne ey]; exact hr
    · have h4 := h.pgo y hy
      by_cases ey : i = y
      · subst ey
        rw [List.getElem?_set_self hlt, ← h4, hi]
        rfl
      · rw [List.getElem?_set_ne ey]; exact h4
theorem InvO.free (h : InvO n ps0 L0 pt tk rf pg ps L) (hp : 0 < pt) : InvO n ps0 L0 (pt - 1) tk rf pg (freeM n ps (rf (pt - 1)).1 (rf (pt - 1)).2) L := by
  obtain ⟨m, g, e, h1, h2, hs, hd⟩ := h.own (pt - 1) (by omega)
  rw [e]
  obtain ⟨i, g', ei, eg, -, -, -, hv, -, hf⟩ := free_some h.v (code_slot (n := n) hs h1 h2)
  have : i = m := by omega
  subst this
  refine ⟨hv, fun q hq => ?_, fun k hk => ?_, fun q r hq hr => h.inj q r (by omega) (by omega), h.len, h.pgs, h.pgo, h.pinj⟩
  · obtain ⟨x, y, e3, a1, a2, hx, h3⟩ := h.own q (by omega)
    refine ⟨x, y, e3, a1, a2, ?_, h3⟩
    show slotOf (freeM n ps (i : Int) (g : Int)) x = _
    rw [hf, if_neg (fun e4 => by have := h.inj q (pt - 1) (by omega) (by omega) (by rw [e3, e, e4]); omega)]
    exact hx
  · show (slotOf (freeM n ps (i : Int) (g : Int)) k).2 = _ ∧ (_ → slotOf (freeM n ps (i : Int) (g : Int)) k = _)
    by_cases ek : k = i
    · subst ek
      rw [hf, if_pos rfl, hd]
      exact ⟨rfl, fun h => by cases h⟩
    · rw [hf, if_neg ek]
      refine h.oth k (fun q hq e4 => ?_)
      by_cases eq : q = pt - 1
      · rw [eq, e] at e4
        exact ek (Int.ofNat.inj e4).symm
      · exact hk q (by omega) e4
theorem InvO.give (h : InvO n ps0 L0 pt tk rf pg ps L) (hp : 0 < tk) : InvO n ps0 L0 pt (tk - 1) rf pg ps (giveL L (pg (tk - 1))) := by
  obtain ⟨x, e, hr, h0⟩ := h.pgs (tk - 1) (by omega)
  have eL : giveL L (pg (tk - 1)) = L.set x none := by
    rw [e]
    unfold giveL
    rw [if_pos (code_some hr)]
    rfl
  obtain ⟨hh, hr⟩ := hr
  have hlt := (List.getElem?_eq_some_iff.1 hr).1
  rw [eL]
  refine ⟨h.v, h.own, h.oth, h.inj, by rw [List.length_set]; exact h.len, fun q hq => ?_, fun y hy => ?_, fun q r hq hr => h.pinj q r (by omega) (by omega)⟩
  · obtain ⟨y, e3, hr2, h3⟩ := h.pgs q (by omega)
    refine ⟨y, e3, ?_, h3⟩
    rw [List.getElem?_set_ne (fun e4 => by have := h.pinj q (tk - 1) (by omega) (by omega) (by rw [e3, e, e4]); omega)]
    exact hr2
  · by_cases ey : x = y
    · subst ey
      rw [List.getElem?_set_self hlt, h0]
    · rw [List.getElem?_set_ne ey]
      refine h.pgo y (fun q hq e4 => ?_)
      by_cases eq : q = tk - 1
      · rw [eq, e] at e4
        exact ey (Int.ofNat.inj e4)
      · exact hy q (by omega) e4
/-- nothing taken any more: as it was -/
theorem InvO.live (h : InvO n ps0 L0 0 0 rf pg ps L) : liveM n ps = liveM n ps0 := by
  have ho := fun m => h.oth m (fun q h => absurd h (Nat.not_lt_zero q))
  unfold liveM
  have e1 : ((List.range n).filter fun i => (slotOf ps (i + 1)).2) = ((List.range n).filter fun i => (slotOf ps0 (i + 1)).2) := List.filter_congr fun i _ => (ho (i + 1)).1
  rw [e1]
  refine List.map_congr_left fun i hi => ?_
  have h2 := (List.mem_filter.1 hi).2
  rw [(ho (i + 1)).2 h2]
theorem page_at (L : List Pg) (i : Nat) : (pageAt L (i : Int)).isSome = ((L[i]?).map Option.isSome).getD false := by
  cases hi : L[i]? with
  | none =>
    unfold pageAt
    simp [hi]
  | some p => rw [pageAt_get hi]; rfl
theorem InvO.used (h : InvO n ps0 L0 0 0 rf pg ps L) : usedT L = usedT L0 := by
  have ho := fun x => h.pgo x (fun q h => absurd h (Nat.not_lt_zero q))
  unfold usedT usedTo
  rw [h.len]
  congr 1
  exact List.filter_congr fun i _ => by rw [page_at, page_at, ho]
end
/-! ### A step -/
theorem InvO.back {n : Nat} {ps0 ps : List Pt} {L0 L : List Pg} (j : Ins) (h : InvO n ps0 L0 j.pt j.tk j.rf j.pg ps L) : InvO n ps0 L0 (backI j).pt (backI j).tk (backI j).rf (backI j).pg ps L := by
  unfold backI
  split
  · exact h
  · next h1 =>
    split
    · exact h
    · next h2 =>
      have e1 : j.pt = 0 := by omega
      have e2 : j.tk = 0 := by omega
      rw [e1, e2] at h
      exact h.zero _ _
theorem InvO.und {n : Nat} {ps0 ps : List Pt} {L0 L : List Pg} {i j : Ins} (h : InvO n ps0 L0 i.pt i.tk i.rf i.pg ps L) (hu : Und i j) : InvO n ps0 L0 (settleI j).pt (settleI j).tk (settleI j).rf (settleI j).pg ps L := by
  obtain ⟨v, -, rfl⟩ := hu
  rw [settle_back _ (.inl rfl)]
  exact InvO.back (undoI i v) h
theorem own_step {l : LimN} {d : JbD} {ds : List RecD} {hd : RecD} {i j : Ins} {ps ps' ps0 : List Pt} {L L' L0 : List Pg} (h : AStep l d ds hd i ps L j ps' L') (hS : Shape i) (hf : i.st = 1 → i.hasF = true) (hO : InvO l.s ps0 L0 i.pt i.tk i.rf i.pg ps L) :
    InvO l.s ps0 L0 (settleI j).pt (settleI j).tk (settleI j).rf (settleI j).pg ps' L' := by
  obtain ⟨hn4, ht4, hp5, hw4, -, hsh⟩ := hS
  rcases h with ⟨hs, rfl, rfl, ⟨he, rfl⟩ | ⟨he, hu⟩⟩ | ⟨hs, rfl, rfl, rc, ⟨he, rfl⟩ | ⟨he, hu⟩⟩ | ⟨hs | hs, rfl, rfl, ⟨he, rfl⟩ | ⟨he, hu⟩⟩ | ⟨hs, rfl, rfl, ⟨-, rfl⟩ | ⟨-, hu⟩⟩ | ⟨hs, rfl, rfl, ⟨hb, rfl⟩ | ⟨hb, hu⟩⟩ | ⟨hs, rfl, rfl, rfl⟩ | ⟨hs, rfl, rfl, rfl⟩
  · obtain ⟨g1, -, -, g4⟩ : i.tk < i.news ∧ i.pt = 0 ∧ i.sw = 0 ∧ i.dn = false := by
      rcases hsh with g | g | g | g | g | g | g | g | g <;> first | (have := g.1; omega) | exact g.2
    obtain ⟨s, e, -⟩ := settle_take i (takeN L : Int) hs g1 (hf hs)
    rw [e]
    exact hO.take he
  · rw [take_none he]; exact hO.und hu
  · obtain ⟨g1, g2, g3, g4⟩ : i.tk = i.news ∧ i.pt = 0 ∧ i.sw = 0 ∧ i.dn = false := by
      rcases hsh with g | g | g | g | g | g | g | g | g <;> first | (have := g.1; omega) | exact g.2
    by_cases hz : i.news = 0
    · have hst : (madeI i rc).st = 5 := if_pos hz
      rw [settle_fill5 (madeI i rc) _ hst (by show i.pt = i.news; omega)]
      exact hO.put _ he
    · have hst : (madeI i rc).st = 3 := if_neg hz
      obtain ⟨s, e, -⟩ := settle_fill3 (madeI i rc) (((allocM l.s l.c ps).1 : Int), ((allocM l.s l.c ps).2.1 : Int)) hst (by show i.pt < i.news; omega) g3
      rw [e]
      exact hO.put _ he
  · rw [put_none _ he]; exact InvO.und (i := madeI i rc) hO hu
  · obtain ⟨-, -, g2, g3, g4⟩ : i.fn = .nilFunc ∧ i.tk = i.news ∧ i.pt < i.news ∧ i.sw = 0 ∧ i.dn = false := by
      rcases hsh with g | g | g | g | g | g | g | g | g <;> first | (have := g.1; omega) | exact g.2
    obtain ⟨s, e, -⟩ := settle_fill3 i (((allocM l.s l.c ps).1 : Int), ((allocM l.s l.c ps).2.1 : Int)) hs g2 g3
    rw [e]
    exact hO.put _ he
  · rw [put_none _ he]; exact hO.und hu
  · obtain ⟨-, -, g2, -, g4⟩ : i.fn = .nilFunc ∧ i.tk = i.news ∧ i.pt = i.news ∧ i.sw = i.news ∧ i.dn = false := by
      rcases hsh with g | g | g | g | g | g | g | g | g <;> first | (have := g.1; omega) | exact g.2
    rw [settle_fill5 i _ hs g2]
    exact hO.put _ he
  · rw [put_none _ he]; exact hO.und hu
  · obtain ⟨-, g1, g2, g3, g4⟩ : i.fn = .nilFunc ∧ i.tk = i.news ∧ i.pt = i.news ∧ i.sw < i.news ∧ i.dn = false := by
      rcases hsh with g | g | g | g | g | g | g | g | g <;> first | (have := g.1; omega) | exact g.2
    obtain ⟨s, e, -⟩ := settle_swap4 i hs g3 g2
    rw [e]
    exact hO.swap _ _ _
  · exact (hO.swap _ _ _).und hu
  · rw [settle_succ]
    exact hO.swap _ _ _
  · exact (hO.swap _ _ _).und hu
  · obtain ⟨-, g1, g2⟩ : i.fn = .nilFunc ∧ 0 < i.pt ∧ i.dn = false := by
      rcases hsh with g | g | g | g | g | g | g | g | g <;> first | (have := g.1; omega) | exact g.2
    rw [settle_back { i with pt := i.pt - 1 } (.inl hs)]
    exact InvO.back { i with pt := i.pt - 1 } (hO.free g1)
  · obtain ⟨-, g1, g2, g3⟩ : i.fn = .nilFunc ∧ i.pt = 0 ∧ 0 < i.tk ∧ i.dn = false := by
      rcases hsh with g | g | g | g | g | g | g | g | g <;> first | (have := g.1; omega) | exact g.2
    rw [settle_back { i with tk := i.tk - 1 } (.inr ⟨hs, g1⟩)]
    exact InvO.back { i with tk := i.tk - 1 } (hO.give g2)
theorem run_own {l : LimN} {d : JbD} {ds : List RecD} {hd : RecD} {i i' : Ins} {ps ps' ps0 : List Pt} {L L' L0 : List Pg} (h : Run l d ds hd i ps L i' ps' L') (hO : InvO l.s ps0 L0 i.pt i.tk i.rf i.pg ps L) : InvO l.s ps0 L0 i'.pt i'.tk i'.rf i'.pg ps' L' := by
  induction h with
  | none => exact hO
  | more _ hs h0 hf ha ih => exact own_step ha hs hf ih
theorem back_zero (j : Ins) : (backI j).st = 0 → (backI j).pt = 0 ∧ (backI j).tk = 0 := by
  unfold backI
  split
  · intro h; have h7 : (7 : Nat) = 0 := h; omega
  · split
    · intro h; have h7 : (8 : Nat) = 0 := h; omega
    · intro _; exact ⟨rfl, rfl⟩
/-- over and not done: nothing is held any more -/
def Emp (i : Ins) : Prop := i.st = 0 → i.dn = false → i.pt = 0 ∧ i.tk = 0
theorem emp_und {i j : Ins} (hu : Und i j) : Emp (settleI j) := by
  obtain ⟨v, -, rfl⟩ := hu
  rw [settle_back _ (.inl rfl)]
  exact fun h _ => back_zero _ h
theorem emp_step {l : LimN} {d : JbD} {ds : List RecD} {hd : RecD} {i j : Ins} {ps ps' : List Pt} {L L' : List Pg} (h : AStep l d ds hd i ps L j ps' L') (hS : Shape i) (hf : i.st = 1 → i.hasF = true) : Emp (settleI j) := by
  obtain ⟨hn4, ht4, hp5, hw4, -, hsh⟩ := hS
  rcases h with ⟨hs, rfl, rfl, ⟨he, rfl⟩ | ⟨he, hu⟩⟩ | ⟨hs, rfl, rfl, rc, ⟨he, rfl⟩ | ⟨he, hu⟩⟩ | ⟨hs | hs, rfl, rfl, ⟨he, rfl⟩ | ⟨he, hu⟩⟩ | ⟨hs, rfl, rfl, ⟨-, rfl⟩ | ⟨-, hu⟩⟩ | ⟨hs, rfl, rfl, ⟨hb, rfl⟩ | ⟨hb, hu⟩⟩ | ⟨hs, rfl, rfl, rfl⟩ | ⟨hs, rfl, rfl, rfl⟩
  · obtain ⟨g1, -, -, g4⟩ : i.tk < i.news ∧ i.pt = 0 ∧ i.sw = 0 ∧ i.dn = false := by
      rcases hsh with g | g | g | g | g | g | g | g | g <;> first | (have := g.1; omega) | exact g.2
    obtain ⟨s, e, h2⟩ := settle_take i (takeN L : Int) hs g1 (hf hs)
    rw [e]
    exact fun h _ => by have h3 : s = 0 := h; omega
  · exact emp_und hu
  · obtain ⟨g1, g2, g3, g4⟩ : i.tk = i.news ∧ i.pt = 0 ∧ i.sw = 0 ∧ i.dn = false := by
      rcases hsh with g | g | g | g | g | g | g | g | g <;> first | (have := g.1; omega) | exact g.2
    by_cases hz : i.news = 0
    · have hst : (madeI i rc).st = 5 := if_pos hz
      rw [settle_fill5 (madeI i rc) _ hst (by show i.pt = i.news; omega)]
      exact fun h _ => by have h7 : (6 : Nat) = 0 := h; omega
    · have hst : (madeI i rc).st = 3 := if_neg hz
      obtain ⟨s, e, h2⟩ := settle_fill3 (madeI i rc) (((allocM l.s l.c ps).1 : Int), ((allocM l.s l.c ps).2.1 : Int)) hst (by show i.pt < i.news; omega) g3
      rw [e]
      exact fun h _ => by have h3 : s = 0 := h; omega
  · exact emp_und hu
  · obtain ⟨-, -, g2, g3, g4⟩ : i.fn = .nilFunc ∧ i.tk = i.news ∧ i.pt < i.news ∧ i.sw = 0 ∧ i.dn = false := by
      rcases hsh with g | g | g | g | g | g | g | g | g <;> first | (have := g.1; omega) | exact g.2
    obtain ⟨s, e, h2⟩ := settle_fill3 i (((allocM l.s l.c ps).1 : Int), ((allocM l.s l.c ps).2.1 : Int)) hs g2 g3
    rw [e]
    exact fun h _ => by have h3 : s = 0 := h; omega
  · exact emp_und hu
  · obtain ⟨-, -, g2, -, g4⟩ : i.fn = .nilFunc ∧ i.tk = i.news ∧ i.pt = i.news ∧ i.sw = i.news ∧ i.dn = false := by
      rcases hsh with g | g | g | g | g | g | g | g | g <;> first | (have := g.1; omega) | exact g.2
    rw [settle_fill5 i _ hs g2]
    exact fun h _ => by have h7 : (6 : Nat) = 0 := h; omega
  · exact emp_und hu
  · obtain ⟨-, g1, g2, g3, g4⟩ : i.fn = .nilFunc ∧ i.tk = i.news ∧ i.pt = i.news ∧ i.sw < i.news ∧ i.dn = false := by
      rcases hsh with g | g | g | g | g | g | g | g | g <;> first | (have := g.1; omega) | exact g.2
    obtain ⟨s, e, h2⟩ := settle_swap4 i hs g3 g2
    rw [e]
    exact fun h _ => by have h3 : s = 0 := h; omega
  · exact emp_und hu
  · rw [settle_succ]
    exact fun _ h => by cases h
  · exact emp_und hu
  · rw [settle_back { i with pt := i.pt - 1 } (.inl hs)]
    exact fun h _ => back_zero _ h
  · obtain ⟨-, g1, g2, g3⟩ : i.fn = .nilFunc ∧ i.pt = 0 ∧ 0 < i.tk ∧ i.dn = false := by
      rcases hsh with g | g | g | g | g | g | g | g | g <;> first | (have := g.1; omega) | exact g.2
    rw [settle_back { i with tk := i.tk - 1 } (.inr ⟨hs, g1⟩)]
    exact fun h _ => back_zero _ h
theorem run_emp {l : LimN} {d : JbD} {ds : List RecD} {hd : RecD} {i i' : Ins} {ps ps' : List Pt} {L L' : List Pg} (h : Run l d ds hd i ps L i' ps' L') (hE : Emp i) : Emp i' := by
  cases h with
  | none => exact hE
  | more _ hs h0 hf ha => exact emp_step ha hs hf
/-- a run from the start that ended and is not done leaves live slots and used pages as they were -/
theorem run_none {l : LimN} {d : JbD} {ds : List RecD} {hd : RecD} {i i' : Ins} {ps ps' : List Pt} {L L' : List Pg} (h : Run l d ds hd i ps L i' ps' L') (hv : Valid l.s ps) (h0 : i.pt = 0 ∧ i.tk = 0) (hs : i'.st = 0) (hd : i'.dn = false) : liveM l.s ps' = liveM l.s ps ∧ usedT L' = usedT L ∧ Valid l.s ps' := by
  have hO : InvO l.s ps L i.pt i.tk i.rf i.pg ps L := by rw [h0.1, h0.2]; exact InvO.start hv _ _
  have h1 := run_own h hO
  obtain ⟨e1, e2⟩ := run_emp h (fun _ _ => h0) hs hd
  rw [e1, e2] at h1
  exact ⟨h1.live, h1.used, h1.v⟩
theorem run_valid {l : LimN} {d : JbD} {ds : List RecD} {hd : RecD} {i i' : Ins} {ps ps' : List Pt} {L L' : List Pg} (h : Run l d ds hd i ps L i' ps' L') (hv : Valid l.s ps) (h0 : i.pt = 0 ∧ i.tk = 0) : Valid l.s ps' := by
  have hO : InvO l.s ps L i.pt i.tk i.rf i.pg ps L := by rw [h0.1, h0.2]; exact InvO.start hv _ _
  exact (run_own h hO).v
end Go.Proofs.Ytaiaaljahnackaa
