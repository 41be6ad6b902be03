/- One installer of layer 12's laws after another, at one memory. -/
import Derived.Test.YtaiaaljahnackaaNsCrew
import Derived.Test.YtaiaaljahnackaaMm
import Derived.Test.YtaiaaljahnackaaArAlloc
import Derived.Test.YtaiaaljahnackaaNsLst
import Derived.Test.YtaiaaljahnackaaNsHead
namespace Go.Proofs.Ytaiaaljahnackaa
open Go.RowKit

/-! ### Slots -/
theorem fold_live (m g : Nat) : ∀ (l : List Pt) (s : Nat × Bool), l.foldl (fun s p => if p.slot = m then (p.gen, p.live) else s) s = (g, true) → s = (g, true) ∨ ∃ p ∈ l, p.slot = m ∧ p.gen = g ∧ p.live = true
  | [], s, h => .inl h
  | p :: l, s, h => by
    rcases fold_live m g l _ h with e | ⟨q, hq, e⟩
    · by_cases hp : p.slot = m
      · simp only [hp, if_true, Prod.mk.injEq] at e
        exact .inr ⟨p, List.mem_cons_self .., hp, e.1, e.2⟩
      · simp only [hp, if_false] at e
        exact .inl e
    · exact .inr ⟨q, List.mem_cons_of_mem _ hq, e⟩
theorem slot_live {ps : List Pt} {m g : Nat} (h : slotOf ps m = (g, true)) : ∃ p ∈ ps, p.slot = m ∧ p.gen = g ∧ p.live = true := by
  rcases fold_live m g ps (0, false) h with e | e
  · simp at e
  · exact e
theorem code_slot {n : Nat} {ps : List Pt} {m g : Nat} (h : slotOf ps m = (g, true)) (h1 : 1 ≤ m) (h2 : m ≤ n) : codeM n ps (m : Int) (g : Int) = 0 := by
  unfold codeM
  rw [if_neg (by omega)]
  cases hf : findM ps (m : Int) (g : Int) with
  | none =>
    obtain ⟨p, hp, e1, e2, e3⟩ := slot_live h
    have h3 := findM_none hf p hp
    unfold isAt at h3
    rw [e1, e2, e3] at h3
    simp at h3
  | some j => rfl
/-- what putting does -/
theorem put_some {n l : Nat} {ps : List Pt} (d : RecD) (hv : Valid n ps) (h0 : (allocM n l ps).2.2 = 0) : ∃ m : Nat, 1 ≤ m ∧ m ≤ n ∧ (slotOf ps m).2 = false ∧ (allocM n l ps).1 = m ∧ putM n l ps d = ps ++ [⟨m, (allocM n l ps).2.1, d, true⟩] ∧ Valid n (putM n l ps d) ∧ ∀ k, slotOf (putM n l ps d) k = if k = m then ((allocM n l ps).2.1, true) else slotOf ps k := by
  rcases allocM_spec n l ps with ⟨i, h1, h2, hf, -, he, -⟩ | ⟨-, e, h3, he⟩
  · have e1 : (allocM n l ps).1 = i := by rw [he]
    have ep : putM n l ps d = ps ++ [⟨i, (allocM n l ps).2.1, d, true⟩] := by unfold putM; rw [if_pos h0, e1]
    refine ⟨i, h1, h2, hf, e1, ep, by rw [ep]; exact hv.put ⟨h1, h2⟩ hf, fun k => ?_⟩
    rw [ep, slotOf_snoc]
    by_cases e : i = k
    · rw [if_pos e, if_pos e.symm]
    · rw [if_neg e, if_neg (fun h => e h.symm)]
  · rw [he] at h0
    rcases h3 with rfl | rfl <;> cases h0
theorem put_none {n l : Nat} {ps : List Pt} (d : RecD) (h0 : (allocM n l ps).2.2 ≠ 0) : putM n l ps d = ps := by unfold putM; rw [if_neg h0]
/-! ### Pages -/
theorem take_some {L : List Pg} (h : takeE L = 0) : ∃ i : Nat, takeN L = i ∧ L[i]? = some none ∧ takeL L = L.set i (some (0, 0)) := by
  unfold takeE at h
  cases hf : firstFree L with
  | none => rw [hf] at h; cases h
  | some i =>
    obtain ⟨hl, hp, -⟩ := List.findIdx?_eq_some_iff_getElem.1 hf
    refine ⟨i, by unfold takeN; rw [hf]; rfl, ?_, by unfold takeL; rw [hf]⟩
    rw [List.getElem?_eq_getElem hl]
    cases hx : L[i] with
    | none => rfl
    | some r => rw [hx] at hp; cases hp
theorem take_none {L : List Pg} (h : takeE L ≠ 0) : takeL L = L := by
  unfold takeE at h
  cases hf : firstFree L with
  | none => unfold takeL; rw [hf]
  | some i => rw [hf] at h; exact absurd rfl h
theorem code_some {L : List Pg} {x : Nat} (h : ∃ r, L[x]? = some (some r)) : codeT L (x : Int) = 0 := by
  obtain ⟨r, h⟩ := h
  rw [codeT_at h]; rfl
theorem swap_some (L : List Pg) (x : Int) (o r : Rf) : swapL L x o r = L ∨ ∃ (i : Nat) (h : Rf), x = (i : Int) ∧ L[i]? = some (some h) ∧ swapL L x o r = L.set i (some r) := by
  unfold swapL
  split
  · next hb =>
    have hc := of_decide_eq_true ((Bool.and_eq_true _ _).mp hb).1
    rcases page_cases L x with ⟨e, -⟩ | ⟨i, -, -, e⟩ | ⟨i, h, rfl, hi, -, -⟩
    · rw [e] at hc; cases hc
    · rw [e] at hc; cases hc
    · exact .inr ⟨i, h, rfl, hi, by simp⟩
  · exact .inl rfl
/-! ### What was taken -/
structure InvO (n : Nat) (ps0 : List Pt) (L0 : List Pg) (pt tk : Nat) (rf : Nat → Rf) (pg : Nat → Int) (ps : List Pt) (L : List Pg) : Prop where
  v : Valid n ps
  own : ∀ q, q < pt → ∃ m g : Nat, rf q = ((m : Int), (g : Int)) ∧ 1 ≤ m ∧ m ≤ n ∧ slotOf ps m = (g, true) ∧ (slotOf ps0 m).2 = false
  oth : ∀ m : Nat, (∀ q, q < pt → (rf q).1 ≠ (m : Int)) → (slotOf ps m).2 = (slotOf ps0 m).2 ∧ ((slotOf ps0 m).2 = true → slotOf ps m = slotOf ps0 m)
  inj : ∀ q r, q < pt → r < pt → (rf q).1 = (rf r).1 → q = r
  len : L.length = L0.length
  pgs : ∀ q, q < tk → ∃ x : Nat, pg q = (x : Int) ∧ (∃ h, L[x]? = some (some h)) ∧ L0[x]? = some none
  pgo : ∀ x : Nat, (∀ q, q < tk → pg q ≠ (x : Int)) → (L[x]?).map Option.isSome = (L0[x]?).map Option.isSome
  pinj : ∀ q r, q < tk → r < tk → pg q = pg r → q = r
section
variable {n : Nat} {ps0 ps : List Pt} {L0 L : List Pg} {pt tk : Nat} {rf : Nat → Rf} {pg : Nat → Int}
theorem InvO.start (hv : Valid n ps0) (rf : Nat → Rf) (pg : Nat → Int) : InvO n ps0 L0 0 0 rf pg ps0 L0 :=
  ⟨hv, fun q h => absurd h (Nat.not_lt_zero q), fun m _ => ⟨rfl, fun _ => rfl⟩, fun q _ h => absurd h (Nat.not_lt_zero q), rfl, fun q h => absurd h (Nat.not_lt_zero q), fun x _ => rfl, fun q _ h => absurd h (Nat.not_lt_zero q)⟩
theorem InvO.zero (h : InvO n ps0 L0 0 0 rf pg ps L) (rf' : Nat → Rf) (pg' : Nat → Int) : InvO n ps0 L0 0 0 rf' pg' ps L :=
  ⟨h.v, fun q h => absurd h (Nat.not_lt_zero q), fun m _ => h.oth m (fun q h => absurd h (Nat.not_lt_zero q)), fun q _ h => absurd h (Nat.not_lt_zero q), h.len, fun q h => absurd h (Nat.not_lt_zero q), fun x _ => h.pgo x (fun q h => absurd h (Nat.not_lt_zero q)), fun q _ h => absurd h (Nat.not_lt_zero q)⟩
theorem InvO.take (h : InvO n ps0 L0 pt tk rf pg ps L) (h0 : takeE L = 0) : InvO n ps0 L0 pt (tk + 1) rf (upd pg tk (takeN L : Int)) ps (takeL L) := by
  obtain ⟨i, e, hi, eL⟩ := take_some h0
  rw [e, eL]
  have nw : ∀ q, q < tk → pg q ≠ (i : Int) := fun q hq e2 => by
    obtain ⟨x, e3, ⟨r, hr⟩, -⟩ := h.pgs q hq
    have : x = i := by rw [e3] at e2; omega
    subst this
    rw [hi] at hr; cases hr
  have hlt := (List.getElem?_eq_some_iff.1 hi).1
  refine ⟨h.v, h.own, h.oth, h.inj, by rw [List.length_set]; exact h.len, fun q hq => ?_, fun x hx => ?_, fun q r hq hr e2 => ?_⟩
  · by_cases eq : q = tk
    · subst eq
      rw [upd_at]
      refine ⟨i, rfl, ⟨_, by rw [List.getElem?_set_self hlt]⟩, ?_⟩
      have h2 := h.pgo i nw
      rw [hi] at h2
      cases h3 : L0[i]? with
      | none => rw [h3] at h2; cases h2
      | some p => rw [h3] at h2; cases p with
        | none => rfl
        | some r => cases h2
    · rw [upd_ne _ _ eq]
      obtain ⟨x, e3, hr, h3⟩ := h.pgs q (by omega)
      refine ⟨x, e3, ?_, h3⟩
      rw [List.getElem?_set_ne (fun e4 => nw q (by omega) (by rw [e3, e4]))]
      exact hr
  · have hxi : i ≠ x := fun e4 => hx tk (by omega) (by rw [upd_at, e4])
    rw [List.getElem?_set_ne hxi]
    exact h.pgo x (fun q hq => by have := hx q (by omega); rw [upd_ne _ _ (by omega)] at this; exact this)
  · by_cases eq : q = tk <;> by_cases er : r = tk
    · rw [eq, er]
    · rw [eq, upd_at, upd_ne _ _ er] at e2
      exact absurd e2.symm (nw r (by omega))
    · rw [er, upd_at, upd_ne _ _ eq] at e2
      exact absurd e2 (nw q (by omega))
    · rw [upd_ne _ _ eq, upd_ne _ _ er] at e2
      exact h.pinj q r (by omega) (by omega) e2
theorem InvO.put (h : InvO n ps0 L0 pt tk rf pg ps L) {l : Nat} (d : RecD) (h0 : (allocM n l ps).2.2 = 0) : InvO n ps0 L0 (pt + 1) tk (upd rf pt (((allocM n l ps).1 : Int), ((allocM n l ps).2.1 : Int))) pg (putM n l ps d) L := by
  obtain ⟨m, h1, h2, hf, em, -, hv, hs⟩ := put_some d h.v h0
  rw [em]
  have nw : ∀ q, q < pt → (rf q).1 ≠ (m : Int) := fun q hq e2 => by
    obtain ⟨x, g, e3, -, -, hx, -⟩ := h.own q hq
    have : x = m := by rw [e3] at e2; exact Int.ofNat.inj e2
    subst this
    rw [hx] at hf; cases hf
  refine ⟨hv, fun q hq => ?_, fun k hk => ?_, fun q r hq hr e2 => ?_, h.len, h.pgs, h.pgo, h.pinj⟩
  · by_cases eq : q = pt
    · subst eq
      rw [upd_at]
      refine ⟨m, _, rfl, h1, h2, by rw [hs, if_pos rfl], ?_⟩
      rw [← (h.oth m nw).1]; exact hf
    · rw [upd_ne _ _ eq]
      obtain ⟨x, g, e3, a1, a2, hx, h3⟩ := h.own q (by omega)
      refine ⟨x, g, e3, a1, a2, ?_, h3⟩
      rw [hs, if_neg (fun e4 => nw q (by omega) (by rw [e3, e4]))]
      exact hx
  · have hkm : k ≠ m := fun e4 => hk pt (by omega) (by rw [upd_at, e4])
    rw [hs, if_neg hkm]
    exact h.oth k (fun q hq => by have := hk q (by omega); rw [upd_ne _ _ (by omega)] at this; exact this)
  · by_cases eq : q = pt <;> by_cases er : r = pt
    · rw [eq, er]
    · rw [eq, upd_at, upd_ne _ _ er] at e2
      exact absurd e2.symm (nw r (by omega))
    · rw [er, upd_at, upd_ne _ _ eq] at e2
      exact absurd e2 (nw q (by omega))
    · rw [upd_ne _ _ eq, upd_ne _ _ er] at e2
      exact h.inj q r (by omega) (by omega) e2
theorem InvO.swap (h : InvO n ps0 L0 pt tk rf pg ps L) (x : Int) (o r : Rf) : InvO n ps0 L0 pt tk rf pg ps (swapL L x o r) := by
  rcases swap_some L x o r with e | ⟨i, hh, -, hi, e⟩
  · rw [e]; exact h
  · rw [e]
    have hlt := (List.getElem?_eq_some_iff.1 hi).1
    refine ⟨h.v, h.own, h.oth, h.inj, by rw [List.length_set]; exact h.len, fun q hq => ?_, fun y hy => ?_, h.pinj⟩
    · obtain ⟨y, e3, hr, h3⟩ := h.pgs q hq
      refine ⟨y, e3, ?_, h3⟩
      by_cases ey : i = y
      · subst ey
        exact ⟨r, by rw [List.getElem?_set_self hlt]⟩
      · rw [List.getElem?_set_ne ey]; exact hr
    · have h4 := h.pgo y hy
      by_cases ey : i = y
      · subst ey
        rw [List.getElem?_set_self hlt, ← h4, hi]
        rfl
      · rw [List.getElem?_set_ne ey]; exact h4
theorem InvO.free (h : InvO n ps0 L0 pt tk rf pg ps L) (hp : 0 < pt) : InvO n ps0 L0 (pt - 1) tk rf pg (freeM n ps (rf (pt - 1)).1 (rf (pt - 1)).2) L := by
  obtain ⟨m, g, e, h1, h2, hs, hd⟩ := h.own (pt - 1) (by omega)
  rw [e]
  obtain ⟨i, g', ei, eg, -, -, -, hv, -, hf⟩ := free_some h.v (code_slot (n := n) hs h1 h2)
  have : i = m := by omega
  subst this
  refine ⟨hv, fun q hq => ?_, fun k hk => ?_, fun q r hq hr => h.inj q r (by omega) (by omega), h.len, h.pgs, h.pgo, h.pinj⟩
  · obtain ⟨x, y, e3, a1, a2, hx, h3⟩ := h.own q (by omega)
    refine ⟨x, y, e3, a1, a2, ?_, h3⟩
    show slotOf (freeM n ps (i : Int) (g : Int)) x = _
    rw [hf, if_neg (fun e4 => by have := h.inj q (pt - 1) (by omega) (by omega) (by rw [e3, e, e4]); omega)]
    exact hx
  · show (slotOf (freeM n ps (i : Int) (g : Int)) k).2 = _ ∧ (_ → slotOf (freeM n ps (i : Int) (g : Int)) k = _)
    by_cases ek : k = i
    · subst ek
      rw [hf, if_pos rfl, hd]
      exact ⟨rfl, fun h => by cases h⟩
    · rw [hf, if_neg ek]
      refine h.oth k (fun q hq e4 => ?_)
      by_cases eq : q = pt - 1
      · rw [eq, e] at e4
        exact ek (Int.ofNat.inj e4).symm
      · exact hk q (by omega) e4
theorem InvO.give (h : InvO n ps0 L0 pt tk rf pg ps L) (hp : 0 < tk) : InvO n ps0 L0 pt (tk - 1) rf pg ps (giveL L (pg (tk - 1))) := by
  obtain ⟨x, e, hr, h0⟩ := h.pgs (tk - 1) (by omega)
  have eL : giveL L (pg (tk - 1)) = L.set x none := by
    rw [e]
    unfold giveL
    rw [if_pos (code_some hr)]
    rfl
  obtain ⟨hh, hr⟩ := hr
  have hlt := (List.getElem?_eq_some_iff.1 hr).1
  rw [eL]
  refine ⟨h.v, h.own, h.oth, h.inj, by rw [List.length_set]; exact h.len, fun q hq => ?_, fun y hy => ?_, fun q r hq hr => h.pinj q r (by omega) (by omega)⟩
  · obtain ⟨y, e3, hr2, h3⟩ := h.pgs q (by omega)
    refine ⟨y, e3, ?_, h3⟩
    rw [List.getElem?_set_ne (fun e4 => by have := h.pinj q (tk - 1) (by omega) (by omega) (by rw [e3, e, e4]); omega)]
    exact hr2
  · by_cases ey : x = y
    · subst ey
      rw [List.getElem?_set_self hlt, h0]
    · rw [List.getElem?_set_ne ey]
      refine h.pgo y (fun q hq e4 => ?_)
      by_cases eq : q = tk - 1
      · rw [eq, e] at e4
        exact ey (Int.ofNat.inj e4)
      · exact hy q (by omega) e4
/-- nothing taken any more: as it was -/
theorem InvO.live (h : InvO n ps0 L0 0 0 rf pg ps L) : liveM n ps = liveM n ps0 := by
  have ho := fun m => h.oth m (fun q h => absurd h (Nat.not_lt_zero q))
  unfold liveM
  have e1 : ((List.range n).filter fun i => (slotOf ps (i + 1)).2) = ((List.range n).filter fun i => (slotOf ps0 (i + 1)).2) := List.filter_congr fun i _ => (ho (i + 1)).1
  rw [e1]
  refine List.map_congr_left fun i hi => ?_
  have h2 := (List.mem_filter.1 hi).2
  rw [(ho (i + 1)).2 h2]
theorem page_at (L : List Pg) (i : Nat) : (pageAt L (i : Int)).isSome = ((L[i]?).map Option.isSome).getD false := by
  cases hi : L[i]? with
  | none =>
    unfold pageAt
    simp [hi]
  | some p => rw [pageAt_get hi]; rfl
theorem InvO.used (h : InvO n ps0 L0 0 0 rf pg ps L) : usedT L = usedT L0 := by
  have ho := fun x => h.pgo x (fun q h => absurd h (Nat.not_lt_zero q))
  unfold usedT usedTo
  rw [h.len]
  congr 1
  exact List.filter_congr fun i _ => by rw [page_at, page_at, ho]
end
/-! ### A step -/
theorem InvO.back {n : Nat} {ps0 ps : List Pt} {L0 L : List Pg} (j : Ins) (h : InvO n ps0 L0 j.pt j.tk j.rf j.pg ps L) : InvO n ps0 L0 (backI j).pt (backI j).tk (backI j).rf (backI j).pg ps L := by
  unfold backI
  split
  · exact h
  · next h1 =>
    split
    · exact h
    · next h2 =>
      have e1 : j.pt = 0 := by omega
      have e2 : j.tk = 0 := by omega
      rw [e1, e2] at h
      exact h.zero _ _
theorem InvO.und {n : Nat} {ps0 ps : List Pt} {L0 L : List Pg} {i j : Ins} (h : InvO n ps0 L0 i.pt i.tk i.rf i.pg ps L) (hu : Und i j) : InvO n ps0 L0 (settleI j).pt (settleI j).tk (settleI j).rf (settleI j).pg ps L := by
  obtain ⟨v, -, rfl⟩ := hu
  rw [settle_back _ (.inl rfl)]
  exact InvO.back (undoI i v) h
theorem own_step {l : LimN} {d : JbD} {ds : List RecD} {hd : RecD} {i j : Ins} {ps ps' ps0 : List Pt} {L L' L0 : List Pg} (h : AStep l d ds hd i ps L j ps' L') (hS : Shape i) (hf : i.st = 1 → i.hasF = true) (hO : InvO l.s ps0 L0 i.pt i.tk i.rf i.pg ps L) :
    InvO l.s ps0 L0 (settleI j).pt (settleI j).tk (settleI j).rf (settleI j).pg ps' L' := by
  obtain ⟨hn4, ht4, hp5, hw4, -, hsh⟩ := hS
  rcases h with ⟨hs, rfl, rfl, ⟨he, rfl⟩ | ⟨he, hu⟩⟩ | ⟨hs, rfl, rfl, rc, ⟨he, rfl⟩ | ⟨he, hu⟩⟩ | ⟨hs | hs, rfl, rfl, ⟨he, rfl⟩ | ⟨he, hu⟩⟩ | ⟨hs, rfl, rfl, ⟨-, rfl⟩ | ⟨-, hu⟩⟩ | ⟨hs, rfl, rfl, ⟨hb, rfl⟩ | ⟨hb, hu⟩⟩ | ⟨hs, rfl, rfl, rfl⟩ | ⟨hs, rfl, rfl, rfl⟩
  · obtain ⟨g1, -, -, g4⟩ : i.tk < i.news ∧ i.pt = 0 ∧ i.sw = 0 ∧ i.dn = false := by
      rcases hsh with g | g | g | g | g | g | g | g | g <;> first | (have := g.1; omega) | exact g.2
    obtain ⟨s, e, -⟩ := settle_take i (takeN L : Int) hs g1 (hf hs)
    rw [e]
    exact hO.take he
  · rw [take_none he]; exact hO.und hu
  · obtain ⟨g1, g2, g3, g4⟩ : i.tk = i.news ∧ i.pt = 0 ∧ i.sw = 0 ∧ i.dn = false := by
      rcases hsh with g | g | g | g | g | g | g | g | g <;> first | (have := g.1; omega) | exact g.2
    by_cases hz : i.news = 0
    · have hst : (madeI i rc).st = 5 := if_pos hz
      rw [settle_fill5 (madeI i rc) _ hst (by show i.pt = i.news; omega)]
      exact hO.put _ he
    · have hst : (madeI i rc).st = 3 := if_neg hz
      obtain ⟨s, e, -⟩ := settle_fill3 (madeI i rc) (((allocM l.s l.c ps).1 : Int), ((allocM l.s l.c ps).2.1 : Int)) hst (by show i.pt < i.news; omega) g3
      rw [e]
      exact hO.put _ he
  · rw [put_none _ he]; exact InvO.und (i := madeI i rc) hO hu
  · obtain ⟨-, -, g2, g3, g4⟩ : i.fn = .nilFunc ∧ i.tk = i.news ∧ i.pt < i.news ∧ i.sw = 0 ∧ i.dn = false := by
      rcases hsh with g | g | g | g | g | g | g | g | g <;> first | (have := g.1; omega) | exact g.2
    obtain ⟨s, e, -⟩ := settle_fill3 i (((allocM l.s l.c ps).1 : Int), ((allocM l.s l.c ps).2.1 : Int)) hs g2 g3
    rw [e]
    exact hO.put _ he
  · rw [put_none _ he]; exact hO.und hu
  · obtain ⟨-, -, g2, -, g4⟩ : i.fn = .nilFunc ∧ i.tk = i.news ∧ i.pt = i.news ∧ i.sw = i.news ∧ i.dn = false := by
      rcases hsh with g | g | g | g | g | g | g | g | g <;> first | (have := g.1; omega) | exact g.2
    rw [settle_fill5 i _ hs g2]
    exact hO.put _ he
  · rw [put_none _ he]; exact hO.und hu
  · obtain ⟨-, g1, g2, g3, g4⟩ : i.fn = .nilFunc ∧ i.tk = i.news ∧ i.pt = i.news ∧ i.sw < i.news ∧ i.dn = false := by
      rcases hsh with g | g | g | g | g | g | g | g | g <;> first | (have := g.1; omega) | exact g.2
    obtain ⟨s, e, -⟩ := settle_swap4 i hs g3 g2
    rw [e]
    exact hO.swap _ _ _
  · exact (hO.swap _ _ _).und hu
  · rw [settle_succ]
    exact hO.swap _ _ _
  · exact (hO.swap _ _ _).und hu
  · obtain ⟨-, g1, g2⟩ : i.fn = .nilFunc ∧ 0 < i.pt ∧ i.dn = false := by
      rcases hsh with g | g | g | g | g | g | g | g | g <;> first | (have := g.1; omega) | exact g.2
    rw [settle_back { i with pt := i.pt - 1 } (.inl hs)]
    exact InvO.back { i with pt := i.pt - 1 } (hO.free g1)
  · obtain ⟨-, g1, g2, g3⟩ : i.fn = .nilFunc ∧ i.pt = 0 ∧ 0 < i.tk ∧ i.dn = false := by
      rcases hsh with g | g | g | g | g | g | g | g | g <;> first | (have := g.1; omega) | exact g.2
    rw [settle_back { i with tk := i.tk - 1 } (.inr ⟨hs, g1⟩)]
    exact InvO.back { i with tk := i.tk - 1 } (hO.give g2)
theorem run_own {l : LimN} {d : JbD} {ds : List RecD} {hd : RecD} {i i' : Ins} {ps ps' ps0 : List Pt} {L L' L0 : List Pg} (h : Run l d ds hd i ps L i' ps' L') (hO : InvO l.s ps0 L0 i.pt i.tk i.rf i.pg ps L) : InvO l.s ps0 L0 i'.pt i'.tk i'.rf i'.pg ps' L' := by
  induction h with
  | none => exact hO
  | more _ hs h0 hf ha ih => exact own_step ha hs hf ih
theorem back_zero (j : Ins) : (backI j).st = 0 → (backI j).pt = 0 ∧ (backI j).tk = 0 := by
  unfold backI
  split
  · intro h; have h7 : (7 : Nat) = 0 := h; omega
  · split
    · intro h; have h7 : (8 : Nat) = 0 := h; omega
    · intro _; exact ⟨rfl, rfl⟩
/-- over and not done: nothing is held any more -/
def Emp (i : Ins) : Prop := i.st = 0 → i.dn = false → i.pt = 0 ∧ i.tk = 0
theorem emp_und {i j : Ins} (hu : Und i j) : Emp (settleI j) := by
  obtain ⟨v, -, rfl⟩ := hu
  rw [settle_back _ (.inl rfl)]
  exact fun h _ => back_zero _ h
theorem emp_step {l : LimN} {d : JbD} {ds : List RecD} {hd : RecD} {i j : Ins} {ps ps' : List Pt} {L L' : List Pg} (h : AStep l d ds hd i ps L j ps' L') (hS : Shape i) (hf : i.st = 1 → i.hasF = true) : Emp (settleI j) := by
  obtain ⟨hn4, ht4, hp5, hw4, -, hsh⟩ := hS
  rcases h with ⟨hs, rfl, rfl, ⟨he, rfl⟩ | ⟨he, hu⟩⟩ | ⟨hs, rfl, rfl, rc, ⟨he, rfl⟩ | ⟨he, hu⟩⟩ | ⟨hs | hs, rfl, rfl, ⟨he, rfl⟩ | ⟨he, hu⟩⟩ | ⟨hs, rfl, rfl, ⟨-, rfl⟩ | ⟨-, hu⟩⟩ | ⟨hs, rfl, rfl, ⟨hb, rfl⟩ | ⟨hb, hu⟩⟩ | ⟨hs, rfl, rfl, rfl⟩ | ⟨hs, rfl, rfl, rfl⟩
  · obtain ⟨g1, -, -, g4⟩ : i.tk < i.news ∧ i.pt = 0 ∧ i.sw = 0 ∧ i.dn = false := by
      rcases hsh with g | g | g | g | g | g | g | g | g <;> first | (have := g.1; omega) | exact g.2
    obtain ⟨s, e, h2⟩ := settle_take i (takeN L : Int) hs g1 (hf hs)
    rw [e]
    exact fun h _ => by have h3 : s = 0 := h; omega
  · exact emp_und hu
  · obtain ⟨g1, g2, g3, g4⟩ : i.tk = i.news ∧ i.pt = 0 ∧ i.sw = 0 ∧ i.dn = false := by
      rcases hsh with g | g | g | g | g | g | g | g | g <;> first | (have := g.1; omega) | exact g.2
    by_cases hz : i.news = 0
    · have hst : (madeI i rc).st = 5 := if_pos hz
      rw [settle_fill5 (madeI i rc) _ hst (by show i.pt = i.news; omega)]
      exact fun h _ => by have h7 : (6 : Nat) = 0 := h; omega
    · have hst : (madeI i rc).st = 3 := if_neg hz
      obtain ⟨s, e, h2⟩ := settle_fill3 (madeI i rc) (((allocM l.s l.c ps).1 : Int), ((allocM l.s l.c ps).2.1 : Int)) hst (by show i.pt < i.news; omega) g3
      rw [e]
      exact fun h _ => by have h3 : s = 0 := h; omega
  · exact emp_und hu
  · obtain ⟨-, -, g2, g3, g4⟩ : i.fn = .nilFunc ∧ i.tk = i.news ∧ i.pt < i.news ∧ i.sw = 0 ∧ i.dn = false := by
      rcases hsh with g | g | g | g | g | g | g | g | g <;> first | (have := g.1; omega) | exact g.2
    obtain ⟨s, e, h2⟩ := settle_fill3 i (((allocM l.s l.c ps).1 : Int), ((allocM l.s l.c ps).2.1 : Int)) hs g2 g3
    rw [e]
    exact fun h _ => by have h3 : s = 0 := h; omega
  · exact emp_und hu
  · obtain ⟨-, -, g2, -, g4⟩ : i.fn = .nilFunc ∧ i.tk = i.news ∧ i.pt = i.news ∧ i.sw = i.news ∧ i.dn = false := by
      rcases hsh with g | g | g | g | g | g | g | g | g <;> first | (have := g.1; omega) | exact g.2
    rw [settle_fill5 i _ hs g2]
    exact fun h _ => by have h7 : (6 : Nat) = 0 := h; omega
  · exact emp_und hu
  · obtain ⟨-, g1, g2, g3, g4⟩ : i.fn = .nilFunc ∧ i.tk = i.news ∧ i.pt = i.news ∧ i.sw < i.news ∧ i.dn = false := by
      rcases hsh with g | g | g | g | g | g | g | g | g <;> first | (have := g.1; omega) | exact g.2
    obtain ⟨s, e, h2⟩ := settle_swap4 i hs g3 g2
    rw [e]
    exact fun h _ => by have h3 : s = 0 := h; omega
  · exact emp_und hu
  · rw [settle_succ]
    exact fun _ h => by cases h
  · exact emp_und hu
  · rw [settle_back { i with pt := i.pt - 1 } (.inl hs)]
    exact fun h _ => back_zero _ h
  · obtain ⟨-, g1, g2, g3⟩ : i.fn = .nilFunc ∧ i.pt = 0 ∧ 0 < i.tk ∧ i.dn = false := by
      rcases hsh with g | g | g | g | g | g | g | g | g <;> first | (have := g.1; omega) | exact g.2
    rw [settle_back { i with tk := i.tk - 1 } (.inr ⟨hs, g1⟩)]
    exact fun h _ => back_zero _ h
theorem run_emp {l : LimN} {d : JbD} {ds : List RecD} {hd : RecD} {i i' : Ins} {ps ps' : List Pt} {L L' : List Pg} (h : Run l d ds hd i ps L i' ps' L') (hE : Emp i) : Emp i' := by
  cases h with
  | none => exact hE
  | more _ hs h0 hf ha => exact emp_step ha hs hf
/-- a run from the start that ended and is not done leaves live slots and used pages as they were -/
theorem run_none {l : LimN} {d : JbD} {ds : List RecD} {hd : RecD} {i i' : Ins} {ps ps' : List Pt} {L L' : List Pg} (h : Run l d ds hd i ps L i' ps' L') (hv : Valid l.s ps) (h0 : i.pt = 0 ∧ i.tk = 0) (hs : i'.st = 0) (hd : i'.dn = false) : liveM l.s ps' = liveM l.s ps ∧ usedT L' = usedT L ∧ Valid l.s ps' := by
  have hO : InvO l.s ps L i.pt i.tk i.rf i.pg ps L := by rw [h0.1, h0.2]; exact InvO.start hv _ _
  have h1 := run_own h hO
  obtain ⟨e1, e2⟩ := run_emp h (fun _ _ => h0) hs hd
  rw [e1, e2] at h1
  exact ⟨h1.live, h1.used, h1.v⟩
theorem run_valid {l : LimN} {d : JbD} {ds : List RecD} {hd : RecD} {i i' : Ins} {ps ps' : List Pt} {L L' : List Pg} (h : Run l d ds hd i ps L i' ps' L') (hv : Valid l.s ps) (h0 : i.pt = 0 ∧ i.tk = 0) : Valid l.s ps' := by
  have hO : InvO l.s ps L i.pt i.tk i.rf i.pg ps L := by rw [h0.1, h0.2]; exact InvO.start hv _ _
  exact (run_own h hO).v

open Go.RowKit

/-- how many of the slots 1 to k are free and not worn -/
def leftTo (l : Nat) (ps : List Pt) (k : Nat) : Nat := cnt k (fun m => !(slotOf ps m).2 && decide ((slotOf ps m).1 < l))
theorem cnt_le (P : Nat → Bool) : ∀ k, cnt k P ≤ k
  | 0 => Nat.le_refl _
  | k + 1 => by have := cnt_le P k; rw [cnt_succ]; split <;> omega
open Go.RowKit

/-- the live refs of the slots 1 to k -/
def liveTo (ps : List Pt) (k : Nat) : List Rf := liveM k ps
theorem liveTo_succ (ps : List Pt) (k : Nat) : liveTo ps (k + 1) = liveTo ps k ++ (if (slotOf ps (k + 1)).2 then [(((k : Int) + 1), ((slotOf ps (k + 1)).1 : Int))] else []) := by
  unfold liveTo liveM
  rw [List.range_succ, List.filter_append, List.map_append]
  congr 1
  rw [List.filter_cons]
  cases (slotOf ps (k + 1)).2 <;> simp
theorem liveTo_len (ps : List Pt) (k : Nat) : (liveTo ps k).length ≤ k := by
  unfold liveTo; rw [liveM_len]; exact cnt_le _ _
set_option maxRecDepth 100000 in
set_option maxHeartbeats 4000000 in
theorem live_any (a : Addr) (S : Nat → Prop) (n l : Nat) (ps : List Pt) (w : World) (h : ArInv w a S n l ps) :
    Calls Try.prog 48 #[.pointer (some a)] w fun ev w' => ∃ v', ev = .returned v' ∧ OwnS lRef w.heap.size w' v' (liveM n ps) ∧ Below w.heap.size w w' := by
  obtain ⟨ab, sb, ss, rfl, I0⟩ := h
  have a0 : w.cell? ⟨ab, 0, none⟩ = some (.slice (some ⟨sb, 0, none⟩) n n) := blk_cell I0.blkA 0
  have hn := okN_of I0.ok
  have I := Lib.hid I0
  clear I0
  go_enter Try.func48, Try.ntmps48
  go_wp2
  go_loopg [3, 13] n (fun r y i wr => ∃ (k : Nat), k + r = n ∧ i = .int .i64 k ∧ OwnS lRef w.heap.size wr y (liveTo ps k) ∧ Below w.heap.size w wr)
  case atStart => exact ⟨0, by omega, rfl, OwnS.nil _ _ _, Below.refl _ _⟩
  case round =>
    obtain ⟨k, hk, rfl, hO, hB⟩ := hrel
    have A := Lib.hid (show Below w.heap.size w wr ∧ k + gk = n from ⟨hB, hk⟩)
    have O := Lib.hid hO
    have I1 := Lib.hid (I.out.low hB)
    clear hB a0 hO
    by_cases hlt : k < n
    · obtain ⟨p, g1, g2, g3⟩ := I1.out.slot hlt
      have X := Lib.hid g3
      have x0 := g3.c0
      have x1 := g3.c1
      have x2 := g3.c2
      have j3 : (0 : Int) ≤ (k : Int) := by omega
      have j4 : (k : Int) < (n : Int) := by omega
      cases hst : (stOf ps (k + 1)).2 with
      | some d =>
        rw [hst] at g2
        obtain ⟨q, rfl, -⟩ := g2
        have T := Lib.hid (show liveTo ps (k + 1) = liveTo ps k ++ [((k : Int) + 1, ((stOf ps (k + 1)).1 : Int))] by rw [liveTo_succ, slot_st, hst]; rfl)
        obtain ⟨g, hgg⟩ : ∃ g, (stOf ps (k + 1)).1 = g := ⟨_, rfl⟩
        rw [hgg] at x1 T
        have ba := alloc_below0 wr (.cells #[.int .i64 ((k : Int) + 1), .int .i64 (g : Int), .pointer (some ⟨q, 0, none⟩)] 107)
        have bb := alloc_below0 (wr.alloc (.cells #[.int .i64 ((k : Int) + 1), .int .i64 (g : Int), .pointer (some ⟨q, 0, none⟩)] 107)) (.cells #[.int .i64 ((k : Int) + 1), .int .i64 (g : Int)] 34)
        have BA := Lib.hid (A.out.1.trans ((ba.trans (bb.mono ba.size)).mono A.out.1.size))
        have O2 := Lib.hid ((O.out.below ba).below bb)
        have SR := Lib.hid (OwnS.lit lRef w.heap.size (wr.alloc (.cells #[.int .i64 ((k : Int) + 1), .int .i64 (g : Int), .pointer (some ⟨q, 0, none⟩)] 107)) (wr.heap.size + 1) (by simp) [((k : Int) + 1, (g : Int))] (by have := A.out.1.size; omega) (by simp [maxLen])).sv
        have LN := Lib.hid (liveTo_len ps k)
        clear hst g1 g3 hgg X ba bb
        go_wp2_with (refine wpList_appS lRef 66 Try.underlying66 lRef_known (by decide) (by decide) rfl (.tmp 20) (.tmp 23) rfl w.heap.size rfl rfl O2.out SR (by have := LN.out; simp; omega) (by have := BA.out.size; exact this) ?_; intro v2 w2 ho2 hg2)
        go_roundg (n - (k + 1))
        case measure => have := A.out.2; omega
        case rel => exact ⟨k + 1, by omega, by go_num, by rw [T.out]; exact ho2, BA.out.trans ((Kept.of_grown hg2).below (fun j hj => (O2.out.bounds j hj.symm).1) BA.out.size)⟩
      | none =>
        rw [hst] at g2
        obtain rfl : p = none := g2
        have T := Lib.hid (show liveTo ps (k + 1) = liveTo ps k by rw [liveTo_succ, slot_st, hst]; simp)
        obtain ⟨g, hgg⟩ : ∃ g, (stOf ps (k + 1)).1 = g := ⟨_, rfl⟩
        rw [hgg] at x1
        have ba := alloc_below0 wr (.cells #[.int .i64 ((k : Int) + 1), .int .i64 (g : Int), .pointer none] 107)
        have BA := Lib.hid (A.out.1.trans (ba.mono A.out.1.size))
        have O2 := Lib.hid (O.out.below ba)
        clear hst g1 g3 hgg X ba
        go_wp2
        go_roundg (n - (k + 1))
        case measure => have := A.out.2; omega
        case rel => exact ⟨k + 1, by omega, by go_num, by rw [T.out]; exact O2.out, BA.out⟩
    · obtain rfl : k = n := by omega
      go_wp2
      go_ret
      exact ⟨_, rfl, O.out, A.out.1⟩

open Go.RowKit

/-- a memory, a counter, and what belongs to them -/
structure One (w0 w : World) (T : Nat → Prop) (cl : Nat) (m : MB) (S : Nat → Prop) (l : LimN) (ps : List Pt) (L : List Pg) (c : Ck) : Prop where
  mem : ∃ k, MemAt w m S l k ps L c
  base : AgB w0 w T cl m S
section
variable {w0 w w' : World} {T : Nat → Prop} {cl : Nat} {m : MB} {S : Nat → Prop} {l : LimN} {ps : List Pt} {L : List Pg} {c : Ck}
theorem One.low (h : One w0 w T cl m S l ps L c) (hb : Below w.heap.size w w') : One w0 w' T cl m S l ps L c := by
  obtain ⟨k, hM⟩ := h.mem
  have hv : Beside w w' T T (fun _ => False) cl m S := ⟨Kept.of_below hb, fun _ q => q.elim, fun _ q => q.elim, id, fun _ q => q, fun _ q => .inl q, fun x q => Nat.lt_of_lt_of_le (h.base.tin x q).2 hb.size⟩
  exact ⟨⟨k, hM.low hb⟩, h.base.move hv⟩
theorem One.access (h : One w0 w T cl m S l ps L c) {k : Int} (hM : MemAt w' m S l k ps L c) (hk : Kept (MS m S) w w') : One w0 w' T cl m S l ps L c :=
  ⟨⟨k, hM⟩, h.base.below.trans (hk.below (n := w0.heap.size) (fun x q => (h.base.tin x (h.base.tm x q)).1) h.base.below.size), h.base.ctr.kept hk h.base.nc, fun x q => ⟨(h.base.tin x q).1, Nat.lt_of_lt_of_le (h.base.tin x q).2 hk.size⟩, h.base.tm, h.base.tc, h.base.nc⟩
/-- a block of what was not there, or of what is not theirs -/
theorem One.not (h : One w0 w T cl m S l ps L c) {b : Nat} (hb : w.heap.size ≤ b) : ¬ T b := fun q => by have := (h.base.tin b q).2; omega
end
/-- behind Begin, for a job of the laws' at page 0's first head -/
def BegP (w : World) (d : JbD) (ds : List RecD) (hd : RecD) (jb cb cl : Nat) (ev : Ending) (w' : World) : Prop := ∃ (b : Nat) (i : Ins), ev = .returned (.pointer (some ⟨b, 0, none⟩)) ∧ w.heap.size ≤ b ∧ b < w'.heap.size ∧ Below w.heap.size w w' ∧ InvF i ∧ i.dn = false ∧ (i.pt = 0 ∧ i.tk = 0 ∧ i.sw = 0 ∧ (i.st = 0 ∨ ((i.news : Int) = d.news ∧ (i.st = 1 ∨ i.st = 2)))) ∧ ∀ T : Nat → Prop, ¬ T jb → ¬ T cb → AgI w' T b i d ds hd jb cb cl
theorem begin_one (d : JbD) (ds : List RecD) (hd : RecD) (jb cb cl : Nat) (w : World) (hj : w.heap[jb]? = some (.cells d.cells.toArray 46 (0, 0))) (hc : w.heap[cb]? = some (.cells #[.pointer (some ⟨cl, 0, none⟩)] 53 (0, 0))) :
    Calls Try.prog 10 #[jobV 0 1 1 d.news (.func (.func 35) #[] #[.pointer (some ⟨cb, 0, none⟩), .pointer (some ⟨jb, 0, none⟩)])] w (BegP w d ds hd jb cb cl) := by
  by_cases h : 0 ≤ d.news ∧ d.news ≤ 4
  · obtain ⟨n, hn⟩ : ∃ n : Nat, d.news = (n : Int) := ⟨d.news.toNat, by omega⟩
    have h4 : n ≤ 4 := by omega
    have hb : (settleI (beginI 0 1 1 n (.func (.func 35) #[] #[.pointer (some ⟨cb, 0, none⟩), .pointer (some ⟨jb, 0, none⟩)]))).pt = 0 ∧ (settleI (beginI 0 1 1 n (.func (.func 35) #[] #[.pointer (some ⟨cb, 0, none⟩), .pointer (some ⟨jb, 0, none⟩)]))).tk = 0 ∧ (settleI (beginI 0 1 1 n (.func (.func 35) #[] #[.pointer (some ⟨cb, 0, none⟩), .pointer (some ⟨jb, 0, none⟩)]))).sw = 0 ∧ ((settleI (beginI 0 1 1 n (.func (.func 35) #[] #[.pointer (some ⟨cb, 0, none⟩), .pointer (some ⟨jb, 0, none⟩)]))).st = 0 ∨ (((settleI (beginI 0 1 1 n (.func (.func 35) #[] #[.pointer (some ⟨cb, 0, none⟩), .pointer (some ⟨jb, 0, none⟩)]))).news : Int) = d.news ∧ ((settleI (beginI 0 1 1 n (.func (.func 35) #[] #[.pointer (some ⟨cb, 0, none⟩), .pointer (some ⟨jb, 0, none⟩)]))).st = 1 ∨ (settleI (beginI 0 1 1 n (.func (.func 35) #[] #[.pointer (some ⟨cb, 0, none⟩), .pointer (some ⟨jb, 0, none⟩)]))).st = 2))) := by
      rw [hn]
      by_cases hz : n = 0
      · subst hz
        rw [settle_begin0]
        exact ⟨rfl, rfl, rfl, .inr ⟨rfl, .inr rfl⟩⟩
      · rw [settle_beginN _ _ _ n (by omega)]
        exact ⟨rfl, rfl, rfl, .inr ⟨rfl, .inl rfl⟩⟩
    obtain ⟨-, hF, hd0⟩ := begun_shape 0 1 1 n h4 (.func 35) #[] #[.pointer (some ⟨cb, 0, none⟩), .pointer (some ⟨jb, 0, none⟩)]
    have fb := begin_y 0 1 1 n (.func 35) #[] #[.pointer (some ⟨cb, 0, none⟩), .pointer (some ⟨jb, 0, none⟩)] h4 w
    rw [← hn] at fb
    refine fb.mono ?_
    rintro ev w' ⟨b, rfl, hI, hbb, hs⟩
    exact ⟨b, _, rfl, hbb, (Array.getElem?_eq_some_iff.1 hI.blk).1, hs, hF, hd0, hb, fun T nj nc => AgI.begun h4 hI (blk_step hj hs) (blk_step hc hs) nj nc⟩
  · refine (begin_o 0 1 1 d.news _ _ _ (by omega) w).mono ?_
    rintro ev w' ⟨b, rfl, hI, hb, hs⟩
    exact ⟨b, _, rfl, hb, (Array.getElem?_eq_some_iff.1 hI.blk).1, hs, InvF.wrong, rfl, ⟨rfl, rfl, rfl, .inl rfl⟩, fun T _ _ => AgI.wrong hI⟩
section
variable {w0 w w' : World} {T : Nat → Prop} {cl : Nat} {m : MB} {S : Nat → Prop} {l : LimN} {ps : List Pt} {L : List Pg} {c : Ck}
/-- an installer that began is ready to go -/
theorem One.ready (h : One w0 w T cl m S l ps L c) {d : JbD} {bs : List RcL} {ds : List RecD} {hd : RecD} {jb cb b : Nat} {i : Ins} (hJ : JobR w0 d bs ds hd) (hs : Below w.heap.size w w') (h1 : w.heap.size ≤ b) (h2 : b < w'.heap.size) (nj : jb < b ∧ ¬ T jb) (nc : cb < b ∧ ¬ T cb) (hA : ∀ T : Nat → Prop, ¬ T jb → ¬ T cb → AgI w' T b i d ds hd jb cb cl) :
    One w0 w' (fun x => T x ∨ x = b) cl m S l ps L c ∧ AgI w' (fun x => T x ∨ x = b) b i d ds hd jb cb cl ∧ AgW w0 w' (fun x => T x ∨ x = b) b d bs ds hd cl m S := by
  obtain ⟨k, hM⟩ := h.mem
  have hB := h.base.join hs h1 h2
  exact ⟨⟨⟨k, hM.low hs⟩, hB⟩, hA _ (fun q => q.elim nj.2 (fun e => by omega)) (fun q => q.elim nc.2 (fun e => by omega)), hB.around hJ (.inr rfl) (fun q => by have := hM.lt _ q; omega) (fun e => by have := (h.base.tin cl h.base.tc).2; omega)⟩
/-- behind its run -/
theorem One.after {d : JbD} {bs : List RcL} {ds : List RecD} {hd : RecD} {jb cb b : Nat} {i i' : Ins} (h : RunAt w0 w T b i d bs ds hd jb cb cl m S l ps L c i' w') (hm : ∀ x, MS m S x → T x) (hb : T b) (hc : T cl) :
    ∃ S' ps' L', One w0 w' (fun x => T x ∨ MS m S' x) cl m S' l ps' L' c ∧ Run l d ds hd i ps L i' ps' L' ∧ InsAt w' b i' ∧ Kept T w w' ∧ (∀ x, MS m S' x → T x ∨ w.heap.size ≤ x) := by
  obtain ⟨S', k', ps', L', hR, hM, hA, hW, hk, hS⟩ := h
  exact ⟨S', ps', L', ⟨⟨k', hM⟩, hW.base⟩, hR, hA.lies, hk.wide (fun x _ q => q.elim (fun q => q.elim (hm x) (fun e => e ▸ hb)) (fun e => e ▸ hc)), fun x q => (hS x q).imp (hm x) id⟩
end
/-- a store into one and the same block, at two worlds alike below -/
theorem below_both {n : Nat} {w w' : World} (h : Below n w w') (a : Addr) (u : Value) : Below n (w.setCell a u) (w'.setCell a u) :=
  ⟨h.os, h.tape, h.output, by have := h.size; simp [World.setCell]; exact this, fun k hk => by
    simp only [World.setCell]
    rw [Array.getElem?_modify, Array.getElem?_modify]
    by_cases e : a.block = k
    · rw [if_pos e, if_pos e, h.block k hk]
    · rw [if_neg e, if_neg e, h.block k hk]⟩
theorem size_setCell (w : World) (a : Addr) (u : Value) : (w.setCell a u).heap.size = w.heap.size := by simp [World.setCell]
set_option maxRecDepth 100000 in
set_option maxHeartbeats 4000000 in
theorem mLive_any (w : World) (m : MB) (S : Nat → Prop) (l : LimN) (k : Int) (ps : List Pt) (L : List Pg) (c : Ck) (h : MemAt w m S l k ps L c) :
    Calls Try.prog 19 #[.pointer (some ⟨m.mb, 0, none⟩)] w fun ev w' => ∃ v, ev = .returned v ∧ OwnS lRef w.heap.size w' v (liveM l.s ps) ∧ Below w.heap.size w w' := by
  have M0 := Lib.hid h
  have x0 := M0.out.cA
  clear h
  go_enter Try.func19, Try.ntmps19
  go_wp2_with fail
  refine (live_any m.aa S l.s l.c ps _ M0.out.ar).mono ?_
  rintro ev w1 ⟨v, rfl, ho, hs⟩
  have O1 := Lib.hid ho
  have B1 := Lib.hid hs
  clear ho hs
  go_wp2
  go_ret
  exact ⟨_, rfl, O1.out, B1.out⟩
set_option maxRecDepth 100000 in
set_option maxHeartbeats 4000000 in
theorem mPages_any (w : World) (m : MB) (S : Nat → Prop) (l : LimN) (k : Int) (ps : List Pt) (L : List Pg) (c : Ck) (h : MemAt w m S l k ps L c) :
    Calls Try.prog 20 #[.pointer (some ⟨m.mb, 0, none⟩)] w fun ev w' => ∃ v, ev = .returned v ∧ OwnS lInt w.heap.size w' v (usedT L) ∧ Below w.heap.size w w' := by
  have M0 := Lib.hid h
  have x0 := M0.out.cT
  clear h
  go_enter Try.func20, Try.ntmps20
  go_wp2_with fail
  refine (pages_any _ m.ab m.pb l.p L M0.out.tb).mono ?_
  rintro ev w1 ⟨v, rfl, ho, hs⟩
  have O1 := Lib.hid ho
  have B1 := Lib.hid hs
  clear ho hs
  go_wp2
  go_ret
  exact ⟨_, rfl, O1.out, B1.out⟩
end Go.Proofs.Ytaiaaljahnackaa
