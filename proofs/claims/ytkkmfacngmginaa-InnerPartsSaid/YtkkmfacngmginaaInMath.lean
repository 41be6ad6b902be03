/- Plain: what an inner page's chain means: its view, step by step from its base; which entry a key lies below; splits, holds and drops. -/
import Derived.Test.YtkkmfacngmginaaKeyMath
import Derived.Test.YtkkmfacngmginaaLfRec
namespace Go.Proofs.Ytkkmfacngmginaa
open Go.RowKit

def e0 : En := (⟨#[]⟩, 0)
/-- a view -/
structure IvD where
  low : ByteArray
  high : ByteArray
  unb : Bool
  right : Int
  ents : List En
  held : Bool
  hp : Int
  hl : Int
  hk : ByteArray
def IvD.zero : IvD := ⟨⟨#[]⟩, ⟨#[]⟩, false, 0, [], false, 0, 0, ⟨#[]⟩⟩
def inI (v : IvD) (k : ByteArray) : Bool := inK v.low v.high v.unb k
/-- do keys rise, behind a key (or behind none)? -/
def risE : Option ByteArray → List En → Bool
  | _, [] => true
  | p, e :: l => (match p with | none => true | some q => bef q.data.toList e.1.data.toList) && risE (some e.1) l
/-- where an entry of just that key stands -/
def atE : List En → ByteArray → Option Nat
  | [], _ => none
  | e :: l, k => if eqB e.1 k = true then some 0 else (atE l k).map (· + 1)
/-- how many entries stand ahead of a key -/
def aheadE : List En → ByteArray → Nat
  | [], _ => 0
  | e :: l, k => if bef e.1.data.toList k.data.toList = true then aheadE l k + 1 else 0
def insE (es : List En) (e : En) : List En := es.take (aheadE es e.1) ++ e :: es.drop (aheadE es e.1)
/-- the last entry that is not behind a key -/
def childL : List En → ByteArray → Option En
  | [], _ => none
  | e :: l, k => if bef k.data.toList e.1.data.toList = true then none else some ((childL l k).getD e)
def firstB (es : List En) (low : ByteArray) : Bool := match es with | [] => false | e :: _ => eqB e.1 low
def soundI (v : IvD) : Bool := firstB v.ents v.low && !(v.unb && !eqB v.high ⟨#[]⟩) && risE none v.ents && v.ents.all (fun e => inI v e.1)
def baseI (r : RecD) : Option IvD :=
  if r.sc.kind = 7 ∧ soundI ⟨r.sc.low, r.sc.high, r.sc.unb, r.sc.right, r.ents, false, 0, 0, ⟨#[]⟩⟩ = true then some ⟨r.sc.low, r.sc.high, r.sc.unb, r.sc.right, r.ents, false, 0, 0, ⟨#[]⟩⟩ else none
def putI (v : IvD) (k : ByteArray) (p : Int) : Option IvD := if atE v.ents k = none ∧ inI v k = true then some { v with ents := insE v.ents (k, p) } else none
def splitI (v : IvD) (k : ByteArray) (p : Int) : Option IvD := match atE v.ents k with
  | some (n + 1) => some { v with high := k, unb := false, right := p, ents := v.ents.take (n + 1) }
  | _ => none
def holdI (v : IvD) (hp hl : Int) (hk : ByteArray) : Option IvD := match atE v.ents hk with
  | some (n + 1) => if (v.ents.getD (n + 1) e0).2 = hp ∧ (v.ents.getD n e0).2 = hl then some { v with held := true, hp := hp, hl := hl, hk := hk } else none
  | _ => none
def dropI (v : IvD) : Option IvD := match atE v.ents v.hk with
  | some n => some { v with ents := v.ents.take n ++ v.ents.drop (n + 1), held := false, hp := 0, hl := 0, hk := ⟨#[]⟩ }
  | none => none
def stepI (v : IvD) (r : RecD) : Option IvD :=
  if (v.held != decide (r.sc.kind = 11)) = true then none
  else if r.sc.kind = 8 then putI v r.sc.key r.sc.page
  else if r.sc.kind = 9 then splitI v r.sc.key r.sc.page
  else if r.sc.kind = 10 then holdI v r.sc.hp r.sc.hl r.sc.hk
  else if r.sc.kind = 11 then dropI v
  else none
/-- a chain's view, if it has one; the newest record is the first -/
def foldI : List RecD → Option IvD
  | [] => none
  | [r] => baseI r
  | r :: s :: l => (foldI (s :: l)).bind fun v => stepI v r
def innerB (r : RecD) : Bool := decide (7 ≤ r.sc.kind) && decide (r.sc.kind ≤ 11)
def codeI (l : List RecD) : Int := if l.all innerB = true then (if (foldI l).isSome = true then 0 else 10) else 9
def viewI (l : List RecD) : IvD := if l.all innerB = true then (foldI l).getD IvD.zero else IvD.zero
def childI (v : IvD) (k : ByteArray) : Option En := if inI v k = true then childL v.ents k else none
/-- the first entry behind the first one that has a page: its place -/
def pageE : List En → Int → Option Nat
  | [], _ => none
  | [_], _ => none
  | _ :: e :: l, p => if e.2 = p then some 0 else (pageE (e :: l) p).map (· + 1)
theorem foldI_cons (r : RecD) {l : List RecD} (h : l ≠ []) : foldI (r :: l) = (foldI l).bind fun v => stepI v r := by
  cases l with
  | nil => exact absurd rfl h
  | cons s l => rfl

/-! ### rising entries -/
theorem risE_cons {p : Option ByteArray} {e : En} {l : List En} (h : risE p (e :: l) = true) : (∀ q, p = some q → bef q.data.toList e.1.data.toList = true) ∧ risE (some e.1) l = true := by
  unfold risE at h
  rw [Bool.and_eq_true] at h
  refine ⟨fun q hq => ?_, h.2⟩
  subst hq
  exact h.1
theorem risE_mk {p : Option ByteArray} {e : En} {l : List En} (h2 : ∀ q, p = some q → bef q.data.toList e.1.data.toList = true) (h3 : risE (some e.1) l = true) : risE p (e :: l) = true := by
  unfold risE
  rw [h3]
  cases p with
  | none => rfl
  | some q => simp only [h2 q rfl]; rfl
theorem risE_head : ∀ (l : List En) (q : ByteArray), risE (some q) l = true → ∀ e ∈ l, bef q.data.toList e.1.data.toList = true
  | [], _, _, _, h => by cases h
  | s :: l, q, h, e, he => by
    obtain ⟨h2, h3⟩ := risE_cons h
    rcases List.mem_cons.1 he with rfl | he
    · exact h2 q rfl
    · exact bef_trans _ _ _ (h2 q rfl) (risE_head l s.1 h3 e he)
theorem risE_none : ∀ {p : Option ByteArray} {l : List En}, risE p l = true → risE none l = true
  | _, [], _ => rfl
  | _, _ :: _, h => risE_mk (fun q hq => by cases hq) (risE_cons h).2
theorem risE_some : ∀ {l : List En} {q : ByteArray}, risE none l = true → (∀ e ∈ l, bef q.data.toList e.1.data.toList = true) → risE (some q) l = true
  | [], _, _, _ => rfl
  | e :: _, q, h, hq => risE_mk (fun q' hq' => by rw [← Option.some.inj hq']; exact hq e (by simp)) (risE_cons h).2
theorem risE_left : ∀ {p : Option ByteArray} (a : List En) {b : List En}, risE p (a ++ b) = true → risE p a = true
  | _, [], _, _ => rfl
  | _, _ :: a, _, h => by
    obtain ⟨h2, h3⟩ := risE_cons h
    exact risE_mk h2 (risE_left a h3)
theorem risE_right : ∀ {p : Option ByteArray} (a : List En) {b : List En}, risE p (a ++ b) = true → risE none b = true
  | _, [], _, h => risE_none h
  | _, _ :: a, _, h => risE_right a (risE_cons h).2
theorem risE_apart : ∀ {p : Option ByteArray} (a : List En) {b : List En}, risE p (a ++ b) = true → ∀ x ∈ a, ∀ y ∈ b, bef x.1.data.toList y.1.data.toList = true
  | _, [], _, _, _, hx, _, _ => by cases hx
  | _, s :: a, b, h, x, hx, y, hy => by
    obtain ⟨_, h3⟩ := risE_cons h
    rcases List.mem_cons.1 hx with rfl | hx
    · exact risE_head _ _ h3 y (List.mem_append_right _ hy)
    · exact risE_apart a h3 x hx y hy
theorem risE_app : ∀ {p : Option ByteArray} (a : List En) {b : List En}, risE p a = true → risE none b = true → (∀ q, p = some q → ∀ y ∈ b, bef q.data.toList y.1.data.toList = true) → (∀ x ∈ a, ∀ y ∈ b, bef x.1.data.toList y.1.data.toList = true) → risE p (a ++ b) = true
  | none, [], _, _, hb, _, _ => hb
  | some q, [], _, _, hb, hq, _ => risE_some hb (hq q rfl)
  | p, x :: a, b, ha, hb, hq, hx => by
    obtain ⟨h2, h3⟩ := risE_cons ha
    rw [List.cons_append]
    refine risE_mk h2 (risE_app a h3 hb (fun q h y hy => ?_) (fun z hz => hx z (by simp [hz])))
    rw [← Option.some.inj h]
    exact hx x (by simp) y hy

/-! ### places -/
theorem atE_some : ∀ {l : List En} {k : ByteArray} {n : Nat}, atE l k = some n → n < l.length ∧ (l.getD n e0).1 = k
  | [], _, _, h => by cases h
  | e :: l, k, n, h => by
    unfold atE at h
    split at h
    · next he =>
      obtain rfl := Option.some.inj h
      exact ⟨by simp, by simpa using (eqB_iff _ _).1 he⟩
    · obtain ⟨m, hm, rfl⟩ := Option.map_eq_some_iff.1 h
      obtain ⟨h1, h2⟩ := atE_some hm
      exact ⟨by simpa using h1, by simpa using h2⟩
theorem atE_none : ∀ {l : List En} {k : ByteArray}, atE l k = none ↔ ∀ e ∈ l, e.1 ≠ k
  | [], _ => by simp [atE]
  | e :: l, k => by
    unfold atE
    split
    · next he =>
      refine ⟨fun h => (by cases h), fun h => absurd ((eqB_iff _ _).1 he) (h e (by simp))⟩
    · next he =>
      rw [Option.map_eq_none_iff, atE_none]
      have : e.1 ≠ k := fun h => he (by rw [h]; exact eqB_self k)
      simp [this]
/-- in rising entries a key stands at one place alone -/
theorem atE_at : ∀ {p : Option ByteArray} (a : List En) (e : En) (b : List En), risE p (a ++ e :: b) = true → atE (a ++ e :: b) e.1 = some a.length
  | _, [], e, b, _ => by
    show (if eqB e.1 e.1 = true then some 0 else _) = _
    rw [if_pos (eqB_self _)]; rfl
  | _, x :: a, e, b, h => by
    have hx := risE_head _ _ (risE_cons h).2 e (by simp)
    show (if eqB x.1 e.1 = true then some 0 else (atE (a ++ e :: b) e.1).map (· + 1)) = _
    rw [if_neg (by rw [eqB_neq (bef_ne hx)]; simp), atE_at a e b (risE_cons h).2]; rfl
theorem split_at {l : List En} {n : Nat} (h : n < l.length) : ∃ a e b, l = a ++ e :: b ∧ a.length = n ∧ l.getD n e0 = e ∧ l.take n = a ∧ l.drop n = e :: b ∧ l.drop (n + 1) = b := by
  refine ⟨l.take n, l[n], l.drop (n + 1), ?_, by rw [List.length_take]; omega, by simp [List.getD, h], rfl, List.drop_eq_getElem_cons h, rfl⟩
  rw [← List.drop_eq_getElem_cons h, List.take_append_drop]
theorem aheadE_le : ∀ (l : List En) (k : ByteArray), aheadE l k ≤ l.length
  | [], _ => by simp [aheadE]
  | e :: l, k => by
    unfold aheadE
    have := aheadE_le l k
    split <;> simp <;> omega
/-- in rising entries those ahead of a key stand on the one side, the others on the other -/
theorem ahead_parts : ∀ {p : Option ByteArray} (l : List En) (k : ByteArray), risE p l = true → (∀ e ∈ l.take (aheadE l k), bef e.1.data.toList k.data.toList = true) ∧ ∀ e ∈ l.drop (aheadE l k), bef e.1.data.toList k.data.toList = false
  | _, [], _, _ => by simp
  | _, x :: l, k, h => by
    obtain ⟨_, h3⟩ := risE_cons h
    unfold aheadE
    by_cases hx : bef x.1.data.toList k.data.toList = true
    · rw [if_pos hx]
      obtain ⟨i1, i2⟩ := ahead_parts l k h3
      refine ⟨fun e he => ?_, fun e he => i2 e (by simpa using he)⟩
      rw [List.take_succ_cons] at he
      rcases List.mem_cons.1 he with rfl | he
      · exact hx
      · exact i1 e he
    · rw [if_neg hx]
      refine ⟨fun e he => by simp at he, fun e he => ?_⟩
      rw [List.drop_zero] at he
      have hx' : bef x.1.data.toList k.data.toList = false := by simpa using hx
      rcases List.mem_cons.1 he with rfl | he
      · exact hx'
      · cases hek : bef e.1.data.toList k.data.toList with
        | false => rfl
        | true => exact absurd (bef_trans _ _ _ (risE_head l x.1 h3 e he) hek) hx

/-! ### children -/
theorem childL_mem : ∀ {l : List En} {k : ByteArray} {c : En}, childL l k = some c → c ∈ l ∧ bef k.data.toList c.1.data.toList = false
  | [], _, _, h => by cases h
  | e :: l, k, c, h => by
    unfold childL at h
    split at h
    · cases h
    · next he =>
      cases hl : childL l k with
      | none =>
        rw [hl] at h
        obtain rfl : e = c := Option.some.inj h
        exact ⟨by simp, by simpa using he⟩
      | some d =>
        rw [hl] at h
        obtain rfl : d = c := Option.some.inj h
        obtain ⟨h1, h2⟩ := childL_mem hl
        exact ⟨by simp [h1], h2⟩
/-- the entries behind a greater one don't count -/
theorem childL_lo : ∀ {p : Option ByteArray} (a : List En) (h : En) (t : List En) {k : ByteArray}, risE p (a ++ h :: t) = true → bef k.data.toList h.1.data.toList = true → childL (a ++ h :: t) k = childL a k
  | _, [], h, t, k, _, hk => by
    show (if bef k.data.toList h.1.data.toList = true then none else _) = none
    rw [if_pos hk]
  | _, x :: a, h, t, k, hr, hk => by
    show (if bef k.data.toList x.1.data.toList = true then none else some ((childL (a ++ h :: t) k).getD x)) = (if bef k.data.toList x.1.data.toList = true then none else some ((childL a k).getD x))
    rw [childL_lo a h t (risE_cons hr).2 hk]
/-- where an entry is not behind a key, those ahead of it don't count -/
theorem childL_hi : ∀ {p : Option ByteArray} (a : List En) (h : En) (t : List En) {k : ByteArray}, risE p (a ++ h :: t) = true → bef k.data.toList h.1.data.toList = false → childL (a ++ h :: t) k = childL (h :: t) k
  | _, [], _, _, _, _, _ => rfl
  | _, x :: a, h, t, k, hr, hk => by
    have ih := childL_hi a h t (risE_cons hr).2 hk
    have hx : bef k.data.toList x.1.data.toList = false := bef_le' hk (risE_head _ _ (risE_cons hr).2 h (by simp))
    show (if bef k.data.toList x.1.data.toList = true then none else some ((childL (a ++ h :: t) k).getD x)) = childL (h :: t) k
    rw [if_neg (by rw [hx]; simp), ih]
    have : ∃ d, childL (h :: t) k = some d := by
      show ∃ d, (if bef k.data.toList h.1.data.toList = true then none else _) = some d
      rw [if_neg (by rw [hk]; simp)]
      exact ⟨_, rfl⟩
    obtain ⟨d, hd⟩ := this
    rw [hd]; rfl
where
  bef_le' {a b c : List UInt8} (h1 : bef a b = false) (h2 : bef c b = true) : bef a c = false := by
    cases h : bef a c with
    | false => rfl
    | true => rw [bef_trans _ _ _ h h2] at h1; cases h1
theorem childL_one (e : En) {k : ByteArray} (h : bef k.data.toList e.1.data.toList = false) : childL [e] k = some e := by
  show (if bef k.data.toList e.1.data.toList = true then none else some ((none : Option En).getD e)) = some e
  rw [if_neg (by rw [h]; simp)]; rfl
theorem childL_some (e : En) (t : List En) {k : ByteArray} (h : bef k.data.toList e.1.data.toList = false) : ∃ c, childL (e :: t) k = some c := by
  show ∃ d, (if bef k.data.toList e.1.data.toList = true then none else _) = some d
  rw [if_neg (by rw [h]; simp)]
  exact ⟨_, rfl⟩
theorem childL_first (e : En) (t : List En) {k : ByteArray} (h : bef k.data.toList e.1.data.toList = true) : childL (e :: t) k = none := by
  show (if bef k.data.toList e.1.data.toList = true then none else _) = none
  rw [if_pos h]
end Go.Proofs.Ytkkmfacngmginaa
