/- Writes in memory: the program's and the document's; slices of such slices. -/
import Derived.Test.YtkbfhpgcjljbbaaDoorRwKeep
import Derived.Test.YtkbfhpgcjljbbaaDoorCmMw
namespace Go.Proofs.YtkbfhpgcjljbbaaDoor
set_option linter.unusedVariables false
set_option linter.unusedSimpArgs false
open Go.RowKit

/-- a key, its value, and whether it is gone -/
abbrev Wr := ByteArray × ByteArray × Bool
def w00 : Wr := (⟨#[]⟩, ⟨#[]⟩, false)
/-- may a write be by itself? -/
def wFit (x : Wr) : Bool := fitB (x.1, x.2.1) && (!x.2.2 || eqB x.2.1 ⟨#[]⟩)
/-- may these writes be, behind a key (or behind none)? -/
def wFrom : Option ByteArray → List Wr → Bool
  | _, [] => true
  | p, x :: xs => wFit x && (match p with | none => true | some q => bef q.data.toList x.1.data.toList) && wFrom (some x.1) xs
def wRight (xs : List Wr) : Bool := wFrom none xs
def over1 (l : List Rw) (x : Wr) : List Rw := if x.2.2 then dropR l x.1 else if fitB (x.1, x.2.1) then putR l (x.1, x.2.1) else l
def overW (l : List Rw) (xs : List Wr) : List Rw := xs.foldl over1 l
def overP (l : List Rw) (ps : List (List Wr)) : List Rw := ps.foldl overW l
/-- a key's write in a part -/
def hasW (k : ByteArray) (xs : List Wr) : Option Wr := xs.find? (fun x => eqB x.1 k)
/-- a key's write in the last part that has one -/
def findW (k : ByteArray) (ps : List (List Wr)) : Option Wr := ps.reverse.findSome? (hasW k)
/-- what a key has by its write, where it had this -/
def byW (o : Option Wr) (r : Option Rw) : Option Rw := match o with
  | none => r
  | some x => if x.2.2 then none else some (x.1, x.2.1)

theorem wFrom_cons {p : Option ByteArray} {x : Wr} {xs : List Wr} (h : wFrom p (x :: xs) = true) : wFit x = true ∧ (∀ q, p = some q → bef q.data.toList x.1.data.toList = true) ∧ wFrom (some x.1) xs = true := by
  unfold wFrom at h
  rw [Bool.and_eq_true, Bool.and_eq_true] at h
  refine ⟨h.1.1, fun q hq => ?_, h.2⟩
  subst hq
  exact h.1.2
theorem wFrom_ahead : ∀ {p : ByteArray} {xs : List Wr}, wFrom (some p) xs = true → ∀ x ∈ xs, bef p.data.toList x.1.data.toList = true
  | _, [], _, x, hx => by cases hx
  | p, y :: ys, h, x, hx => by
    obtain ⟨_, h2, h3⟩ := wFrom_cons h
    rcases List.mem_cons.1 hx with rfl | hx
    · exact h2 p rfl
    · exact bef_trans _ _ _ (h2 p rfl) (wFrom_ahead h3 x hx)
theorem wFrom_fit : ∀ {p : Option ByteArray} {xs : List Wr}, wFrom p xs = true → ∀ x ∈ xs, wFit x = true
  | _, [], _, x, hx => by cases hx
  | p, y :: ys, h, x, hx => by
    obtain ⟨h1, _, h3⟩ := wFrom_cons h
    rcases List.mem_cons.1 hx with rfl | hx
    · exact h1
    · exact wFrom_fit h3 x hx
theorem wFit_fit {x : Wr} (h : wFit x = true) : fitB (x.1, x.2.1) = true := by
  unfold wFit at h
  rw [Bool.and_eq_true] at h
  exact h.1
theorem over1_right {x : Wr} {l : List Rw} (hl : rightB l = true) : rightB (over1 l x) = true := by
  unfold over1
  split
  · exact drop_right x.1 l hl
  · split
    · next h => exact put_right (x.1, x.2.1) h l hl (fun q hq => by cases hq)
    · exact hl
theorem overW_right : ∀ {xs : List Wr} {l : List Rw}, rightB l = true → rightB (overW l xs) = true
  | [], _, h => h
  | x :: xs, l, h => overW_right (xs := xs) (l := over1 l x) (over1_right h)
theorem overP_right : ∀ {ps : List (List Wr)} {l : List Rw}, rightB l = true → rightB (overP l ps) = true
  | [], _, h => h
  | p :: ps, l, h => overP_right (ps := ps) (l := overW l p) (overW_right h)
theorem lk_none {l : List Rw} {k : ByteArray} (h : (fnd l k).2 = false) : lk l k = none := by unfold lk; rw [h]; rfl
theorem lk_put (r : Rw) (l : List Rw) : lk (putR l r) r.1 = some r := by
  have h := put_found r l
  unfold lk
  rw [if_pos h.1, h.2]
theorem lk_over1 {x : Wr} {l : List Rw} (hx : wFit x = true) (hl : rightB l = true) (k : ByteArray) : lk (over1 l x) k = byW (hasW k [x]) (lk l k) := by
  have hf := wFit_fit hx
  unfold hasW byW over1
  by_cases he : eqB x.1 k = true
  · have e := (eqB_iff _ _).1 he
    subst e
    simp only [List.find?, eqB_self]
    cases hg : x.2.2 with
    | true => simp only [if_true]; exact lk_none (drop_gone x.1 l hl)
    | false =>
      simp only [Bool.false_eq_true, if_false]
      rw [if_pos hf]
      exact lk_put (x.1, x.2.1) l
  · have hne : k ≠ x.1 := fun e => he (by rw [e]; exact eqB_self _)
    simp only [List.find?]
    rw [show eqB x.1 k = false by cases h : eqB x.1 k with | true => exact absurd h he | false => rfl]
    simp only []
    cases hg : x.2.2 with
    | true => simp only [if_true]; exact drop_other x.1 k hne l hl
    | false =>
      simp only [Bool.false_eq_true, if_false]
      rw [if_pos hf]
      exact put_other (x.1, x.2.1) k hne l hl
theorem hasW_ahead {k : ByteArray} {xs : List Wr} (h : wFrom (some k) xs = true) : hasW k xs = none := by
  unfold hasW
  rw [List.find?_eq_none]
  intro x hx he
  have e := (eqB_iff _ _).1 he
  have h2 := wFrom_ahead h x hx
  rw [e, bef_irr] at h2
  cases h2
theorem byW_byW (a b : Option Wr) (r : Option Rw) : byW b (byW a r) = byW (b <|> a) r := by cases b <;> rfl
theorem lk_overW : ∀ {p : Option ByteArray} {xs : List Wr} {l : List Rw}, wFrom p xs = true → rightB l = true → ∀ k, lk (overW l xs) k = byW (hasW k xs) (lk l k)
  | _, [], _, _, _, _ => rfl
  | p, x :: xs, l, hx, hl, k => by
    obtain ⟨h1, _, h3⟩ := wFrom_cons hx
    have ih := lk_overW h3 (over1_right (x := x) hl) k
    show lk (overW (over1 l x) xs) k = _
    rw [ih, lk_over1 h1 hl]
    by_cases he : eqB x.1 k = true
    · have e := (eqB_iff _ _).1 he
      have h0 : hasW k xs = none := by rw [← e]; exact hasW_ahead h3
      rw [h0]
      unfold hasW
      simp only [List.find?, he]
      rfl
    · have he' : eqB x.1 k = false := by cases h : eqB x.1 k with | true => exact absurd h he | false => rfl
      unfold hasW
      simp only [List.find?, he']
      cases List.find? (fun x => eqB x.1 k) xs <;> rfl
theorem findW_snoc (k : ByteArray) (ps : List (List Wr)) (p : List Wr) : findW k (ps ++ [p]) = (hasW k p <|> findW k ps) := by
  unfold findW
  rw [List.reverse_append, List.reverse_singleton, List.singleton_append, List.findSome?_cons]
  cases hasW k p <;> rfl
theorem findW_cons (k : ByteArray) : ∀ (ps : List (List Wr)) (p : List Wr), findW k (p :: ps) = (findW k ps <|> hasW k p) := by
  intro ps p
  unfold findW
  rw [List.reverse_cons, List.findSome?_append]
  cases h : List.findSome? (hasW k) ps.reverse with
  | some x => rfl
  | none => cases h2 : hasW k p <;> simp [h2]
theorem lk_overP : ∀ {ps : List (List Wr)} {l : List Rw}, (∀ p ∈ ps, wRight p = true) → rightB l = true → ∀ k, lk (overP l ps) k = byW (findW k ps) (lk l k)
  | [], _, _, _, _ => rfl
  | p :: ps, l, hp, hl, k => by
    have ih := lk_overP (ps := ps) (l := overW l p) (fun q hq => hp q (List.mem_cons_of_mem _ hq)) (overW_right hl) k
    show lk (overP (overW l p) ps) k = _
    rw [ih, lk_overW (hp p (List.mem_cons_self ..)) hl, byW_byW, findW_cons]
/-- rows that rise are what their keys have -/
theorem rows_ext : ∀ {p q : Option ByteArray} {l m : List Rw}, rightFrom p l = true → rightFrom q m = true → (∀ k, lk l k = lk m k) → l = m
  | _, _, [], [], _, _, _ => rfl
  | _, _, [], t :: m, _, _, h => by
    have := h t.1
    rw [lk_ge (bef_irr _), eqB_self] at this
    simp [lk, fnd] at this
  | _, _, s :: l, [], _, _, h => by
    have := h s.1
    rw [lk_ge (bef_irr _), eqB_self] at this
    simp [lk, fnd] at this
  | _, _, s :: l, t :: m, hl, hm, h => by
    obtain ⟨_, _, l3⟩ := rightFrom_cons hl
    obtain ⟨_, _, m3⟩ := rightFrom_cons hm
    have e1 : s = t := by
      have hs := h s.1
      have ht := h t.1
      rw [lk_ge (bef_irr _), eqB_self] at hs
      rw [lk_ge (s := t) (bef_irr _), eqB_self] at ht
      simp only [if_true] at hs ht
      cases hb : bef t.1.data.toList s.1.data.toList with
      | false =>
        rw [lk_ge hb] at hs
        by_cases he : eqB t.1 s.1 = true
        · rw [if_pos he] at hs; exact Option.some.inj hs
        · rw [if_neg he] at hs; cases hs
      | true =>
        rw [lk_ge (bef_asymm _ _ hb)] at ht
        by_cases he : eqB s.1 t.1 = true
        · rw [if_pos he] at ht; exact (Option.some.inj ht)
        · rw [if_neg he] at ht; cases ht
    subst e1
    refine congrArg (s :: ·) (rows_ext l3 m3 (fun k => ?_))
    cases hb : bef s.1.data.toList k.data.toList with
    | true =>
      have := h k
      rw [lk_lt hb, lk_lt hb] at this
      exact this
    | false =>
      have hk : s.1.data.toList = k.data.toList ∨ bef k.data.toList s.1.data.toList = true := by
        cases hb2 : bef k.data.toList s.1.data.toList with
        | true => exact .inr rfl
        | false => exact .inl (bef_total _ _ hb hb2)
      rw [lk_none (fnd_ahead l3 hk), lk_none (fnd_ahead m3 hk)]
theorem over_twice {a : List Wr} {l : List Rw} (ha : wRight a = true) (hl : rightB l = true) : overP l [a, a] = overP l [a] := by
  refine rows_ext (overP_right hl) (overP_right hl) (fun k => ?_)
  have H : ∀ p ∈ [a, a], wRight p = true := fun p hp => by simp at hp; rw [hp]; exact ha
  have H1 : ∀ p ∈ [a], wRight p = true := fun p hp => by simp at hp; rw [hp]; exact ha
  rw [lk_overP H hl, lk_overP H1 hl]
  unfold findW
  simp only [List.reverse_cons, List.reverse_nil, List.nil_append, List.cons_append, List.findSome?]
  cases hasW k a <;> rfl
/-- two parts have a key in common -/
def meetW (a b : List Wr) : Bool := a.any (fun x => b.any (fun y => eqB x.1 y.1))
theorem over_swap {a b : List Wr} {l : List Rw} (ha : wRight a = true) (hb : wRight b = true) (hl : rightB l = true) (h : meetW a b = false) : overP l [a, b] = overP l [b, a] := by
  refine rows_ext (overP_right hl) (overP_right hl) (fun k => ?_)
  have H : ∀ p ∈ [a, b], wRight p = true := fun p hp => by simp at hp; rcases hp with rfl | rfl <;> assumption
  have H1 : ∀ p ∈ [b, a], wRight p = true := fun p hp => by simp at hp; rcases hp with rfl | rfl <;> assumption
  rw [lk_overP H hl, lk_overP H1 hl]
  unfold findW
  simp only [List.reverse_cons, List.reverse_nil, List.nil_append, List.cons_append, List.findSome?]
  cases h1 : hasW k a with
  | none => cases hasW k b <;> rfl
  | some x =>
    cases h2 : hasW k b with
    | none => rfl
    | some y =>
      exfalso
      have m1 := List.mem_of_find?_eq_some h1
      have e1 := List.find?_some h1
      have m2 := List.mem_of_find?_eq_some h2
      have e2 := List.find?_some h2
      unfold meetW at h
      rw [List.any_eq_false] at h
      refine h x m1 (List.any_eq_true.2 ⟨y, m2, ?_⟩)
      rw [(eqB_iff _ _).1 e1, (eqB_iff _ _).1 e2]
      exact eqB_self _
/-- a span's bounds, and has it an end? -/
abbrev Sp := ByteArray × ByteArray × Bool
def clashW (ks : List ByteArray) (ss : List Sp) (xs : List Wr) : Bool := xs.any (fun x => ks.any (fun k => eqB k x.1) || ss.any (fun s => inn s.1.data.toList s.2.1.data.toList s.2.2 x.1.data.toList))
def inAny (ss : List Sp) (xs : List Wr) : Bool := ss.any (fun s => xs.any (fun x => inn s.1.data.toList s.2.1.data.toList s.2.2 x.1.data.toList))
def keyAny (ks : List ByteArray) (xs : List Wr) : Bool := xs.any (fun x => ks.any (fun k => eqB k x.1))
theorem clashW_parts (ks : List ByteArray) (ss : List Sp) (xs : List Wr) : clashW ks ss xs = (inAny ss xs || keyAny ks xs) := by
  rw [Bool.eq_iff_iff]
  unfold clashW inAny keyAny
  simp only [List.any_eq_true, Bool.or_eq_true]
  constructor
  · rintro ⟨x, hx, ⟨k, hk, e⟩ | ⟨s, hs, e⟩⟩
    · exact .inr ⟨x, hx, k, hk, e⟩
    · exact .inl ⟨s, hs, x, hx, e⟩
  · rintro (⟨s, hs, x, hx, e⟩ | ⟨x, hx, k, hk, e⟩)
    · exact ⟨x, hx, .inr ⟨s, hs, e⟩⟩
    · exact ⟨x, hx, .inl ⟨k, hk, e⟩⟩
theorem clashW_none (xs : List Wr) : clashW [] [] xs = false := by unfold clashW; simp
theorem clashW_nobody (ks : List ByteArray) (ss : List Sp) : clashW ks ss [] = false := rfl
theorem clashW_own (xs : List Wr) : clashW (xs.map (·.1)) [] xs = !xs.isEmpty := by
  cases xs with
  | nil => rfl
  | cons x xs => unfold clashW; simp [eqB_self]
theorem clashW_whole (xs : List Wr) : clashW [] [(⟨#[]⟩, ⟨#[]⟩, true)] xs = !xs.isEmpty := by
  cases xs with
  | nil => rfl
  | cons x xs =>
    unfold clashW inn
    simp [bef_nil]
theorem clashW_some {s : Sp} {xs : List Wr} (h : clashW [] [s] xs = true) : (!xs.isEmpty) = true := by
  cases xs with
  | nil => cases h
  | cons x xs => rfl

set_option linter.unusedVariables false
set_option linter.unusedSimpArgs false
open Go.RowKit

/-- a write of the program's -/
def lPw : Lay Wr := ⟨49, 3, fun x => [.string x.1, .string x.2.1, .bool x.2.2], fun _ => rfl, fun x u h => by simp at h; rcases h with rfl | rfl | rfl <;> rfl⟩
/-- a write of the document's -/
def lDw : Lay Wr := ⟨79, 3, fun x => [.string x.1, .string x.2.1, .bool x.2.2], fun _ => rfl, fun x u h => by simp at h; rcases h with rfl | rfl | rfl <;> rfl⟩
theorem pwInfo : (Tryd.prog.info? 49).map (fun i => (i.zero, i.size, i.bytes)) = some (some (.agg #[.string ⟨#[]⟩, .string ⟨#[]⟩, .bool false]), 3, 40) := by kernel_rfl
theorem dwInfo : (Tryd.prog.info? 79).map (fun i => (i.zero, i.size, i.bytes)) = some (some (.agg #[.string ⟨#[]⟩, .string ⟨#[]⟩, .bool false]), 3, 40) := by kernel_rfl
theorem lPw_known : lPw.known 40 := known_of pwInfo rfl rfl
theorem lDw_known : lDw.known 40 := known_of dwInfo rfl rfl
/-- no text of these writes is too long for any machine -/
def SmallW (xs : List Wr) : Prop := ∀ x ∈ xs, x.1.size ≤ maxLen ∧ x.2.1.size ≤ maxLen
theorem SmallW.nil : SmallW [] := fun r h => by cases h
theorem SmallW.at {xs : List Wr} (h : SmallW xs) {i : Nat} {x : Wr} (hi : xs[i]? = some x) : x.1.size ≤ maxLen ∧ x.2.1.size ≤ maxLen := h x (List.mem_of_getElem? hi)
theorem SmallW.take {xs : List Wr} (h : SmallW xs) (k : Nat) : SmallW (xs.take k) := fun r hr => h r (List.mem_of_mem_take hr)
/-- v reads as these writes -/
def WrV (E : Lay Wr) (w : World) (v : Value) (xs : List Wr) : Prop := SV E w v xs ∧ SmallW xs
theorem WrV.below {E : Lay Wr} {w w' : World} {v : Value} {xs : List Wr} (h : WrV E w v xs) (hb : Below w.heap.size w w') : WrV E w' v xs := ⟨h.1.below hb, h.2⟩
theorem WrV.kept {E : Lay Wr} {S : Nat → Prop} {w w' : World} {v : Value} {xs : List Wr} (h : WrV E w v xs) (hk : Kept S w w') (ho : Out S v) : WrV E w' v xs := ⟨h.1.kept hk ho, h.2⟩
theorem WrV.nil (E : Lay Wr) (w : World) : WrV E w (.slice none 0 0) [] := ⟨SV.nil E w, SmallW.nil⟩
/-- the cells of a write that came in a slice -/
theorem WrV.cells {w : World} {b off n cap : Nat} {xs : List Wr} (h : WrV lDw w (.slice (some ⟨b, off, none⟩) n cap) xs) {i : Nat} {x : Wr} (hi : xs[i]? = some x) :
    w.cell? ⟨b, off + i * 3, none⟩ = some (.string x.1) ∧ w.cell? ⟨b, off + i * 3 + 1, none⟩ = some (.string x.2.1) ∧ w.cell? ⟨b, off + i * 3 + 2, none⟩ = some (.bool x.2.2) :=
  ⟨by have := h.1.cellAt hi (j := 0) (u := .string x.1) rfl; simpa [lDw] using this, by have := h.1.cellAt hi (j := 1) (u := .string x.2.1) rfl; simpa [lDw] using this, by have := h.1.cellAt hi (j := 2) (u := .bool x.2.2) rfl; simpa [lDw] using this⟩
theorem WrV.cellsP {w : World} {b off n cap : Nat} {xs : List Wr} (h : WrV lPw w (.slice (some ⟨b, off, none⟩) n cap) xs) {i : Nat} {x : Wr} (hi : xs[i]? = some x) :
    w.cell? ⟨b, off + i * 3, none⟩ = some (.string x.1) ∧ w.cell? ⟨b, off + i * 3 + 1, none⟩ = some (.string x.2.1) ∧ w.cell? ⟨b, off + i * 3 + 2, none⟩ = some (.bool x.2.2) :=
  ⟨by have := h.1.cellAt hi (j := 0) (u := .string x.1) rfl; simpa [lPw] using this, by have := h.1.cellAt hi (j := 1) (u := .string x.2.1) rfl; simpa [lPw] using this, by have := h.1.cellAt hi (j := 2) (u := .bool x.2.2) rfl; simpa [lPw] using this⟩

/-- a slice as an element of another one -/
abbrev Sl := Option Addr × Nat × Nat
def Sl.v (s : Sl) : Value := .slice s.1 s.2.1 s.2.2
def lPs : Lay Sl := ⟨50, 1, fun s => [s.v], fun _ => rfl, fun x u h => by simp at h; subst h; rfl⟩
/-- v reads as these lists of writes of the program's -/
def PsV (w : World) (v : Value) (ps : List (List Wr)) : Prop := ∃ ss : List Sl, SV lPs w v ss ∧ ss.length = ps.length ∧ ∀ (i : Nat) (s : Sl) (p : List Wr), ss[i]? = some s → ps[i]? = some p → WrV lPw w s.v p
theorem PsV.below {w w' : World} {v : Value} {ps : List (List Wr)} (h : PsV w v ps) (hb : Below w.heap.size w w') : PsV w' v ps := by
  obtain ⟨ss, h1, h2, h3⟩ := h
  exact ⟨ss, h1.below hb, h2, fun i s p hs hp => (h3 i s p hs hp).below hb⟩

theorem wtake_at1 {xs : List Wr} {k : Nat} {x : Wr} (h : xs[k]? = some x) : xs.take (k + 1) = xs.take k ++ [x] := by
  obtain ⟨hk, e⟩ := List.getElem?_eq_some_iff.1 h
  rw [List.take_succ_eq_append_getElem hk, e]
end Go.Proofs.YtkbfhpgcjljbbaaDoor
