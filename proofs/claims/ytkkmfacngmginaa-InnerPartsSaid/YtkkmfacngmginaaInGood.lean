/- Plain: views of inner pages that may be: what splits, holds, drops and puts do to them, and to the child of any key. -/
import Derived.Test.YtkkmfacngmginaaInMath
namespace Go.Proofs.Ytkkmfacngmginaa
open Go.RowKit

structure GoodI (v : IvD) : Prop where
  first : firstB v.ents v.low = true
  high : v.unb = true → v.high = ⟨#[]⟩
  ris : risE none v.ents = true
  inn : ∀ e ∈ v.ents, inI v e.1 = true
  hold : v.held = true → ∃ n, atE v.ents v.hk = some (n + 1) ∧ (v.ents.getD (n + 1) e0).2 = v.hp ∧ (v.ents.getD n e0).2 = v.hl
  free : v.held = false → v.hp = 0 ∧ v.hl = 0 ∧ v.hk = ⟨#[]⟩
theorem soundI_iff (v : IvD) : soundI v = true ↔ firstB v.ents v.low = true ∧ (v.unb = true → v.high = ⟨#[]⟩) ∧ risE none v.ents = true ∧ ∀ e ∈ v.ents, inI v e.1 = true := by
  unfold soundI
  rw [Bool.and_eq_true, Bool.and_eq_true, Bool.and_eq_true, List.all_eq_true, Bool.not_eq_true', and_assoc, and_assoc]
  refine and_congr Iff.rfl (and_congr ⟨fun h hu => ?_, fun h => ?_⟩ Iff.rfl)
  · rw [hu, Bool.true_and, Bool.not_eq_false'] at h
    exact (eqB_iff _ _).1 h
  · cases hu : v.unb with
    | false => rfl
    | true => rw [h hu, eqB_self]; rfl
theorem GoodI.sound {v : IvD} (g : GoodI v) : soundI v = true := (soundI_iff v).2 ⟨g.first, g.high, g.ris, g.inn⟩
theorem good_of {v : IvD} (h : soundI v = true) (hf : v.held = false) (h1 : v.hp = 0) (h2 : v.hl = 0) (h3 : v.hk = ⟨#[]⟩) : GoodI v := by
  obtain ⟨a, b, c, d⟩ := (soundI_iff v).1 h
  exact ⟨a, b, c, d, fun h => (by rw [hf] at h; cases h), fun _ => ⟨h1, h2, h3⟩⟩
theorem firstB_app {a b : List En} {low : ByteArray} (h : a ≠ []) : firstB (a ++ b) low = firstB a low := by
  cases a with
  | nil => exact absurd rfl h
  | cons x a => rfl
theorem firstB_ne {l : List En} {low : ByteArray} (h : firstB l low = true) : l ≠ [] := by rintro rfl; cases h
theorem inI_iff (v : IvD) (k : ByteArray) : inI v k = true ↔ bef k.data.toList v.low.data.toList = false ∧ (v.unb = true ∨ bef k.data.toList v.high.data.toList = true) := inK_iff _ _ _ _
theorem goodI_base {r : RecD} {v : IvD} (h : baseI r = some v) : GoodI v := by
  unfold baseI at h
  split at h
  · next hc =>
    obtain rfl := (Option.some.inj h).symm
    exact good_of hc.2 rfl rfl rfl rfl
  · cases h
/-- where a key that has no entry goes -/
theorem ins_parts {l : List En} {k : ByteArray} (hr : risE none l = true) (hn : atE l k = none) :
    ∃ a b, l = a ++ b ∧ (∀ p, insE l (k, p) = a ++ (k, p) :: b) ∧ (∀ e ∈ a, bef e.1.data.toList k.data.toList = true) ∧ ∀ e ∈ b, bef k.data.toList e.1.data.toList = true := by
  obtain ⟨h1, h2⟩ := ahead_parts l k hr
  refine ⟨l.take (aheadE l k), l.drop (aheadE l k), (List.take_append_drop _ _).symm, fun _ => rfl, h1, fun e he => bef_of_ne (h2 e he) (atE_none.1 hn e (List.mem_of_mem_drop he))⟩
theorem ins_ris {a b : List En} {k : ByteArray} {p : Int} (hr : risE none (a ++ b) = true) (ha : ∀ e ∈ a, bef e.1.data.toList k.data.toList = true) (hb : ∀ e ∈ b, bef k.data.toList e.1.data.toList = true) : risE none (a ++ (k, p) :: b) = true := by
  refine risE_app a (risE_left a hr) (risE_mk (fun q hq => by cases hq) (risE_some (risE_right a hr) hb)) (fun q hq => by cases hq) (fun x hx y hy => ?_)
  rcases List.mem_cons.1 hy with rfl | hy
  · exact ha x hx
  · exact risE_apart a hr x hx y hy
theorem good_put {v v' : IvD} {k : ByteArray} {p : Int} (g : GoodI v) (hf : v.held = false) (h : putI v k p = some v') : GoodI v' ∧ v' = { v with ents := insE v.ents (k, p) } ∧ childI v' k = some (k, p) ∧ v'.ents.length = v.ents.length + 1 := by
  unfold putI at h
  split at h
  rotate_left
  · cases h
  next hc =>
  obtain rfl := (Option.some.inj h).symm
  obtain ⟨a, b, e1, e2, ha, hb⟩ := ins_parts g.ris hc.1
  have hr := g.ris
  rw [e1] at hr
  have r2 := ins_ris (p := p) hr ha hb
  have hne : a ≠ [] := by
    rintro rfl
    have hf1 := g.first
    rw [e1] at hf1
    cases b with
    | nil => cases hf1
    | cons x b =>
      have e : x.1 = v.low := (eqB_iff _ _).1 hf1
      have := hb x (by simp)
      rw [e, ((inI_iff v k).1 hc.2).1] at this
      cases this
  refine ⟨⟨?_, g.high, ?_, ?_, fun h => ?_, fun h => g.free hf⟩, rfl, ?_, ?_⟩
  · have := g.first
    rw [e1, firstB_app hne] at this
    simp only [e2]
    rw [firstB_app hne]; exact this
  · simp only [e2]; exact r2
  · intro e he
    simp only [e2, List.mem_append, List.mem_cons] at he
    rcases he with he | rfl | he
    · exact g.inn e (by rw [e1]; simp [he])
    · exact hc.2
    · exact g.inn e (by rw [e1]; simp [he])
  · exact absurd (hf.symm.trans h) (by simp)
  · show (if inI v k = true then childL (insE v.ents (k, p)) k else none) = _
    rw [if_pos hc.2, e2]
    have q1 : bef k.data.toList ((k, p) : En).1.data.toList = false := bef_irr _
    rw [childL_hi a (k, p) b r2 q1]
    cases b with
    | nil => exact childL_one _ q1
    | cons x b => exact (childL_lo [(k, p)] x b (risE_right a r2) (hb x (by simp))).trans (childL_one _ q1)
  · simp only [e2]
    rw [e1]
    simp only [List.length_append, List.length_cons]
    omega
theorem good_split {v v' : IvD} {k : ByteArray} {p : Int} (g : GoodI v) (hf : v.held = false) (h : splitI v k p = some v') : GoodI v' := by
  unfold splitI at h
  split at h
  rotate_left
  · cases h
  next n hn =>
  obtain rfl := (Option.some.inj h).symm
  obtain ⟨h1, h2⟩ := atE_some hn
  obtain ⟨a, e, b, e1, e2, e3, e4, -, -⟩ := split_at h1
  rw [e3] at h2
  have hne : a ≠ [] := by rintro rfl; simp at e2
  have hr := g.ris
  rw [e1] at hr
  refine ⟨?_, fun h => (by cases h), ?_, ?_, fun h => absurd (hf.symm.trans h) (by simp), fun _ => g.free hf⟩
  · have := g.first
    rw [e1, firstB_app hne] at this
    simp only [e4]; exact this
  · simp only [e4]; exact risE_left a hr
  · intro x hx
    simp only [e4] at hx
    have hb := risE_apart a hr x hx e (by simp)
    rw [h2] at hb
    exact (inK_iff _ _ _ _).2 ⟨((inI_iff v _).1 (g.inn x (by rw [e1]; simp [hx]))).1, .inr hb⟩
theorem good_hold {v v' : IvD} {hp hl : Int} {hk : ByteArray} (g : GoodI v) (h : holdI v hp hl hk = some v') : GoodI v' := by
  unfold holdI at h
  split at h
  rotate_left
  · cases h
  next n hn =>
  split at h
  rotate_left
  · cases h
  next hc =>
  obtain rfl := (Option.some.inj h).symm
  exact ⟨g.first, g.high, g.ris, g.inn, fun _ => ⟨n, hn, hc⟩, fun h => (by cases h)⟩
theorem good_drop {v v' : IvD} (g : GoodI v) (hf : v.held = true) (h : dropI v = some v') : GoodI v' := by
  obtain ⟨n, hn, -⟩ := g.hold hf
  unfold dropI at h
  rw [hn] at h
  obtain rfl := (Option.some.inj h).symm
  obtain ⟨h1, -⟩ := atE_some hn
  obtain ⟨a, e, b, e1, e2, -, e4, -, e5⟩ := split_at h1
  have hne : a ≠ [] := by rintro rfl; simp at e2
  have hr := g.ris
  rw [e1] at hr
  refine ⟨?_, g.high, ?_, ?_, fun h => (by cases h), fun _ => ⟨rfl, rfl, rfl⟩⟩
  · have := g.first
    rw [e1, firstB_app hne] at this
    simp only [e4, e5]
    rw [firstB_app hne]; exact this
  · simp only [e4, e5]
    have r2 := risE_right a hr
    exact risE_app a (risE_left a hr) (risE_none (risE_cons r2).2) (fun q hq => by cases hq) (fun x hx y hy => risE_apart a hr x hx y (by simp [hy]))
  · intro x hx
    simp only [e4, e5, List.mem_append] at hx
    refine g.inn x ?_
    rw [e1]
    rcases hx with hx | hx <;> simp [hx]
theorem goodI_step {v v' : IvD} {r : RecD} (g : GoodI v) (h : stepI v r = some v') : GoodI v' := by
  unfold stepI at h
  split at h
  · cases h
  next hh =>
  have hh' : v.held = decide (r.sc.kind = 11) := by simpa using hh
  split at h
  · next hk => exact (good_put g (by rw [hh', hk]; rfl) h).1
  split at h
  · next hk => exact good_split g (by rw [hh', hk]; rfl) h
  split at h
  · exact good_hold g h
  split at h
  · next hk => exact good_drop g (by rw [hh', hk]; rfl) h
  · cases h
theorem goodI_fold : ∀ {l : List RecD} {v : IvD}, foldI l = some v → GoodI v
  | [], _, h => by cases h
  | [_], _, h => goodI_base h
  | r :: s :: l, v, h => by
    rw [foldI_cons r (by simp)] at h
    obtain ⟨u, hu, hs⟩ := Option.bind_eq_some_iff.1 h
    exact goodI_step (goodI_fold hu) hs

theorem stepI_put {v : IvD} {r : RecD} (hf : v.held = false) (hk : r.sc.kind = 8) : stepI v r = putI v r.sc.key r.sc.page := by unfold stepI; rw [hf, hk]; rfl
theorem stepI_split {v : IvD} {r : RecD} (hf : v.held = false) (hk : r.sc.kind = 9) : stepI v r = splitI v r.sc.key r.sc.page := by unfold stepI; rw [hf, hk]; rfl
theorem stepI_hold {v : IvD} {r : RecD} (hf : v.held = false) (hk : r.sc.kind = 10) : stepI v r = holdI v r.sc.hp r.sc.hl r.sc.hk := by unfold stepI; rw [hf, hk]; rfl
theorem stepI_drop {v : IvD} {r : RecD} (hf : v.held = true) (hk : r.sc.kind = 11) : stepI v r = dropI v := by unfold stepI; rw [hf, hk]; rfl
theorem stepI_held {v : IvD} {r : RecD} (hf : v.held = true) (hk : r.sc.kind ≠ 11) : stepI v r = none := by unfold stepI; rw [hf, decide_eq_false hk]; rfl

/-! ### what the laws ask -/
theorem childL_at {p : Option ByteArray} (a : List En) (e : En) (b : List En) (hr : risE p (a ++ e :: b) = true) : childL (a ++ e :: b) e.1 = some e := by
  have q1 : bef e.1.data.toList e.1.data.toList = false := bef_irr _
  rw [childL_hi a e b hr q1]
  cases b with
  | nil => exact childL_one _ q1
  | cons x b =>
    have r2 := risE_right a hr
    exact (childL_lo [e] x b r2 (risE_head _ _ (risE_cons r2).2 x (by simp))).trans (childL_one _ q1)
theorem one_has {v : IvD} {k : ByteArray} {c : En} (h : childI v k = some c) : (atE v.ents c.1).isSome = true ∧ inI v k = true := by
  unfold childI at h
  split at h
  · next hi =>
    obtain ⟨hm, -⟩ := childL_mem h
    refine ⟨?_, hi⟩
    cases ha : atE v.ents c.1 with
    | some n => rfl
    | none => exact absurd rfl (atE_none.1 ha c hm)
  · cases h
theorem one_key {v : IvD} {k : ByteArray} {c : En} {n : Nat} (g : GoodI v) (h : childI v k = some c) (ha : atE v.ents k = some n) : c.1 = k := by
  unfold childI at h
  split at h
  rotate_left
  · cases h
  obtain ⟨h1, h2⟩ := atE_some ha
  obtain ⟨a, e, b, e1, -, e3, -⟩ := split_at h1
  rw [e3] at h2
  subst h2
  have hr := g.ris
  rw [e1] at hr
  rw [e1, childL_at a e b hr] at h
  rw [← Option.some.inj h]
def putI8 (k : ByteArray) (p : Int) : RecD := ⟨{ Sc.zero with kind := 8, key := k, page := p }, [], []⟩
def splitI9 (k : ByteArray) (p : Int) : RecD := ⟨{ Sc.zero with kind := 9, key := k, page := p }, [], []⟩
def holdI10 (hp hl : Int) (hk : ByteArray) : RecD := ⟨{ Sc.zero with kind := 10, hp := hp, hl := hl, hk := hk }, [], []⟩
def dropI11 : RecD := ⟨{ Sc.zero with kind := 11 }, [], []⟩
def baseI7 (low high : ByteArray) (unb : Bool) (right : Int) (es : List En) : RecD := ⟨{ Sc.zero with kind := 7, low := low, high := high, unb := unb, right := right }, [], es⟩
theorem fold_base {low high : ByteArray} {unb : Bool} {right : Int} {es : List En} (h : soundI ⟨low, high, unb, right, es, false, 0, 0, ⟨#[]⟩⟩ = true) : foldI [baseI7 low high unb right es] = some ⟨low, high, unb, right, es, false, 0, 0, ⟨#[]⟩⟩ := by
  show baseI _ = _
  unfold baseI
  rw [if_pos ⟨rfl, h⟩]; rfl
theorem put_no {l : List RecD} {v : IvD} {k : ByteArray} {p : Int} (h : foldI l = some v) (hn : v.held = true ∨ (atE v.ents k).isSome = true) : foldI (putI8 k p :: l) = none := by
  have hne : l ≠ [] := by rintro rfl; cases h
  rw [foldI_cons _ hne, h]
  show stepI v (putI8 k p) = none
  cases hf : v.held with
  | true => exact stepI_held hf (show (8 : Int) ≠ 11 by decide)
  | false =>
    rw [stepI_put hf rfl]
    unfold putI
    rw [if_neg (fun hc => ?_)]
    rcases hn with hn | hn
    · rw [hf] at hn; cases hn
    · rw [show (putI8 k p).sc.key = k from rfl] at hc
      rw [hc.1] at hn; cases hn
theorem put_yes {l : List RecD} {v : IvD} {k : ByteArray} {p : Int} (h : foldI l = some v) (hf : v.held = false) (ha : atE v.ents k = none) (hi : inI v k = true) :
    ∃ w, foldI (putI8 k p :: l) = some w ∧ childI w k = some (k, p) ∧ w.ents.length = v.ents.length + 1 := by
  have hne : l ≠ [] := by rintro rfl; cases h
  have e : putI v k p = some { v with ents := insE v.ents (k, p) } := by unfold putI; rw [if_pos ⟨ha, hi⟩]
  refine ⟨_, ?_, (good_put (goodI_fold h) hf e).2.2⟩
  rw [foldI_cons _ hne, h]
  exact (stepI_put hf rfl).trans e
/-- both halves of a view -/
structure Halves (v : IvD) (n : Nat) (k0 : ByteArray) : Prop where
  pos : 0 < n
  lt : n < v.ents.length
  key : (v.ents.getD n e0).1 = k0
theorem halves_of {v : IvD} (h : 2 ≤ v.ents.length) : Halves v (v.ents.length / 2) (v.ents.getD (v.ents.length / 2) e0).1 := ⟨by omega, by omega, rfl⟩
theorem half_left {v : IvD} (g : GoodI v) {n : Nat} {k0 : ByteArray} (h : Halves v n k0) (right : Int) : soundI ⟨v.low, k0, false, right, v.ents.take n, false, 0, 0, ⟨#[]⟩⟩ = true := by
  obtain ⟨a, e, b, e1, e2, e3, e4, e5, -⟩ := split_at h.lt
  have hk := h.key
  rw [e3] at hk
  have hr := g.ris
  rw [e1] at hr
  have hne : a ≠ [] := by rintro rfl; have := h.pos; simp at e2; omega
  rw [e4]
  refine (soundI_iff _).2 ⟨?_, fun h => (by cases h), risE_left a hr, fun x hx => ?_⟩
  · have := g.first
    rw [e1, firstB_app hne] at this
    exact this
  · have hb := risE_apart a hr x hx e (by simp)
    rw [hk] at hb
    exact (inK_iff _ _ _ _).2 ⟨((inI_iff v _).1 (g.inn x (by rw [e1]; simp [hx]))).1, .inr hb⟩
theorem half_right {v : IvD} (g : GoodI v) {n : Nat} {k0 : ByteArray} (h : Halves v n k0) : soundI ⟨k0, v.high, v.unb, v.right, v.ents.drop n, false, 0, 0, ⟨#[]⟩⟩ = true := by
  obtain ⟨a, e, b, e1, e2, e3, e4, e5, -⟩ := split_at h.lt
  have hk := h.key
  rw [e3] at hk
  have hr := g.ris
  rw [e1] at hr
  have r2 := risE_right a hr
  rw [e5]
  refine (soundI_iff _).2 ⟨?_, g.high, r2, fun x hx => ?_⟩
  · show eqB e.1 k0 = true
    rw [hk]; exact eqB_self _
  · have hx' := ((inI_iff v _).1 (g.inn x (by rw [e1]; exact List.mem_append_right _ hx))).2
    refine (inK_iff _ _ _ _).2 ⟨?_, hx'⟩
    show bef x.1.data.toList k0.data.toList = false
    rw [← hk]
    rcases List.mem_cons.1 hx with rfl | hx
    · exact bef_irr _
    · exact bef_asymm _ _ (risE_head _ _ (risE_cons r2).2 x hx)
theorem split_fold {l : List RecD} {v : IvD} (h : foldI l = some v) (hf : v.held = false) {n : Nat} {k0 : ByteArray} (hh : Halves v n k0) (p : Int) :
    foldI (splitI9 k0 p :: l) = some { v with high := k0, unb := false, right := p, ents := v.ents.take n } := by
  have hne : l ≠ [] := by rintro rfl; cases h
  have g := goodI_fold h
  obtain ⟨a, e, b, e1, e2, e3, e4, -, -⟩ := split_at hh.lt
  have hk := hh.key
  rw [e3] at hk
  have hr := g.ris
  rw [e1] at hr
  have ha : atE v.ents k0 = some n := by rw [e1, ← hk, atE_at a e b hr, e2]
  rw [foldI_cons _ hne, h]
  refine (stepI_split hf rfl).trans ?_
  show splitI v k0 p = _
  unfold splitI
  obtain ⟨m, rfl⟩ : ∃ m, n = m + 1 := ⟨n - 1, by have := hh.pos; omega⟩
  rw [ha]
/-- a key's child by the two halves -/
theorem half_child {v : IvD} (g : GoodI v) {n : Nat} {k0 : ByteArray} (h : Halves v n k0) (k : ByteArray) (w x : IvD) (hw : w.low = v.low ∧ w.high = k0 ∧ w.unb = false ∧ w.ents = v.ents.take n) (hx : x.low = k0 ∧ x.high = v.high ∧ x.unb = v.unb ∧ x.ents = v.ents.drop n) :
    (childI v k = none → childI w k = none ∧ childI x k = none) ∧
      ∀ c, childI v k = some c → (bef k.data.toList k0.data.toList = true ∧ childI w k = some c ∧ childI x k = none) ∨ (bef k.data.toList k0.data.toList = false ∧ childI w k = none ∧ childI x k = some c) := by
  obtain ⟨a, e, b, e1, e2, e3, e4, e5, -⟩ := split_at h.lt
  have hk := h.key
  rw [e3] at hk
  have hr := g.ris
  rw [e1] at hr
  have hne : a ≠ [] := by rintro rfl; have := h.pos; simp at e2; omega
  obtain ⟨y, a', rfl⟩ : ∃ y a', a = y :: a' := by
    cases a with
    | nil => exact absurd rfl hne
    | cons y a' => exact ⟨y, a', rfl⟩
  have hy : y.1 = v.low := by
    have := g.first
    rw [e1] at this
    exact (eqB_iff _ _).1 this
  have he : inI v e.1 = true := g.inn e (by rw [e1]; simp)
  have he2 := ((inI_iff v _).1 he)
  rw [hk] at he2
  by_cases hb : bef k.data.toList k0.data.toList = true
  · have cx : childI x k = none := by
      unfold childI inI
      rw [if_neg]
      intro hi
      have := ((inK_iff _ _ _ _).1 hi).1
      rw [hx.1, hb] at this
      cases this
    have iv : inI v k = inI w k := by
      cases hv : inI w k with
      | true =>
        have := ((inI_iff w k).1 hv).1
        rw [hw.1] at this
        refine (inI_iff v k).2 ⟨this, he2.2.imp id fun h2 => bef_trans _ _ _ hb h2⟩
      | false =>
        cases hv2 : inI v k with
        | false => rfl
        | true =>
          have := ((inI_iff v k).1 hv2).1
          rw [(inI_iff w k).2 ⟨by rw [hw.1]; exact this, .inr (by rw [hw.2.1]; exact hb)⟩] at hv
          cases hv
    have cv : childI v k = childI w k := by
      unfold childI
      rw [iv, hw.2.2.2, e4, e1, childL_lo _ e b hr (by rw [hk]; exact hb)]
    rw [cv]
    exact ⟨fun h => ⟨h, cx⟩, fun c h => .inl ⟨hb, h, cx⟩⟩
  · have hb' : bef k.data.toList k0.data.toList = false := by simpa using hb
    have cw : childI w k = none := by
      unfold childI inI
      rw [if_neg]
      intro hi
      rcases ((inK_iff _ _ _ _).1 hi).2 with h | h
      · rw [hw.2.2.1] at h; cases h
      · rw [hw.2.1, hb'] at h; cases h
    have iv : inI v k = inI x k := by
      cases hv : inI x k with
      | true =>
        have := ((inI_iff x k).1 hv).2
        rw [hx.2.1, hx.2.2.1] at this
        refine (inI_iff v k).2 ⟨?_, this⟩
        cases hkl : bef k.data.toList v.low.data.toList with
        | false => rfl
        | true =>
          have hyk : bef y.1.data.toList e.1.data.toList = true := risE_apart (y :: a') hr y (by simp) e (by simp)
          rw [hy, hk] at hyk
          rw [bef_trans _ _ _ hkl hyk] at hb'
          cases hb'
      | false =>
        cases hv2 : inI v k with
        | false => rfl
        | true =>
          have := ((inI_iff v k).1 hv2).2
          rw [(inI_iff x k).2 ⟨by rw [hx.1]; exact hb', by rw [hx.2.1, hx.2.2.1]; exact this⟩] at hv
          cases hv
    have cv : childI v k = childI x k := by
      unfold childI
      rw [iv, hx.2.2.2, e5, e1, childL_hi _ e b hr (by rw [hk]; exact hb')]
    rw [cv]
    exact ⟨fun h => ⟨cw, h⟩, fun c h => .inr ⟨hb', cw, h⟩⟩
/-- an inner page with two below: a key's child by two steps -/
theorem grow_child {v : IvD} (g : GoodI v) {n : Nat} {k0 : ByteArray} (h : Halves v n k0) (left right : Int) (hlr : left ≠ right) (k : ByteArray) (x y t : IvD) (hx : x.low = v.low ∧ x.high = k0 ∧ x.unb = false ∧ x.ents = v.ents.take n) (hy : y.low = k0 ∧ y.high = v.high ∧ y.unb = v.unb ∧ y.ents = v.ents.drop n)
    (ht : t.low = v.low ∧ t.high = v.high ∧ t.unb = v.unb ∧ t.ents = [(v.low, left), (k0, right)]) :
    (childI v k = none → childI t k = none) ∧ ∀ c, childI v k = some c → ∃ f, childI t k = some f ∧ (f.2 = right → childI y k = some c) ∧ (f.2 ≠ right → childI x k = some c) := by
  have it : inI t k = inI v k := by unfold inI; rw [ht.1, ht.2.1, ht.2.2.1]
  have hc := half_child g h k x y hx hy
  obtain ⟨a, e, b, e1, e2, e3, e4, e5, -⟩ := split_at h.lt
  have hne : a ≠ [] := by rintro rfl; have := h.pos; simp at e2; omega
  obtain ⟨z, a', rfl⟩ : ∃ y a', a = y :: a' := by
    cases a with
    | nil => exact absurd rfl hne
    | cons y a' => exact ⟨y, a', rfl⟩
  have hz : z.1 = v.low := by
    have := g.first
    rw [e1] at this
    exact (eqB_iff _ _).1 this
  refine ⟨fun hn => ?_, fun c hs => ?_⟩
  · unfold childI at hn ⊢
    rw [it]
    split at hn
    · next hi =>
      exfalso
      have hlow : bef k.data.toList z.1.data.toList = false := by rw [hz]; exact ((inI_iff v k).1 hi).1
      rw [e1] at hn
      obtain ⟨d, hd⟩ := childL_some z (a' ++ e :: b) hlow
      rw [List.cons_append, hd] at hn
      cases hn
    · next hi => rw [if_neg hi]
  · have hi := (one_has hs).2
    have hlow : bef k.data.toList ((v.low, left) : En).1.data.toList = false := ((inI_iff v k).1 hi).1
    have hks : bef v.low.data.toList k0.data.toList = true := by
      have hr := g.ris
      rw [e1] at hr
      have := risE_apart (z :: a') hr z (by simp) e (by simp)
      have hk := h.key
      rw [e3] at hk
      rw [hz, hk] at this
      exact this
    rcases hc.2 c hs with ⟨hb, h1, -⟩ | ⟨hb, -, h2⟩
    · refine ⟨(v.low, left), ?_, fun h => absurd h hlr, fun _ => h1⟩
      unfold childI
      rw [it, if_pos hi, ht.2.2.2]
      show (if bef k.data.toList v.low.data.toList = true then none else some ((childL [(k0, right)] k).getD (v.low, left))) = _
      rw [if_neg (by rw [show bef k.data.toList v.low.data.toList = false from hlow]; simp), childL_first (k0, right) [] hb]; rfl
    · refine ⟨(k0, right), ?_, fun _ => h2, fun h => absurd rfl h⟩
      unfold childI
      rw [it, if_pos hi, ht.2.2.2]
      show (if bef k.data.toList v.low.data.toList = true then none else some ((childL [(k0, right)] k).getD (v.low, left))) = _
      rw [if_neg (by rw [show bef k.data.toList v.low.data.toList = false from hlow]; simp), childL_one (k0, right) hb]; rfl
theorem grow_top {v : IvD} (g : GoodI v) {n : Nat} {k0 : ByteArray} (h : Halves v n k0) (left right : Int) : soundI ⟨v.low, v.high, v.unb, v.right, [(v.low, left), (k0, right)], false, 0, 0, ⟨#[]⟩⟩ = true := by
  obtain ⟨a, e, b, e1, e2, e3, e4, e5, -⟩ := split_at h.lt
  have hne : a ≠ [] := by rintro rfl; have := h.pos; simp at e2; omega
  obtain ⟨z, a', rfl⟩ : ∃ y a', a = y :: a' := by
    cases a with
    | nil => exact absurd rfl hne
    | cons y a' => exact ⟨y, a', rfl⟩
  have hz : z.1 = v.low := by
    have := g.first
    rw [e1] at this
    exact (eqB_iff _ _).1 this
  have hr := g.ris
  rw [e1] at hr
  have hk := h.key
  rw [e3] at hk
  have hks : bef v.low.data.toList k0.data.toList = true := by
    have := risE_apart (z :: a') hr z (by simp) e (by simp)
    rw [hz, hk] at this
    exact this
  have i1 : inI v v.low = true := by rw [← hz]; exact g.inn z (by rw [e1]; simp)
  have i2 : inI v k0 = true := by rw [← hk]; exact g.inn e (by rw [e1]; simp)
  refine (soundI_iff _).2 ⟨eqB_self _, g.high, risE_mk (fun q hq => by cases hq) (risE_mk (fun q hq => by rw [← Option.some.inj hq]; exact hks) rfl), fun x hx => ?_⟩
  simp only [List.mem_cons, List.not_mem_nil, or_false] at hx
  rcases hx with rfl | rfl
  · exact i1
  · exact i2
theorem back_fold {v : IvD} (g : GoodI v) : foldI [baseI7 v.low v.high v.unb v.right v.ents] = some ⟨v.low, v.high, v.unb, v.right, v.ents, false, 0, 0, ⟨#[]⟩⟩ :=
  fold_base ((soundI_iff _).2 ⟨g.first, g.high, g.ris, g.inn⟩)
theorem pageE_some : ∀ {l : List En} {p : Int} {i : Nat}, pageE l p = some i → i + 1 < l.length ∧ (l.getD (i + 1) e0).2 = p
  | [], _, _, h => by cases h
  | [_], _, _, h => by cases h
  | x :: e :: l, p, i, h => by
    unfold pageE at h
    split at h
    · next he =>
      obtain rfl := Option.some.inj h
      exact ⟨by simp, by simpa using he⟩
    · obtain ⟨m, hm, rfl⟩ := Option.map_eq_some_iff.1 h
      obtain ⟨h1, h2⟩ := pageE_some hm
      exact ⟨by simp at h1 ⊢; omega, by simpa using h2⟩
/-- what is held and dropped -/
theorem drop_math {l : List RecD} {v : IvD} (h : foldI l = some v) (hf : v.held = false) {p : Int} {i : Nat} (hp : pageE v.ents p = some i) :
    foldI (holdI10 p (v.ents.getD i e0).2 (v.ents.getD (i + 1) e0).1 :: l) = some { v with held := true, hp := p, hl := (v.ents.getD i e0).2, hk := (v.ents.getD (i + 1) e0).1 } ∧
    ∃ w : IvD, foldI (dropI11 :: holdI10 p (v.ents.getD i e0).2 (v.ents.getD (i + 1) e0).1 :: l) = some w ∧ w.held = false ∧ w.ents.length + 1 = v.ents.length ∧ ∀ k,
      (childI v k = none → childI w k = none) ∧ ∀ c, childI v k = some c → (c.1 = (v.ents.getD (i + 1) e0).1 → ∃ d, childI w k = some d ∧ d.2 = (v.ents.getD i e0).2) ∧ (c.1 ≠ (v.ents.getD (i + 1) e0).1 → childI w k = some c) := by
  have hne : l ≠ [] := by rintro rfl; cases h
  have g := goodI_fold h
  obtain ⟨h1, h2⟩ := pageE_some hp
  obtain ⟨a, e, b, e1, e2, e3, e4, -, e5⟩ := split_at h1
  obtain ⟨m, hm⟩ : ∃ m, m = (v.ents.getD i e0) := ⟨_, rfl⟩
  obtain ⟨a', rfl⟩ : ∃ a', a = a' ++ [m] := by
    have hne2 : a ≠ [] := by rintro rfl; simp at e2
    refine ⟨a.dropLast, ?_⟩
    have hl : a.getLast hne2 = m := by
      rw [hm, e1, List.getD, List.getElem?_append_left (by omega), List.getLast_eq_getElem, List.getElem?_eq_getElem (by omega)]
      simp [e2]
    rw [← hl, List.dropLast_concat_getLast]
  have hr := g.ris
  rw [e1] at hr
  rw [e3] at h2 ⊢
  rw [← hm]
  have ha : atE v.ents e.1 = some (i + 1) := by rw [e1, atE_at _ e b hr, e2]
  have f1 : foldI (holdI10 p m.2 e.1 :: l) = some { v with held := true, hp := p, hl := m.2, hk := e.1 } := by
    rw [foldI_cons _ hne, h]
    refine (stepI_hold hf rfl).trans ?_
    show holdI v p m.2 e.1 = _
    unfold holdI
    rw [ha]
    show (if _ then _ else _) = _
    rw [if_pos ⟨by rw [e3]; exact h2, by rw [← hm]⟩]
  refine ⟨f1, ⟨v.low, v.high, v.unb, v.right, a' ++ [m] ++ b, false, 0, 0, ⟨#[]⟩⟩, ?_, rfl, ?_, fun k => ?_⟩
  · rw [foldI_cons _ (by simp), f1]
    refine (stepI_drop rfl rfl).trans ?_
    unfold dropI
    show (match atE v.ents e.1 with | some n => _ | none => _) = _
    rw [ha]
    show some (IvD.mk v.low v.high v.unb v.right (v.ents.take (i + 1) ++ v.ents.drop (i + 1 + 1)) false 0 0 ⟨#[]⟩) = _
    rw [e4, e5]
  · show (a' ++ [m] ++ b).length + 1 = _
    rw [e1]
    simp only [List.length_append, List.length_cons, List.length_nil]
    omega
  · have rb := risE_right _ hr
    have hwr : risE none (a' ++ [m] ++ b) = true := risE_app _ (risE_left _ hr) (risE_none (risE_cons rb).2) (fun q hq => by cases hq) (fun x hx y hy => risE_apart _ hr x hx y (by simp [hy]))
    have hme : bef m.1.data.toList e.1.data.toList = true := risE_apart _ hr m (by simp) e (by simp)
    show (childI v k = none → (if inI v k = true then childL (a' ++ [m] ++ b) k else none) = none) ∧ ∀ c, childI v k = some c → (c.1 = e.1 → ∃ d, (if inI v k = true then childL (a' ++ [m] ++ b) k else none) = some d ∧ d.2 = m.2) ∧ (c.1 ≠ e.1 → (if inI v k = true then childL (a' ++ [m] ++ b) k else none) = some c)
    unfold childI
    by_cases hi : inI v k = true
    rotate_left
    · simp only [if_neg hi]
      exact ⟨fun _ => trivial, fun c h => (by cases h)⟩
    simp only [if_pos hi]
    rw [e1]
    by_cases hke : bef k.data.toList e.1.data.toList = true
    · have c1 := childL_lo (a' ++ [m]) e b hr hke
      have c2 : childL (a' ++ [m] ++ b) k = childL (a' ++ [m]) k := by
        cases b with
        | nil => rw [List.append_nil]
        | cons y b => exact childL_lo (a' ++ [m]) y b hwr (bef_trans _ _ _ hke (risE_head _ _ (risE_cons rb).2 y (by simp)))
      rw [c1, c2]
      refine ⟨fun h => h, fun c hc => ⟨fun he => ?_, fun _ => hc⟩⟩
      have := risE_apart _ hr c (childL_mem hc).1 e (by simp)
      rw [he, bef_irr] at this
      cases this
    · have hke' : bef k.data.toList e.1.data.toList = false := by simpa using hke
      have c1 := childL_hi (a' ++ [m]) e b hr hke'
      rw [c1]
      have hmk : bef k.data.toList m.1.data.toList = false := bef_le hke' hme
      have tail : (∀ y b', b = y :: b' → bef k.data.toList y.1.data.toList = true) → childL (a' ++ [m] ++ b) k = some m ∧ childL (e :: b) k = some e := fun hb => by
        have s1 : childL (a' ++ [m]) k = some m := by
          have := childL_hi a' m [] (risE_left _ hr) hmk
          rw [this]; exact childL_one m hmk
        cases b with
        | nil => exact ⟨by rw [List.append_nil]; exact s1, childL_one e hke'⟩
        | cons y b =>
          have hy := hb y b rfl
          exact ⟨(childL_lo (a' ++ [m]) y b hwr hy).trans s1, (childL_lo [e] y b rb hy).trans (childL_one e hke')⟩
      cases b with
      | nil =>
        obtain ⟨t1, t2⟩ := tail (fun y b' h => by cases h)
        rw [t1, t2]
        refine ⟨fun h => (by cases h), fun c hc => ?_⟩
        obtain rfl := Option.some.inj hc
        exact ⟨fun _ => ⟨m, rfl, rfl⟩, fun h => absurd rfl h⟩
      | cons y b =>
        by_cases hy : bef k.data.toList y.1.data.toList = true
        · obtain ⟨t1, t2⟩ := tail (fun y' b' h => by obtain ⟨rfl, rfl⟩ := List.cons.inj h; exact hy)
          rw [t1, t2]
          refine ⟨fun h => (by cases h), fun c hc => ?_⟩
          obtain rfl := Option.some.inj hc
          exact ⟨fun _ => ⟨m, rfl, rfl⟩, fun h => absurd rfl h⟩
        · have hy' : bef k.data.toList y.1.data.toList = false := by simpa using hy
          have c3 := childL_hi (a' ++ [m]) y b hwr hy'
          have c4 : childL (e :: y :: b) k = childL (y :: b) k := childL_hi [e] y b rb hy'
          rw [c3, c4]
          refine ⟨fun h => h, fun c hc => ⟨fun he => ?_, fun _ => hc⟩⟩
          have := risE_head _ _ (risE_cons rb).2 c (childL_mem hc).1
          rw [he, bef_irr] at this
          cases this
end Go.Proofs.Ytkkmfacngmginaa
