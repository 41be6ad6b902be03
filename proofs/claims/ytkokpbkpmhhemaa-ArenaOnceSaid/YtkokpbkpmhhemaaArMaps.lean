/- Maps keyed by refs: what they say at each ref. -/
import Derived.Test.YtkokpbkpmhhemaaArOnceP
import Derived.Maps.RangeWalk
import Derived.DeepKeys4
import Derived.Lib.SmallJoins
namespace Go.Proofs.Ytkokpbkpmhhemaa
open Go.RowKit Go.Maps

theorem laidOutA : laidOutB Try.prog = true := by kernel_rfl
theorem rowR : (34 : TypeId) < Try.prog.types.size := of_decide_eq_true (by kernel_rfl)
theorem wideR : (match Try.prog.underlying 34 with | some (.array _ _) | some (.struct _) => true | _ => false) = true := by rw [Try.underlying34]
theorem cellsR : Try.prog.cellsOf 34 = 2 := by kernel_rfl
theorem cellsI : Try.prog.cellsOf 3 = 1 := by kernel_rfl
theorem keyTypeR : Try.prog.keyType 34 = true := by kernel_rfl
set_option maxRecDepth 100000 in
theorem keyR : Keyed Try.prog 34 := Keyed.of_law (Go.deep_law_laid laidOutA (m := 2) (by omega) rowR (by kernel_rfl) wideR)
/-- what a ref reads as, as a key -/
def kR (p q : Int) : Lit := .string (keyBytes [.int .i64 p, .int .i64 q])
def wf64 (p : Int) : Prop := (Lit.int .i64 p).wf = true
theorem wf64_of {p : Int} (h1 : -9223372036854775808 ≤ p) (h2 : p ≤ 9223372036854775807) : wf64 p := wfI h1 h2
set_option maxRecDepth 100000 in
theorem lits_mk (d : Nat) {p q : Int} (hp : wf64 p) (hq : wf64 q) : Try.prog.keyLits (d + 1 + 1) 34 [.int .i64 p, .int .i64 q] = some [.int .i64 p, .int .i64 q] := by
  unfold Program.keyLits
  rw [Try.underlying34]
  unfold wf64 at hp hq
  simp [cellsR, cellsI, Program.keyLits, Try.underlying3, hp, hq]
set_option maxRecDepth 100000 in
theorem lit_int (d : Nat) {c : Value} {L : List Lit} (h : Try.prog.keyLits (d + 1) 3 [c] = some L) : ∃ p, c = .int .i64 p ∧ wf64 p ∧ L = [.int .i64 p] := by
  unfold Program.keyLits at h
  rw [Try.underlying3] at h
  split at h <;> simp_all [wf64]
set_option maxRecDepth 100000 in
theorem lits_inv (d : Nat) {c0 c1 : Value} {L : List Lit} (h : Try.prog.keyLits (d + 1 + 1) 34 [c0, c1] = some L) : ∃ p q, c0 = .int .i64 p ∧ c1 = .int .i64 q ∧ wf64 p ∧ wf64 q ∧ L = [.int .i64 p, .int .i64 q] := by
  unfold Program.keyLits at h
  rw [Try.underlying34] at h
  simp only [cellsR] at h
  split at h
  · simp only [cellsI, List.drop_zero, List.drop_succ_cons, List.take_succ_cons, List.take_zero, List.mapM_cons, List.mapM_nil, Option.pure_def, Option.bind_eq_bind, Option.bind_eq_some_iff, Option.map_eq_some_iff, Option.some.injEq] at h
    obtain ⟨Ls, ⟨L0, h0, Lr, ⟨L1, h1, Ln, rfl, rfl⟩, rfl⟩, rfl⟩ := h
    obtain ⟨p, rfl, hp, rfl⟩ := lit_int d h0
    obtain ⟨q, rfl, hq, rfl⟩ := lit_int d h1
    exact ⟨p, q, rfl, rfl, hp, hq, rfl⟩
  · cases h
theorem succ_of {n m : Nat} (h : m < n) : ∃ k, n = k + 1 := ⟨n - 1, by omega⟩
theorem size_succ : ∃ m, Try.prog.types.size = m + 1 := succ_of rowR
set_option maxRecDepth 100000 in
theorem keyOf_ref {p q : Int} (hp : wf64 p) (hq : wf64 q) : keyOf Try.prog 34 (.agg #[.int .i64 p, .int .i64 q]) = some (kR p q) := by
  obtain ⟨m, hm⟩ := size_succ
  unfold keyOf
  rw [Try.underlying34]
  simp only [keyTypeR, Value.formed, Try.underlying34, cellsR, hm]
  have := lits_mk m hp hq
  simp [Value.cells, this, kR]
set_option maxRecDepth 100000 in
theorem keyOf_ref_inv {v : Value} {kl : Lit} (h : keyOf Try.prog 34 v = some kl) : ∃ p q, v = .agg #[.int .i64 p, .int .i64 q] ∧ wf64 p ∧ wf64 q ∧ kl = kR p q := by
  obtain ⟨m, hm⟩ := size_succ
  have hf : v.formed Try.prog 34 = true := by
    unfold keyOf at h
    rw [Try.underlying34] at h
    simp only at h
    split at h
    · rename_i hh; exact (Bool.and_eq_true_iff.1 hh).2
    · cases h
  obtain ⟨xs, L, rfl, h1, rfl⟩ := Go.keyOf_top wideR h
  simp only [Value.formed, Try.underlying34, cellsR, beq_iff_eq] at hf
  obtain ⟨c0, c1, rfl⟩ := Go.Joins.array2 hf
  rw [hm] at h1
  obtain ⟨p, q, rfl, rfl, hp, hq, rfl⟩ := lits_inv m h1
  exact ⟨p, q, rfl, hp, hq, rfl⟩
theorem kR_inj {p q p' q' : Int} (hp : wf64 p) (hq : wf64 q) (hp' : wf64 p') (hq' : wf64 q') (h : kR p q = kR p' q') : p = p' ∧ q = q' := by
  have := keyR.inj (keyOf_ref hp hq) (h ▸ keyOf_ref hp' hq')
  simpa using this
theorem kR_key {p q : Int} (hp : wf64 p) (hq : wf64 q) : WideAt.IsKeyLit (kR p q) := keyR.key (keyOf_ref hp hq)
theorem kR_same {p q p' q' : Int} (hp : wf64 p) (hq : wf64 q) (hp' : wf64 p') (hq' : wf64 q') : (kR p q).sameKey (kR p' q') = eqR p q p' q' := by
  by_cases e : p = p' ∧ q = q'
  · obtain ⟨rfl, rfl⟩ := e
    rw [WideAt.sameKey_self (kR_key hp hq)]
    simp [eqR]
  · rw [sameKey_ne (fun h => e (kR_inj hp hq hp' hq' h))]
    symm
    rw [Bool.eq_false_iff]
    unfold eqR
    intro h
    simp only [Bool.and_eq_true, beq_iff_eq] at h
    exact e h
/-- a map from refs: what is there, with 1 -/
structure MapD (w : World) (mb c : Nat) (U : Int → Int → Bool) (sz : Nat) (D : DataW Unit) : Prop where
  own : w.ownsMap Try.prog 34 (plainElem Try.prog 3) mb c D
  has : ∀ p q, wf64 p → wf64 q → Maps.has D (kR p q) = U p q
  at1 : ∀ p q, wf64 p → wf64 q → D.atKey (kR p q) (.lit (.int .i64 0)) = .lit (.int .i64 (if U p q then 1 else 0))
  size : Maps.size D = sz
theorem MapD.made (w : World) : MapD (w.alloc (.map #[] 0)) w.heap.size 0 (fun _ _ => false) 0 (.map []) := ⟨World.ownsMap_made _ _ _ _, fun _ _ _ _ => rfl, fun _ _ _ _ => rfl, rfl⟩
theorem MapD.kept {w w' : World} {mb c sz : Nat} {U : Int → Int → Bool} {D : DataW Unit} (h : MapD w mb c U sz D) {row : Option Nat} (hg : w.grownBy w' row) (hne : some mb ≠ row) : MapD w' mb c U sz D := ⟨h.own.kept hg hne, h.has, h.at1, h.size⟩
theorem grown_low {w w' : World} (hs : Below w.heap.size w w') : w.grownBy w' none := ⟨hs.os, hs.tape, hs.output, hs.size, fun k hk _ => hs.block k hk⟩
theorem MapD.low {w w' : World} {mb c sz : Nat} {U : Int → Int → Bool} {D : DataW Unit} (h : MapD w mb c U sz D) (hs : Below w.heap.size w w') : MapD w' mb c U sz D := h.kept (grown_low hs) (by simp)
theorem MapD.keptS {S : Nat → Prop} {w w' : World} {mb c sz : Nat} {U : Int → Int → Bool} {D : DataW Unit} (h : MapD w mb c U sz D) (hk : Kept S w w') (hS : ¬ S mb) : MapD w' mb c U sz D := by
  obtain ⟨es, clock, hb, r⟩ := h.own
  exact ⟨⟨es, clock, (hk.block mb (Array.getElem?_eq_some_iff.1 hb).1 hS).trans hb, r⟩, h.has, h.at1, h.size⟩
theorem MapD.put {w w' : World} {mb c c' sz : Nat} {U : Int → Int → Bool} {D : DataW Unit} (h : MapD w mb c U sz D) {x y : Int} (hx : wf64 x) (hy : wf64 y) (hn : w'.ownsMap Try.prog 34 (plainElem Try.prog 3) mb c' (D.put (kR x y) (.lit (.int .i64 1)))) :
    MapD w' mb c' (fun p q => U p q || eqR p q x y) (if U x y then sz else sz + 1) (D.put (kR x y) (.lit (.int .i64 1))) := by
  have hm := h.own.isMap
  refine ⟨hn, fun p q hp hq => ?_, fun p q hp hq => ?_, ?_⟩
  · by_cases e : p = x ∧ q = y
    · obtain ⟨rfl, rfl⟩ := e
      rw [has_put_same hm (kR_key hp hq)]; simp [eqR]
    · rw [has_put_other (fun h => e (kR_inj hp hq hx hy h)), h.has p q hp hq]
      have : eqR p q x y = false := by rw [Bool.eq_false_iff]; unfold eqR; intro h; simp only [Bool.and_eq_true, beq_iff_eq] at h; exact e h
      rw [this, Bool.or_false]
  · by_cases e : p = x ∧ q = y
    · obtain ⟨rfl, rfl⟩ := e
      rw [atKey_put_same hm (kR_key hp hq)]; simp [eqR]
    · rw [atKey_put_other (fun h => e (kR_inj hp hq hx hy h)), h.at1 p q hp hq]
      have : eqR p q x y = false := by rw [Bool.eq_false_iff]; unfold eqR; intro h; simp only [Bool.and_eq_true, beq_iff_eq] at h; exact e h
      rw [this, Bool.or_false]
  · rw [size_put (h.own.tidy keyR), h.has x y hx hy, h.size]
theorem MapD.del {w w' : World} {mb c c' sz : Nat} {U : Int → Int → Bool} {D : DataW Unit} (h : MapD w mb c U (sz + 1) D) {x y : Int} (hx : wf64 x) (hy : wf64 y) (hU : U x y = true) (hn : w'.ownsMap Try.prog 34 (plainElem Try.prog 3) mb c' (D.del (kR x y))) :
    MapD w' mb c' (fun p q => U p q && !eqR p q x y) sz (D.del (kR x y)) := by
  refine ⟨hn, fun p q hp hq => ?_, fun p q hp hq => ?_, ?_⟩
  · by_cases e : p = x ∧ q = y
    · obtain ⟨rfl, rfl⟩ := e
      rw [has_del_same]; simp [eqR]
    · rw [has_del_other (fun h => e (kR_inj hp hq hx hy h)), h.has p q hp hq]
      have : eqR p q x y = false := by rw [Bool.eq_false_iff]; unfold eqR; intro h; simp only [Bool.and_eq_true, beq_iff_eq] at h; exact e h
      rw [this]; simp
  · by_cases e : p = x ∧ q = y
    · obtain ⟨rfl, rfl⟩ := e
      rw [atKey_del_same]; simp [eqR]
    · rw [atKey_del_other (fun h => e (kR_inj hp hq hx hy h)), h.at1 p q hp hq]
      have : eqR p q x y = false := by rw [Bool.eq_false_iff]; unfold eqR; intro h; simp only [Bool.and_eq_true, beq_iff_eq] at h; exact e h
      rw [this]; simp
  · have := size_del (k := kR x y) (h.own.tidy keyR)
    rw [h.has x y hx hy, hU, h.size] at this
    simpa using this
end Go.Proofs.Ytkokpbkpmhhemaa
