/- Plain facts on all that was ever put: a slot's state, filling an arena. -/
import Derived.Test.YtabchlgbdlgacaaMm
import Derived.Test.YtabchlgbdlgacaaArMod
namespace Go.Proofs.Ytabchlgbdlgacaa
open Go.RowKit

theorem slotOf_snoc (ps : List Pt) (p : Pt) (m : Nat) : slotOf (ps ++ [p]) m = if p.slot = m then (p.gen, p.live) else slotOf ps m := by
  unfold slotOf
  rw [List.foldl_append]
  rfl
theorem slotOf_nil (m : Nat) : slotOf [] m = (0, false) := rfl
/-- k records d, in the first k slots, each the first there -/
def fillP (d : RecD) : Nat → List Pt
  | 0 => []
  | k + 1 => fillP d k ++ [⟨k + 1, 1, d, true⟩]
theorem fillP_slot (d : RecD) : ∀ (k m : Nat), slotOf (fillP d k) m = if 1 ≤ m ∧ m ≤ k then (1, true) else (0, false)
  | 0, m => by
    rw [if_neg (by omega)]
    rfl
  | k + 1, m => by
    unfold fillP
    rw [slotOf_snoc, fillP_slot d k m]
    by_cases h : k + 1 = m
    · rw [if_pos h, if_pos (by omega)]
    · rw [if_neg h]
      by_cases h2 : 1 ≤ m ∧ m ≤ k
      · rw [if_pos h2, if_pos (by omega)]
      · rw [if_neg h2, if_neg (by omega)]
theorem fillP_len (d : RecD) : ∀ k, (fillP d k).length = k
  | 0 => rfl
  | k + 1 => by unfold fillP; simp [fillP_len d k]
theorem fillP_in (d : RecD) {k m : Nat} (h1 : 1 ≤ m) (h2 : m ≤ k) : slotOf (fillP d k) m = (1, true) := by rw [fillP_slot, if_pos ⟨h1, h2⟩]
theorem fillP_out (d : RecD) {k m : Nat} (h : ¬ (1 ≤ m ∧ m ≤ k)) : slotOf (fillP d k) m = (0, false) := by rw [fillP_slot, if_neg h]
theorem allocGo_used {l : Nat} {ps : List Pt} {f m g : Nat} {e : Int} (h : slotOf ps m = (g, true)) : allocGo l ps (f + 1) m e = allocGo l ps f (m + 1) e := by
  show (if (slotOf ps m).2 = true then _ else _) = _
  rw [h]; rfl
theorem allocGo_free {l : Nat} {ps : List Pt} {f m g : Nat} {e : Int} (h : slotOf ps m = (g, false)) (hl : g < l) : allocGo l ps (f + 1) m e = (m, g + 1, 0) := by
  show (if (slotOf ps m).2 = true then _ else if (slotOf ps m).1 < l then (m, (slotOf ps m).1 + 1, 0) else _) = _
  rw [h, if_neg (by simp), if_pos hl]
theorem allocGo_worn {l : Nat} {ps : List Pt} {f m g : Nat} {e : Int} (h : slotOf ps m = (g, false)) (hl : ¬ g < l) : allocGo l ps (f + 1) m e = allocGo l ps f (m + 1) 5 := by
  show (if (slotOf ps m).2 = true then _ else if (slotOf ps m).1 < l then (m, (slotOf ps m).1 + 1, 0) else _) = _
  rw [h, if_neg (by simp), if_neg hl]
theorem allocGo_fill (d : RecD) (k : Nat) : ∀ (f m : Nat) (e : Int), 1 ≤ m → m ≤ k + 1 → k + 1 < m + f → allocGo 1 (fillP d k) f m e = (k + 1, 1, 0)
  | 0, m, e, _, h2, h3 => by omega
  | f + 1, m, e, h1, h2, h3 => by
    by_cases h : m ≤ k
    · rw [allocGo_used (fillP_in d h1 h)]
      exact allocGo_fill d k f (m + 1) e (by omega) (by omega) (by omega)
    · have : m = k + 1 := by omega
      subst this
      rw [allocGo_free (fillP_out d (by omega)) (by omega)]
theorem allocM_fill (d : RecD) {n k : Nat} (h : k < n) : allocM n 1 (fillP d k) = (k + 1, 1, 0) := allocGo_fill d k n 1 3 (by omega) (by omega) (by omega)
theorem putM_fill (d : RecD) {n k : Nat} (h : k < n) : putM n 1 (fillP d k) d = fillP d (k + 1) := by
  unfold putM
  rw [allocM_fill d h]
  rfl
theorem allocGo_full (d : RecD) (n : Nat) : ∀ (f m : Nat) (e : Int), 1 ≤ m → m + f = n + 1 → allocGo 1 (fillP d n) f m e = (0, 0, e)
  | 0, _, _, _, _ => rfl
  | f + 1, m, e, h1, h2 => by
    rw [allocGo_used (fillP_in d h1 (by omega))]
    exact allocGo_full d n f (m + 1) e (by omega) (by omega)
theorem allocM_full (d : RecD) (n : Nat) : allocM n 1 (fillP d n) = (0, 0, 3) := allocGo_full d n n 1 3 (by omega) (by omega)
theorem putM_full (d : RecD) (n : Nat) : putM n 1 (fillP d n) d = fillP d n := by
  unfold putM
  rw [allocM_full]
  rfl
theorem leftM_full (d : RecD) (n : Nat) : leftM n 1 (fillP d n) = 0 := by
  unfold leftM
  rw [List.length_eq_zero_iff, List.filter_eq_nil_iff]
  intro i hi
  rw [fillP_in d (by omega) (by have := List.mem_range.1 hi; omega)]
  simp
/-- a full arena whose last slot was freed -/
def lastP (d : RecD) (n : Nat) : List Pt := fillP d n ++ [⟨n + 1, 1, d, false⟩]
theorem fillP_at (d : RecD) (x : Int) : ∀ (k : Nat), (k : Int) < x → ∀ p ∈ fillP d k, isAt x 1 p = false
  | 0, _, p, h => by simp [fillP] at h
  | k + 1, hx, p, h => by
    unfold fillP at h
    rcases List.mem_append.1 h with h | h
    · exact fillP_at d x k (by omega) p h
    · obtain rfl := List.mem_singleton.1 h
      unfold isAt
      have : (((k + 1 : Nat) : Int) == x) = false := by rw [beq_eq_false_iff_ne]; omega
      rw [this]
      rfl
theorem isAt_last (d : RecD) (n : Nat) : isAt ((n + 1 : Nat) : Int) 1 ⟨n + 1, 1, d, true⟩ = true := by
  show ((((n + 1 : Nat) : Int) == ((n + 1 : Nat) : Int)) && (((1 : Nat) : Int) == 1) && true) = true
  simp
theorem findM_last (d : RecD) (n : Nat) : findM (fillP d (n + 1)) ((n + 1 : Nat) : Int) 1 = some n := by
  unfold findM fillP
  rw [List.findIdx?_append]
  have h1 : (fillP d n).findIdx? (isAt ((n + 1 : Nat) : Int) 1) = none := by
    rw [List.findIdx?_eq_none_iff]
    intro p hp
    exact fillP_at d _ n (by omega) p hp
  rw [h1, List.findIdx?_cons, isAt_last]
  simp [fillP_len]
theorem codeM_last (d : RecD) (n : Nat) : codeM (n + 1) (fillP d (n + 1)) ((n + 1 : Nat) : Int) 1 = 0 := by
  unfold codeM
  rw [if_neg (by omega), findM_last]
  rfl
theorem modify_snoc {α : Type} (f : α → α) (x : α) : ∀ l : List α, (l ++ [x]).modify l.length f = l ++ [f x]
  | [] => rfl
  | y :: l => by
    show (y :: (l ++ [x])).modify (l.length + 1) f = _
    rw [List.modify_succ_cons, modify_snoc f x l]
    rfl
theorem freeM_last (d : RecD) (n : Nat) : freeM (n + 1) (fillP d (n + 1)) ((n + 1 : Nat) : Int) 1 = lastP d n := by
  unfold freeM
  rw [if_pos (codeM_last d n), findM_last]
  unfold fillP lastP
  have h := modify_snoc (fun p : Pt => { p with live := false }) ⟨n + 1, 1, d, true⟩ (fillP d n)
  rw [fillP_len] at h
  exact h
theorem lastP_in (d : RecD) {n m : Nat} (h1 : 1 ≤ m) (h2 : m ≤ n) : slotOf (lastP d n) m = (1, true) := by
  unfold lastP
  rw [slotOf_snoc, if_neg (by simp only; omega), fillP_in d h1 h2]
theorem lastP_at (d : RecD) (n : Nat) : slotOf (lastP d n) (n + 1) = (1, false) := by
  unfold lastP
  rw [slotOf_snoc, if_pos rfl]
theorem allocGo_last (d : RecD) (n : Nat) : ∀ (f m : Nat) (e : Int), 1 ≤ m → m + f = n + 2 → 1 ≤ f → allocGo 1 (lastP d n) f m e = (0, 0, 5)
  | 0, _, _, _, _, h => by omega
  | f + 1, m, e, h1, h2, _ => by
    by_cases h : m = n + 1
    · subst h
      have : f = 0 := by omega
      subst this
      rw [allocGo_worn (lastP_at d n) (by omega)]
      rfl
    · rw [allocGo_used (lastP_in d h1 (by omega))]
      exact allocGo_last d n f (m + 1) e (by omega) (by omega) (by omega)
theorem allocM_last (d : RecD) (n : Nat) : allocM (n + 1) 1 (lastP d n) = (0, 0, 5) := allocGo_last d n (n + 1) 1 3 (by omega) (by omega) (by omega)
/-- what lies below n is as it was -/
theorem low_step {n : Nat} {w w' : World} {b o : Nat} {v : Value} (h : w.cell? ⟨b, o, none⟩ = some v) (hs : Below n w w') (hb : b < n) : w'.cell? ⟨b, o, none⟩ = some v := (hs.cell (p := ⟨b, o, none⟩) hb).trans h
theorem RB.low {n b : Nat} {s : Sc} {rv ev : Value} {w w' : World} (h : RB b s rv ev w) (hs : Below n w w') (hb : b < n) : RB b s rv ev w' :=
  ⟨low_step h.c0 hs hb, low_step h.c1 hs hb, low_step h.c2 hs hb, low_step h.c3 hs hb, low_step h.c4 hs hb, low_step h.c5 hs hb, low_step h.c6 hs hb, low_step h.c7 hs hb, low_step h.c8 hs hb, low_step h.c9 hs hb, low_step h.c10 hs hb, low_step h.c11 hs hb, low_step h.c12 hs hb, low_step h.c13 hs hb, low_step h.c14 hs hb⟩
theorem low_move {n : Nat} {w0 w w' : World} (h : Below n w0 w ∧ n ≤ w.heap.size) (hs : Below w.heap.size w w') : Below n w0 w' ∧ n ≤ w'.heap.size := ⟨h.1.trans (hs.mono h.2), Nat.le_trans h.2 hs.size⟩
/-- Alloc, its answer told by numbers -/
theorem alloc_as (C : ArC) (a : Addr) (v : Value) (S : Nat → Prop) (n l : Nat) (ps : List Pt) (d : RecD) (i g : Nat) (e : Int) (x y : Int) (ev : Value) (qs : List Pt) (w : World) (h : C.Inv w a S n l ps) (hv : RecV w v d) (h1 : d.rows.length ≤ 1000) (h2 : d.ents.length ≤ 1000)
    (ha : allocM n l ps = (i, g, e)) (hq : putM n l ps d = qs) (hx : (i : Int) = x) (hy : (g : Int) = y) (he : errV e = ev) :
    Calls Try.prog 56 #[.pointer (some a), v] w fun ev' w' => ∃ S', ev' = .returned (.tuple #[.agg #[.int .i64 x, .int .i64 y], ev]) ∧ C.Inv w' a S' n l qs ∧ Kept S w w' ∧ (∀ k, S' k → S k ∨ w.heap.size ≤ k) := by
  subst hx hy he
  have t := C.alloc a v S n l ps d w h hv h1 h2
  rw [ha, hq] at t
  exact t
theorem free_as (C : ArC) (a : Addr) (S : Nat → Prop) (n l : Nat) (ps : List Pt) (x y e : Int) (ev : Value) (qs : List Pt) (w : World) (h : C.Inv w a S n l ps) (ha : codeM n ps x y = e) (hq : freeM n ps x y = qs) (he : errV e = ev) :
    Calls Try.prog 68 #[.pointer (some a), .agg #[.int .i64 x, .int .i64 y]] w fun ev' w' => ∃ S', ev' = .returned ev ∧ C.Inv w' a S' n l qs ∧ Kept S w w' ∧ (∀ k, S' k → S k ∨ w.heap.size ≤ k) := by
  subst he ha hq
  exact C.free a S n l ps x y w h
theorem codeM_full {d : RecD} {n : Nat} (h : 1 ≤ n) : codeM n (fillP d n) (n : Int) 1 = 0 := by
  obtain ⟨q, rfl⟩ : ∃ q, n = q + 1 := ⟨n - 1, by omega⟩
  exact codeM_last d q
theorem freeM_full {d : RecD} {n : Nat} (h : 1 ≤ n) : freeM n (fillP d n) (n : Int) 1 = lastP d (n - 1) := by
  obtain ⟨q, rfl⟩ : ∃ q, n = q + 1 := ⟨n - 1, by omega⟩
  exact freeM_last d q
theorem allocM_worn {d : RecD} {n : Nat} (h : 1 ≤ n) : allocM n 1 (lastP d (n - 1)) = (0, 0, 5) := by
  obtain ⟨q, rfl⟩ : ∃ q, n = q + 1 := ⟨n - 1, by omega⟩
  exact allocM_last d q
theorem putM_worn {d : RecD} {n : Nat} (h : 1 ≤ n) : putM n 1 (lastP d (n - 1)) d = lastP d (n - 1) := by
  unfold putM
  rw [allocM_worn h]
  rfl
end Go.Proofs.Ytabchlgbdlgacaa
