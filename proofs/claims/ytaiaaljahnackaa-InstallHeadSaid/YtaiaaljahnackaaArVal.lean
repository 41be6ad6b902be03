/- Plain facts on all that was ever put: each slot's live record is its last one; what putting and freeing do to the slots' states. -/
import Derived.Test.YtaiaaljahnackaaMm
import Derived.Test.YtaiaaljahnackaaArMod
namespace Go.Proofs.Ytaiaaljahnackaa
open Go.RowKit

theorem slotOf_snoc (ps : List Pt) (p : Pt) (m : Nat) : slotOf (ps ++ [p]) m = if p.slot = m then (p.gen, p.live) else slotOf ps m := by
  unfold slotOf
  rw [List.foldl_append]
  rfl
theorem slotOf_nil (m : Nat) : slotOf [] m = (0, false) := rfl
/-- k records d, in the first k slots, each the first there -/
def fillP (d : RecD) : Nat → List Pt
  | 0 => []
  | k + 1 => fillP d k ++ [⟨k + 1, 1, d, true⟩]
theorem fillP_slot (d : RecD) : ∀ (k m : Nat), slotOf (fillP d k) m = if 1 ≤ m ∧ m ≤ k then (1, true) else (0, false)
  | 0, m => by
    rw [if_neg (by omega)]
    rfl
  | k + 1, m => by
    unfold fillP
    rw [slotOf_snoc, fillP_slot d k m]
    by_cases h : k + 1 = m
    · rw [if_pos h, if_pos (by omega)]
    · rw [if_neg h]
      by_cases h2 : 1 ≤ m ∧ m ≤ k
      · rw [if_pos h2, if_pos (by omega)]
      · rw [if_neg h2, if_neg (by omega)]
theorem fillP_len (d : RecD) : ∀ k, (fillP d k).length = k
  | 0 => rfl
  | k + 1 => by unfold fillP; simp [fillP_len d k]
theorem fillP_in (d : RecD) {k m : Nat} (h1 : 1 ≤ m) (h2 : m ≤ k) : slotOf (fillP d k) m = (1, true) := by rw [fillP_slot, if_pos ⟨h1, h2⟩]
theorem fillP_out (d : RecD) {k m : Nat} (h : ¬ (1 ≤ m ∧ m ≤ k)) : slotOf (fillP d k) m = (0, false) := by rw [fillP_slot, if_neg h]
theorem allocGo_used {l : Nat} {ps : List Pt} {f m g : Nat} {e : Int} (h : slotOf ps m = (g, true)) : allocGo l ps (f + 1) m e = allocGo l ps f (m + 1) e := by
  show (if (slotOf ps m).2 = true then _ else _) = _
  rw [h]; rfl
theorem allocGo_free {l : Nat} {ps : List Pt} {f m g : Nat} {e : Int} (h : slotOf ps m = (g, false)) (hl : g < l) : allocGo l ps (f + 1) m e = (m, g + 1, 0) := by
  show (if (slotOf ps m).2 = true then _ else if (slotOf ps m).1 < l then (m, (slotOf ps m).1 + 1, 0) else _) = _
  rw [h, if_neg (by simp), if_pos hl]
theorem allocGo_worn {l : Nat} {ps : List Pt} {f m g : Nat} {e : Int} (h : slotOf ps m = (g, false)) (hl : ¬ g < l) : allocGo l ps (f + 1) m e = allocGo l ps f (m + 1) 5 := by
  show (if (slotOf ps m).2 = true then _ else if (slotOf ps m).1 < l then (m, (slotOf ps m).1 + 1, 0) else _) = _
  rw [h, if_neg (by simp), if_neg hl]
theorem allocGo_fill (d : RecD) (k : Nat) : ∀ (f m : Nat) (e : Int), 1 ≤ m → m ≤ k + 1 → k + 1 < m + f → allocGo 1 (fillP d k) f m e = (k + 1, 1, 0)
  | 0, m, e, _, h2, h3 => by omega
  | f + 1, m, e, h1, h2, h3 => by
    by_cases h : m ≤ k
    · rw [allocGo_used (fillP_in d h1 h)]
      exact allocGo_fill d k f (m + 1) e (by omega) (by omega) (by omega)
    · have : m = k + 1 := by omega
      subst this
      rw [allocGo_free (fillP_out d (by omega)) (by omega)]
theorem allocM_fill (d : RecD) {n k : Nat} (h : k < n) : allocM n 1 (fillP d k) = (k + 1, 1, 0) := allocGo_fill d k n 1 3 (by omega) (by omega) (by omega)
theorem putM_fill (d : RecD) {n k : Nat} (h : k < n) : putM n 1 (fillP d k) d = fillP d (k + 1) := by
  unfold putM
  rw [allocM_fill d h]
  rfl
theorem allocGo_full (d : RecD) (n : Nat) : ∀ (f m : Nat) (e : Int), 1 ≤ m → m + f = n + 1 → allocGo 1 (fillP d n) f m e = (0, 0, e)
  | 0, _, _, _, _ => rfl
  | f + 1, m, e, h1, h2 => by
    rw [allocGo_used (fillP_in d h1 (by omega))]
    exact allocGo_full d n f (m + 1) e (by omega) (by omega)
theorem allocM_full (d : RecD) (n : Nat) : allocM n 1 (fillP d n) = (0, 0, 3) := allocGo_full d n n 1 3 (by omega) (by omega)
theorem putM_full (d : RecD) (n : Nat) : putM n 1 (fillP d n) d = fillP d n := by
  unfold putM
  rw [allocM_full]
  rfl
theorem leftM_full (d : RecD) (n : Nat) : leftM n 1 (fillP d n) = 0 := by
  unfold leftM
  rw [List.length_eq_zero_iff, List.filter_eq_nil_iff]
  intro i hi
  rw [fillP_in d (by omega) (by have := List.mem_range.1 hi; omega)]
  simp
/-- a full arena whose last slot was freed -/
def lastP (d : RecD) (n : Nat) : List Pt := fillP d n ++ [⟨n + 1, 1, d, false⟩]
theorem fillP_at (d : RecD) (x : Int) : ∀ (k : Nat), (k : Int) < x → ∀ p ∈ fillP d k, isAt x 1 p = false
  | 0, _, p, h => by simp [fillP] at h
  | k + 1, hx, p, h => by
    unfold fillP at h
    rcases List.mem_append.1 h with h | h
    · exact fillP_at d x k (by omega) p h
    · obtain rfl := List.mem_singleton.1 h
      unfold isAt
      have : (((k + 1 : Nat) : Int) == x) = false := by rw [beq_eq_false_iff_ne]; omega
      rw [this]
      rfl
theorem isAt_last (d : RecD) (n : Nat) : isAt ((n + 1 : Nat) : Int) 1 ⟨n + 1, 1, d, true⟩ = true := by
  show ((((n + 1 : Nat) : Int) == ((n + 1 : Nat) : Int)) && (((1 : Nat) : Int) == 1) && true) = true
  simp
theorem findM_last (d : RecD) (n : Nat) : findM (fillP d (n + 1)) ((n + 1 : Nat) : Int) 1 = some n := by
  unfold findM fillP
  rw [List.findIdx?_append]
  have h1 : (fillP d n).findIdx? (isAt ((n + 1 : Nat) : Int) 1) = none := by
    rw [List.findIdx?_eq_none_iff]
    intro p hp
    exact fillP_at d _ n (by omega) p hp
  rw [h1, List.findIdx?_cons, isAt_last]
  simp [fillP_len]
theorem codeM_last (d : RecD) (n : Nat) : codeM (n + 1) (fillP d (n + 1)) ((n + 1 : Nat) : Int) 1 = 0 := by
  unfold codeM
  rw [if_neg (by omega), findM_last]
  rfl
theorem modify_snoc {α : Type} (f : α → α) (x : α) : ∀ l : List α, (l ++ [x]).modify l.length f = l ++ [f x]
  | [] => rfl
  | y :: l => by
    show (y :: (l ++ [x])).modify (l.length + 1) f = _
    rw [List.modify_succ_cons, modify_snoc f x l]
    rfl
theorem freeM_last (d : RecD) (n : Nat) : freeM (n + 1) (fillP d (n + 1)) ((n + 1 : Nat) : Int) 1 = lastP d n := by
  unfold freeM
  rw [if_pos (codeM_last d n), findM_last]
  unfold fillP lastP
  have h := modify_snoc (fun p : Pt => { p with live := false }) ⟨n + 1, 1, d, true⟩ (fillP d n)
  rw [fillP_len] at h
  exact h
theorem lastP_in (d : RecD) {n m : Nat} (h1 : 1 ≤ m) (h2 : m ≤ n) : slotOf (lastP d n) m = (1, true) := by
  unfold lastP
  rw [slotOf_snoc, if_neg (by simp only; omega), fillP_in d h1 h2]
theorem lastP_at (d : RecD) (n : Nat) : slotOf (lastP d n) (n + 1) = (1, false) := by
  unfold lastP
  rw [slotOf_snoc, if_pos rfl]
theorem allocGo_last (d : RecD) (n : Nat) : ∀ (f m : Nat) (e : Int), 1 ≤ m → m + f = n + 2 → 1 ≤ f → allocGo 1 (lastP d n) f m e = (0, 0, 5)
  | 0, _, _, _, _, h => by omega
  | f + 1, m, e, h1, h2, _ => by
    by_cases h : m = n + 1
    · subst h
      have : f = 0 := by omega
      subst this
      rw [allocGo_worn (lastP_at d n) (by omega)]
      rfl
    · rw [allocGo_used (lastP_in d h1 (by omega))]
      exact allocGo_last d n f (m + 1) e (by omega) (by omega) (by omega)
theorem allocM_last (d : RecD) (n : Nat) : allocM (n + 1) 1 (lastP d n) = (0, 0, 5) := allocGo_last d n (n + 1) 1 3 (by omega) (by omega) (by omega)
/-- what lies below n is as it was -/
theorem low_step {n : Nat} {w w' : World} {b o : Nat} {v : Value} (h : w.cell? ⟨b, o, none⟩ = some v) (hs : Below n w w') (hb : b < n) : w'.cell? ⟨b, o, none⟩ = some v := (hs.cell (p := ⟨b, o, none⟩) hb).trans h
theorem RB.low {n b : Nat} {s : Sc} {rv ev : Value} {w w' : World} (h : RB b s rv ev w) (hs : Below n w w') (hb : b < n) : RB b s rv ev w' :=
  ⟨low_step h.c0 hs hb, low_step h.c1 hs hb, low_step h.c2 hs hb, low_step h.c3 hs hb, low_step h.c4 hs hb, low_step h.c5 hs hb, low_step h.c6 hs hb, low_step h.c7 hs hb, low_step h.c8 hs hb, low_step h.c9 hs hb, low_step h.c10 hs hb, low_step h.c11 hs hb, low_step h.c12 hs hb, low_step h.c13 hs hb, low_step h.c14 hs hb⟩
theorem low_move {n : Nat} {w0 w w' : World} (h : Below n w0 w ∧ n ≤ w.heap.size) (hs : Below w.heap.size w w') : Below n w0 w' ∧ n ≤ w'.heap.size := ⟨h.1.trans (hs.mono h.2), Nat.le_trans h.2 hs.size⟩
/-- Alloc, its answer told by numbers -/
theorem alloc_as (C : ArC) (a : Addr) (v : Value) (S : Nat → Prop) (n l : Nat) (ps : List Pt) (d : RecD) (i g : Nat) (e : Int) (x y : Int) (ev : Value) (qs : List Pt) (w : World) (h : C.Inv w a S n l ps) (hv : RecV w v d) (h1 : d.rows.length ≤ 1000) (h2 : d.ents.length ≤ 1000)
    (ha : allocM n l ps = (i, g, e)) (hq : putM n l ps d = qs) (hx : (i : Int) = x) (hy : (g : Int) = y) (he : errV e = ev) :
    Calls Try.prog 52 #[.pointer (some a), v] w fun ev' w' => ∃ S', ev' = .returned (.tuple #[.agg #[.int .i64 x, .int .i64 y], ev]) ∧ C.Inv w' a S' n l qs ∧ Kept S w w' ∧ (∀ k, S' k → S k ∨ w.heap.size ≤ k) := by
  subst hx hy he
  have t := C.alloc a v S n l ps d w h hv h1 h2
  rw [ha, hq] at t
  exact t
theorem free_as (C : ArC) (a : Addr) (S : Nat → Prop) (n l : Nat) (ps : List Pt) (x y e : Int) (ev : Value) (qs : List Pt) (w : World) (h : C.Inv w a S n l ps) (ha : codeM n ps x y = e) (hq : freeM n ps x y = qs) (he : errV e = ev) :
    Calls Try.prog 64 #[.pointer (some a), .agg #[.int .i64 x, .int .i64 y]] w fun ev' w' => ∃ S', ev' = .returned ev ∧ C.Inv w' a S' n l qs ∧ Kept S w w' ∧ (∀ k, S' k → S k ∨ w.heap.size ≤ k) := by
  subst he ha hq
  exact C.free a S n l ps x y w h
theorem codeM_full {d : RecD} {n : Nat} (h : 1 ≤ n) : codeM n (fillP d n) (n : Int) 1 = 0 := by
  obtain ⟨q, rfl⟩ : ∃ q, n = q + 1 := ⟨n - 1, by omega⟩
  exact codeM_last d q
theorem freeM_full {d : RecD} {n : Nat} (h : 1 ≤ n) : freeM n (fillP d n) (n : Int) 1 = lastP d (n - 1) := by
  obtain ⟨q, rfl⟩ : ∃ q, n = q + 1 := ⟨n - 1, by omega⟩
  exact freeM_last d q
theorem allocM_worn {d : RecD} {n : Nat} (h : 1 ≤ n) : allocM n 1 (lastP d (n - 1)) = (0, 0, 5) := by
  obtain ⟨q, rfl⟩ : ∃ q, n = q + 1 := ⟨n - 1, by omega⟩
  exact allocM_last d q
theorem putM_worn {d : RecD} {n : Nat} (h : 1 ≤ n) : putM n 1 (lastP d (n - 1)) d = lastP d (n - 1) := by
  unfold putM
  rw [allocM_worn h]
  rfl

open Go.RowKit

/-- each slot's live record is its last one; all slots are from 1 to n -/
structure Valid (n : Nat) (ps : List Pt) : Prop where
  pair : ps.Pairwise fun p q => p.live = true → q.slot ≠ p.slot
  slots : ∀ p ∈ ps, 1 ≤ p.slot ∧ p.slot ≤ n
theorem Valid.nil (n : Nat) : Valid n [] := ⟨List.Pairwise.nil, fun p h => by cases h⟩
theorem Valid.last {n : Nat} {ps l1 l2 : List Pt} {p : Pt} (h : Valid n ps) (he : ps = l1 ++ p :: l2) (hl : p.live = true) : ∀ q ∈ l2, q.slot ≠ p.slot := by
  have hp := h.pair
  rw [he, List.pairwise_append, List.pairwise_cons] at hp
  exact fun q hq => hp.2.1.1 q hq hl
theorem slotOf_app : ∀ (l2 l1 : List Pt) (m : Nat), (∀ q ∈ l2, q.slot ≠ m) → slotOf (l1 ++ l2) m = slotOf l1 m
  | [], l1, m, _ => by rw [List.append_nil]
  | q :: l2, l1, m, h => by
    rw [show l1 ++ q :: l2 = (l1 ++ [q]) ++ l2 by simp, slotOf_app l2 (l1 ++ [q]) m (fun r hr => h r (List.mem_cons_of_mem _ hr)), slotOf_snoc, if_neg (h q (List.mem_cons_self ..))]
theorem slotOf_mid {l1 l2 : List Pt} {p : Pt} (h : ∀ q ∈ l2, q.slot ≠ p.slot) : slotOf (l1 ++ p :: l2) p.slot = (p.gen, p.live) := by
  rw [show l1 ++ p :: l2 = (l1 ++ [p]) ++ l2 by simp, slotOf_app l2 _ _ h, slotOf_snoc, if_pos rfl]
theorem foldl_slot : ∀ (l : List Pt) (m : Nat) (s : Nat × Bool), (∀ q ∈ l, q.slot ≠ m) → l.foldl (fun s p => if p.slot = m then (p.gen, p.live) else s) s = s
  | [], _, _, _ => rfl
  | q :: l, m, s, h => by
    rw [List.foldl_cons, if_neg (h q (List.mem_cons_self ..))]
    exact foldl_slot l m s (fun r hr => h r (List.mem_cons_of_mem _ hr))
/-- a put that is turned to one of the same slot changes no other slot -/
theorem slotOf_swap {l1 l2 : List Pt} {p q : Pt} (hs : q.slot = p.slot) {m : Nat} (hm : m ≠ p.slot) : slotOf (l1 ++ q :: l2) m = slotOf (l1 ++ p :: l2) m := by
  unfold slotOf
  rw [List.foldl_append, List.foldl_append, List.foldl_cons, List.foldl_cons, if_neg (by rw [hs]; exact fun e => hm e.symm), if_neg (fun e => hm e.symm)]
/-- who is live in a slot is told by the slot's state -/
theorem Valid.live {n : Nat} {ps l1 l2 : List Pt} {p : Pt} (h : Valid n ps) (he : ps = l1 ++ p :: l2) (hl : p.live = true) : slotOf ps p.slot = (p.gen, true) := by
  have e := slotOf_mid (l1 := l1) (h.last he hl)
  rw [he, e, hl]
theorem Valid.liveMem {n : Nat} {ps : List Pt} {p : Pt} (h : Valid n ps) (hp : p ∈ ps) (hl : p.live = true) : slotOf ps p.slot = (p.gen, true) := by
  obtain ⟨l1, l2, he⟩ := List.append_of_mem hp
  exact h.live he hl
theorem Valid.put {n : Nat} {ps : List Pt} (h : Valid n ps) {i g : Nat} {d : RecD} (hi : 1 ≤ i ∧ i ≤ n) (hf : (slotOf ps i).2 = false) : Valid n (ps ++ [⟨i, g, d, true⟩]) := by
  refine ⟨?_, fun p hp => ?_⟩
  · rw [List.pairwise_append]
    refine ⟨h.pair, List.pairwise_singleton _ _, fun p hp q hq hl => ?_⟩
    obtain rfl := List.mem_singleton.1 hq
    intro e
    have := h.liveMem hp hl
    rw [← e] at this
    simp only at this
    rw [this] at hf
    cases hf
  · rcases List.mem_append.1 hp with hp | hp
    · exact h.slots p hp
    · obtain rfl := List.mem_singleton.1 hp
      exact hi
/-- the put that a live ref names -/
theorem findM_some {ps : List Pt} {x y : Int} {j : Nat} (h : findM ps x y = some j) : ∃ l1 p l2, ps = l1 ++ p :: l2 ∧ l1.length = j ∧ (p.slot : Int) = x ∧ (p.gen : Int) = y ∧ p.live = true := by
  unfold findM at h
  obtain ⟨hj, hp, -⟩ := List.findIdx?_eq_some_iff_getElem.1 h
  refine ⟨ps.take j, ps[j], ps.drop (j + 1), ?_, ?_, ?_⟩
  · rw [← List.drop_eq_getElem_cons hj, List.take_append_drop]
  · rw [List.length_take]; omega
  · unfold isAt at hp
    simp only [Bool.and_eq_true, beq_iff_eq] at hp
    exact ⟨hp.1.1, hp.1.2, hp.2⟩
theorem findM_none {ps : List Pt} {x y : Int} (h : findM ps x y = none) : ∀ p ∈ ps, isAt x y p = false := by
  unfold findM at h
  simpa [List.findIdx?_eq_none_iff] using h
theorem modify_mid {α : Type} (f : α → α) (p : α) (l2 : List α) : ∀ l1 : List α, (l1 ++ p :: l2).modify l1.length f = l1 ++ f p :: l2
  | [] => rfl
  | y :: l1 => by
    show (y :: (l1 ++ p :: l2)).modify (l1.length + 1) f = _
    rw [List.modify_succ_cons, modify_mid f p l2 l1]
    rfl
/-- what freeing does -/
theorem free_some {n : Nat} {ps : List Pt} (h : Valid n ps) {x y : Int} (hc : codeM n ps x y = 0) :
    ∃ (i g : Nat), (i : Int) = x ∧ (g : Int) = y ∧ 1 ≤ i ∧ i ≤ n ∧ slotOf ps i = (g, true) ∧ Valid n (freeM n ps x y) ∧ (freeM n ps x y).length = ps.length ∧ ∀ m, slotOf (freeM n ps x y) m = if m = i then (g, false) else slotOf ps m := by
  have hc0 := hc
  unfold codeM at hc
  split at hc
  · cases hc
  · rename_i hr
    cases hf : findM ps x y with
    | none => rw [hf] at hc; cases hc
    | some j =>
      obtain ⟨l1, p, l2, he, hj, hx, hy, hl⟩ := findM_some hf
      have hfr : freeM n ps x y = l1 ++ { p with live := false } :: l2 := by
        unfold freeM
        rw [if_pos hc0, hf]
        simp only
        rw [he, ← hj, modify_mid]
      have hmem : p ∈ ps := by rw [he]; simp
      refine ⟨p.slot, p.gen, hx, hy, (h.slots p hmem).1, (h.slots p hmem).2, h.live he hl, ?_, ?_, fun m => ?_⟩
      · rw [hfr]
        refine ⟨?_, fun q hq => ?_⟩
        · have hp := h.pair
          rw [he, List.pairwise_append, List.pairwise_cons] at hp
          rw [List.pairwise_append, List.pairwise_cons]
          refine ⟨hp.1, ⟨fun q _ hql => (by cases hql), hp.2.1.2⟩, fun a ha q hq hal => ?_⟩
          rcases List.mem_cons.1 hq with rfl | hq
          · exact hp.2.2 a ha p (List.mem_cons_self ..) hal
          · exact hp.2.2 a ha q (List.mem_cons_of_mem _ hq) hal
        · rcases List.mem_append.1 hq with hq | hq
          · exact h.slots q (by rw [he]; simp [hq])
          · rcases List.mem_cons.1 hq with rfl | hq
            · exact h.slots p hmem
            · exact h.slots q (by rw [he]; simp [hq])
      · rw [hfr, he]; simp
      · rw [hfr]
        by_cases e : m = p.slot
        · rw [if_pos e, e]
          exact slotOf_mid (l1 := l1) (l2 := l2) (p := ({ p with live := false } : Pt)) (show ∀ q ∈ l2, q.slot ≠ p.slot from h.last he hl)
        · rw [if_neg e, he]
          exact slotOf_swap (l1 := l1) (l2 := l2) (p := p) (q := ({ p with live := false } : Pt)) rfl e
theorem free_none {n : Nat} {ps : List Pt} {x y : Int} (hc : codeM n ps x y ≠ 0) : freeM n ps x y = ps := by unfold freeM; rw [if_neg hc]
/-- what allocating finds: the least slot that is free and not worn, or none -/
def AllocOk (l : Nat) (ps : List Pt) (f m : Nat) (e : Int) : Prop := (∃ i, m ≤ i ∧ i < m + f ∧ (slotOf ps i).2 = false ∧ (slotOf ps i).1 < l ∧ allocGo l ps f m e = (i, (slotOf ps i).1 + 1, 0) ∧ ∀ j, m ≤ j → j < i → (slotOf ps j).2 = true ∨ ¬ (slotOf ps j).1 < l)
    ∨ ((∀ j, m ≤ j → j < m + f → (slotOf ps j).2 = true ∨ ¬ (slotOf ps j).1 < l) ∧ ∃ e', (e' = 3 ∨ e' = 5) ∧ allocGo l ps f m e = (0, 0, e'))
theorem allocGo_spec (l : Nat) (ps : List Pt) : ∀ (f m : Nat) (e : Int), e = 3 ∨ e = 5 → AllocOk l ps f m e
  | 0, m, e, he => .inr ⟨fun j h1 h2 => by omega, e, he, rfl⟩
  | f + 1, m, e, he => by
    obtain ⟨⟨g, u⟩, hs⟩ : ∃ s, slotOf ps m = s := ⟨_, rfl⟩
    have go : ∀ e1 : Int, (e1 = 3 ∨ e1 = 5) → ((slotOf ps m).2 = true ∨ ¬ (slotOf ps m).1 < l) → allocGo l ps (f + 1) m e = allocGo l ps f (m + 1) e1 → AllocOk l ps (f + 1) m e := fun e1 h1 hm hgo => by
      rcases allocGo_spec l ps f (m + 1) e1 h1 with ⟨i, a1, a2, a3, a4, a5, a6⟩ | ⟨b1, e', b2, b3⟩
      · exact Or.inl ⟨i, by omega, by omega, a3, a4, by rw [hgo]; exact a5, fun j h2 h3 => by
          by_cases hj : j = m
          · rw [hj]; exact hm
          · exact a6 j (by omega) h3⟩
      · exact Or.inr ⟨fun j h2 h3 => by
          by_cases hj : j = m
          · rw [hj]; exact hm
          · exact b1 j (by omega) (by omega), e', b2, by rw [hgo]; exact b3⟩
    cases u with
    | true => exact go e he (.inl (by rw [hs])) (allocGo_used hs)
    | false =>
      by_cases hg : g < l
      · exact .inl ⟨m, Nat.le_refl _, by omega, by rw [hs], by rw [hs]; exact hg, by rw [allocGo_free hs hg, hs], fun j h1 h2 => by omega⟩
      · exact go 5 (.inr rfl) (.inr (by rw [hs]; exact hg)) (allocGo_worn hs hg)
theorem allocM_spec (n l : Nat) (ps : List Pt) : (∃ i, 1 ≤ i ∧ i ≤ n ∧ (slotOf ps i).2 = false ∧ (slotOf ps i).1 < l ∧ allocM n l ps = (i, (slotOf ps i).1 + 1, 0) ∧ ∀ j, 1 ≤ j → j < i → (slotOf ps j).2 = true ∨ ¬ (slotOf ps j).1 < l)
    ∨ ((∀ j, 1 ≤ j → j ≤ n → (slotOf ps j).2 = true ∨ ¬ (slotOf ps j).1 < l) ∧ ∃ e', (e' = 3 ∨ e' = 5) ∧ allocM n l ps = (0, 0, e')) := by
  rcases allocGo_spec l ps n 1 3 (.inl rfl) with ⟨i, a1, a2, a3⟩ | ⟨b1, b2⟩
  · exact .inl ⟨i, a1, by omega, a3⟩
  · exact .inr ⟨fun j h1 h2 => b1 j h1 (by omega), b2⟩
/-! ### Counting slots -/
def cnt (n : Nat) (P : Nat → Bool) : Nat := ((List.range n).filter fun i => P (i + 1)).length
theorem cnt_succ (n : Nat) (P : Nat → Bool) : cnt (n + 1) P = cnt n P + (if P (n + 1) then 1 else 0) := by
  unfold cnt
  rw [List.range_succ, List.filter_append, List.length_append, List.filter_cons]
  cases P (n + 1) <;> simp
theorem cnt_congr {P Q : Nat → Bool} : ∀ n : Nat, (∀ m, 1 ≤ m → m ≤ n → P m = Q m) → cnt n P = cnt n Q
  | 0, _ => rfl
  | n + 1, h => by rw [cnt_succ, cnt_succ, cnt_congr n (fun m h1 h2 => h m h1 (by omega)), h (n + 1) (by omega) (Nat.le_refl _)]
theorem cnt_one {P Q : Nat → Bool} {i : Nat} (hp : P i = false) (hq : Q i = true) (hne : ∀ m, m ≠ i → P m = Q m) : ∀ n : Nat, 1 ≤ i → i ≤ n → cnt n Q = cnt n P + 1
  | 0, h1, h2 => by omega
  | n + 1, h1, h2 => by
    rw [cnt_succ, cnt_succ]
    by_cases h : i = n + 1
    · subst h
      rw [cnt_congr n (P := Q) (Q := P) (fun m h3 h4 => (hne m (by omega)).symm), hp, hq]
      simp
    · rw [cnt_one hp hq hne n h1 (by omega), hne (n + 1) (fun e => h e.symm)]
      omega
theorem cnt_not (P : Nat → Bool) : ∀ n : Nat, cnt n P + cnt n (fun m => !P m) = n
  | 0 => rfl
  | n + 1 => by
    have := cnt_not P n
    rw [cnt_succ, cnt_succ]
    cases P (n + 1) <;> simp <;> omega
theorem cnt_pos {P : Nat → Bool} : ∀ n : Nat, (0 < cnt n P ↔ ∃ m, 1 ≤ m ∧ m ≤ n ∧ P m = true)
  | 0 => ⟨fun h => by simp [cnt] at h, fun ⟨m, h1, h2, _⟩ => by omega⟩
  | n + 1 => by
    have ih := cnt_pos (P := P) n
    rw [cnt_succ]
    constructor
    · intro h
      by_cases hp : P (n + 1) = true
      · exact ⟨n + 1, by omega, Nat.le_refl _, hp⟩
      · rw [if_neg hp] at h
        obtain ⟨m, h1, h2, h3⟩ := ih.1 (by omega)
        exact ⟨m, h1, by omega, h3⟩
    · rintro ⟨m, h1, h2, h3⟩
      by_cases hm : m = n + 1
      · rw [hm] at h3
        rw [if_pos h3]; omega
      · have := ih.2 ⟨m, h1, by omega, h3⟩
        omega
def usedB (ps : List Pt) (m : Nat) : Bool := (slotOf ps m).2
theorem liveM_len (n : Nat) (ps : List Pt) : (liveM n ps).length = cnt n (usedB ps) := by unfold liveM cnt usedB; rw [List.length_map]
theorem leftM_cnt (n l : Nat) (ps : List Pt) : leftM n l ps = cnt n (fun m => !(slotOf ps m).2 && decide ((slotOf ps m).1 < l)) := rfl
end Go.Proofs.Ytaiaaljahnackaa
