/- Package epoch's Now, Bump, Enter, Leave and At, by contracts. -/
import Derived.Test.YtaiaaljahnackaaMm
import Derived.Test.YtaiaaljahnackaaMw
import Derived.Maps.OwnSet
import Derived.Maps.OwnOps
import Derived.Maps.RangeWalk
import Derived.Deep.LoopGhost
import Derived.Deep.QuietTactic
import Derived.BigQuiet
import Derived.WalkSmall
import Derived.RegionTactic
import Derived.Deep.RegionHeld3
import Derived.WalkSpells
namespace Go.Proofs.Ytaiaaljahnackaa
open Go.RowKit Go.Maps

/-! ### the model -/
def atL (L : List Int) (x : Int) : Int := if x < 0 then 0 else L.getD x.toNat 0
theorem atL_nat (L : List Int) (i : Nat) : atL L i = L.getD i 0 := by unfold atL; rw [if_neg (by omega)]; rfl
theorem atL_get {L : List Int} {i : Nat} {v : Int} (h : L[i]? = some v) : atL L i = v := by rw [atL_nat, List.getD_eq_getElem?_getD, h]; rfl
theorem atL_out {L : List Int} {x : Int} (h : x < 0 ∨ (L.length : Int) ≤ x) : atL L x = 0 := by
  unfold atL
  split
  · rfl
  · rw [List.getD_eq_getElem?_getD, List.getElem?_eq_none (by omega)]; rfl
theorem atL_set {L : List Int} {i : Nat} (hi : i < L.length) (a x : Int) : atL (L.set i a) x = if x = i then a else atL L x := by
  by_cases h : x = i
  · subst h; rw [if_pos rfl, atL_nat, List.getD_eq_getElem?_getD]; simp [hi]
  · rw [if_neg h]
    unfold atL
    split
    · rfl
    · rw [List.getD_eq_getElem?_getD, List.getD_eq_getElem?_getD, List.getElem?_set_ne (by omega)]
theorem atL_in {L : List Int} {x : Int} (h : atL L x ≠ 0) : 0 ≤ x ∧ x < (L.length : Int) := by
  rcases Classical.em (x < 0 ∨ (L.length : Int) ≤ x) with h' | h'
  · exact absurd (atL_out h') h
  · omega
def cntL : List Int → Nat
  | [] => 0
  | v :: r => (if 0 < v then 1 else 0) + cntL r
theorem cntL_le : ∀ L, cntL L ≤ L.length
  | [] => Nat.le_refl _
  | v :: r => by have := cntL_le r; simp only [cntL, List.length_cons]; split <;> omega
theorem cntL_set : ∀ (L : List Int) (i : Nat) (v a : Int), L[i]? = some v → cntL (L.set i a) + (if 0 < v then 1 else 0) = cntL L + (if 0 < a then 1 else 0)
  | [], _, _, _, h => by simp at h
  | u :: r, 0, v, a, h => by
    obtain rfl : u = v := by simpa using h
    simp only [List.set_cons_zero, cntL]
    omega
  | u :: r, i + 1, v, a, h => by
    have := cntL_set r i v a (by simpa using h)
    simp only [List.set_cons_succ, cntL]
    omega
def oldL (n : Int) (L : List Int) : Int := L.foldl (fun o v => if 0 < v ∧ v < o then v else o) n
theorem oldL_cons (n v : Int) (L : List Int) : oldL n (v :: L) = oldL (if 0 < v ∧ v < n then v else n) L := rfl
theorem oldL_le : ∀ (L : List Int) (n : Int), oldL n L ≤ n
  | [], n => Int.le_refl _
  | v :: L, n => by
    rw [oldL_cons]
    by_cases h : 0 < v ∧ v < n
    · rw [if_pos h]; have := oldL_le L v; omega
    · rw [if_neg h]; exact oldL_le L n
theorem oldL_low : ∀ (L : List Int) (n : Int) (v : Int), v ∈ L → 0 < v → oldL n L ≤ v
  | [], _, _, h, _ => by cases h
  | u :: L, n, v, h, hp => by
    rw [oldL_cons]
    rcases List.mem_cons.1 h with rfl | h
    · by_cases h : 0 < v ∧ v < n
      · rw [if_pos h]; exact oldL_le L v
      · rw [if_neg h]; have := oldL_le L n; omega
    · exact oldL_low L _ v h hp
theorem oldL_mem : ∀ (L : List Int) (n : Int), oldL n L = n ∨ oldL n L ∈ L ∧ 0 < oldL n L
  | [], n => .inl rfl
  | u :: L, n => by
    rw [oldL_cons]
    rcases oldL_mem L (if 0 < u ∧ u < n then u else n) with h | ⟨h, hp⟩
    · rw [h]
      split
      · rename_i hu; exact .inr ⟨List.mem_cons_self, hu.1⟩
      · exact .inl rfl
    · exact .inr ⟨List.mem_cons_of_mem _ h, hp⟩
theorem mem_at {L : List Int} {v : Int} (h : v ∈ L) : ∃ i : Nat, i < L.length ∧ atL L i = v := by
  obtain ⟨i, hi, rfl⟩ := List.getElem_of_mem h
  exact ⟨i, hi, atL_get (List.getElem?_eq_getElem hi)⟩
theorem at_mem {L : List Int} {x : Int} (h : atL L x ≠ 0) : atL L x ∈ L := by
  obtain ⟨h0, h1⟩ := atL_in h
  obtain ⟨i, rfl⟩ : ∃ i : Nat, x = i := ⟨x.toNat, by omega⟩
  rw [atL_nat, List.getD_eq_getElem?_getD, List.getElem?_eq_getElem (by omega)]
  exact List.getElem_mem _
theorem oldL_eq {n o : Int} {L : List Int} (h1 : o ≤ n) (h2 : ∀ x, 0 < atL L x → o ≤ atL L x) (h3 : o = n ∨ ∃ x, 0 < atL L x ∧ o = atL L x) : oldL n L = o := by
  have a1 := oldL_le L n
  rcases oldL_mem L n with h | ⟨h, hp⟩
  · rcases h3 with e | ⟨x, hx, e⟩
    · omega
    · have := oldL_low L n _ (at_mem (by omega)) hx; omega
  · obtain ⟨i, -, hi⟩ := mem_at h
    have := h2 i (by omega)
    rcases h3 with e | ⟨x, hx, e⟩
    · omega
    · have := oldL_low L n _ (at_mem (by omega)) hx; omega
structure Ck where
  n : Int
  l : Int
  L : List Int
structure Ck.ok (c : Ck) : Prop where
  n1 : 1 ≤ c.n
  nl : c.n ≤ c.l
  lm : c.l ≤ 1099511627776
  t1 : 1 ≤ c.L.length
  tm : c.L.length ≤ 64
  each : ∀ v ∈ c.L, 0 ≤ v ∧ v ≤ c.n
theorem Ck.ok.at {c : Ck} (h : c.ok) (x : Int) : 0 ≤ atL c.L x ∧ atL c.L x ≤ c.n := by
  rcases Classical.em (atL c.L x = 0) with e | e
  · rw [e]; exact ⟨Int.le_refl _, by have := h.n1; omega⟩
  · exact h.each _ (at_mem e)
def Ck.out (c : Ck) (x : Int) : Prop := x < 0 ∨ (c.L.length : Int) ≤ x
instance (c : Ck) (x : Int) : Decidable (c.out x) := by unfold Ck.out; infer_instance
def Ck.bumpE (c : Ck) : Int := if c.l ≤ c.n then 5 else 0
def Ck.bump (c : Ck) : Ck := if c.l ≤ c.n then c else ⟨c.n + 1, c.l, c.L⟩
def Ck.enterE (c : Ck) (x a : Int) : Int := if c.out x then 1 else if 0 < atL c.L x then 13 else if a < 1 ∨ c.n < a then 2 else 0
def Ck.enter (c : Ck) (x a : Int) : Ck := if c.enterE x a = 0 then ⟨c.n, c.l, c.L.set x.toNat a⟩ else c
def Ck.leaveE (c : Ck) (x : Int) : Int := if c.out x then 1 else if 0 < atL c.L x then 0 else 13
def Ck.leave (c : Ck) (x : Int) : Ck := if c.leaveE x = 0 then ⟨c.n, c.l, c.L.set x.toNat 0⟩ else c
def Ck.oldest (c : Ck) : Int := oldL c.n c.L
def Ck.atE (c : Ck) (x : Int) : Int := if c.out x then 1 else 0
theorem mem_set {L : List Int} {i : Nat} {a v : Int} (h : v ∈ L.set i a) : v ∈ L ∨ v = a := List.mem_or_eq_of_mem_set h
theorem Ck.bump_ok {c : Ck} (h : c.ok) : c.bump.ok := by
  unfold Ck.bump
  split
  · exact h
  · exact ⟨by have := h.n1; show 1 ≤ c.n + 1; omega, by show c.n + 1 ≤ c.l; omega, h.lm, h.t1, h.tm, fun v hv => by have := h.each v hv; exact ⟨this.1, by show v ≤ c.n + 1; omega⟩⟩
theorem Ck.set_ok {c : Ck} (h : c.ok) (i : Nat) {a : Int} (h0 : 0 ≤ a) (h1 : a ≤ c.n) : Ck.ok ⟨c.n, c.l, c.L.set i a⟩ :=
  ⟨h.n1, h.nl, h.lm, by show 1 ≤ (c.L.set i a).length; rw [List.length_set]; exact h.t1, by show (c.L.set i a).length ≤ 64; rw [List.length_set]; exact h.tm, fun v hv => by
    rcases mem_set hv with h' | rfl
    · exact h.each v h'
    · exact ⟨h0, h1⟩⟩
theorem Ck.enter_ok {c : Ck} (h : c.ok) (x a : Int) : (c.enter x a).ok := by
  unfold Ck.enter
  split
  · rename_i he
    unfold Ck.enterE at he
    split at he
    · omega
    · split at he
      · omega
      · split at he
        · omega
        · exact Ck.set_ok h _ (by omega) (by omega)
  · exact h
theorem Ck.leave_ok {c : Ck} (h : c.ok) (x : Int) : (c.leave x).ok := by
  unfold Ck.leave
  split
  · exact Ck.set_ok h _ (Int.le_refl _) (by have := h.n1; omega)
  · exact h
theorem Ck.bump_len (c : Ck) : c.bump.L.length = c.L.length := by unfold Ck.bump; split <;> rfl
theorem Ck.enter_len (c : Ck) (x a : Int) : (c.enter x a).L.length = c.L.length := by unfold Ck.enter; split <;> simp
theorem Ck.leave_len (c : Ck) (x : Int) : (c.leave x).L.length = c.L.length := by unfold Ck.leave; split <;> simp

theorem wfL {x : Int} (h1 : -9223372036854775808 ≤ x) (h2 : x ≤ 9223372036854775807) : (Lit.int .i64 x).wf = true := by
  exact WalkArith.wf_i64 (by omega)
abbrev kI (x : Int) : Lit := .int .i64 x
theorem keyI_of {x : Int} (h : (Lit.int .i64 x).wf = true) : keyOf Try.prog 3 (.int .i64 x) = some (kI x) := keyOf_int_mk Try.underlying3 h
theorem kI_ne {x y : Int} (h : x ≠ y) : kI x ≠ kI y := fun e => h (by simpa using e)
theorem ownsMap_tight {H : Type} {P : Program} {k : TypeId} {R : Value → Option (DataW H × List MemPlace)} {w : World} {b n : Nat} {D : DataW H} (h : w.ownsMap P k R b n D) : w.ownsMap P k R b (Maps.size D) D := by
  obtain ⟨es, clock, hb, F, hs, rfl⟩ := h
  exact ⟨es, clock, hb, F, by simp [Maps.size, length_sorted], rfl⟩
/-- a map from threads to numbers: who is inside, and where -/
structure MapI (w : World) (mb : Nat) (L : List Int) (D : DataW Unit) : Prop where
  own : w.ownsMap Try.prog 3 (plainElem Try.prog 3) mb 100 D
  has : ∀ x, (Lit.int .i64 x).wf = true → Maps.has D (kI x) = decide (0 < atL L x)
  at0 : ∀ x, (Lit.int .i64 x).wf = true → D.atKey (kI x) (.lit (.int .i64 0)) = .lit (.int .i64 (atL L x))
  size : Maps.size D = cntL L
theorem MapI.made (w : World) (n : Nat) : MapI (w.alloc (.map #[] 0)) w.heap.size (List.replicate n 0) (.map []) := by
  have e : ∀ x, atL (List.replicate n 0) x = 0 := fun x => by
    rcases Classical.em (atL (List.replicate n 0) x = 0) with h | h
    · exact h
    · exact (List.eq_of_mem_replicate (at_mem h))
  refine ⟨(World.ownsMap_made _ _ _ _).mono (by omega), fun x _ => by rw [e]; rfl, fun x _ => by rw [e]; rfl, ?_⟩
  have : ∀ n, cntL (List.replicate n 0) = 0 := fun n => by induction n with
    | zero => rfl
    | succ n ih => simp only [List.replicate_succ, cntL, ih]; rfl
  rw [this]; rfl
theorem grown_low {w w' : World} (hs : Below w.heap.size w w') : w.grownBy w' none := ⟨hs.os, hs.tape, hs.output, hs.size, fun k hk _ => hs.block k hk⟩
theorem MapI.low {w w' : World} {mb : Nat} {L : List Int} {D : DataW Unit} (h : MapI w mb L D) (hs : Below w.heap.size w w') : MapI w' mb L D := ⟨h.own.kept (grown_low hs) (by simp), h.has, h.at0, h.size⟩
theorem MapI.keep {S : Nat → Prop} {w w' : World} {mb : Nat} {L : List Int} {D : DataW Unit} (h : MapI w mb L D) (hk : Kept S w w') (hS : ¬ S mb) : MapI w' mb L D := by
  obtain ⟨es, clock, hb, r⟩ := h.own
  exact ⟨⟨es, clock, (hk.block mb (Array.getElem?_eq_some_iff.1 hb).1 hS).trans hb, r⟩, h.has, h.at0, h.size⟩
theorem MapI.ltM {w : World} {mb : Nat} {L : List Int} {D : DataW Unit} (h : MapI w mb L D) : mb < w.heap.size := h.own.lt
theorem tight100 {w : World} {mb m : Nat} {L : List Int} {D : DataW Unit} (h : w.ownsMap Try.prog 3 (plainElem Try.prog 3) mb m D) (hs : Maps.size D = cntL L) (hL : L.length ≤ 64) : w.ownsMap Try.prog 3 (plainElem Try.prog 3) mb 100 D :=
  (ownsMap_tight h).mono (by rw [hs]; have := cntL_le L; omega)
theorem MapI.put {w w' : World} {mb m : Nat} {L : List Int} {D : DataW Unit} (h : MapI w mb L D) (hL : L.length ≤ 64) {i : Nat} (hi : i < L.length) (h0 : atL L i = 0) {a : Int} (ha : 0 < a)
    (hn : w'.ownsMap Try.prog 3 (plainElem Try.prog 3) mb m (D.put (kI i) (.lit (.int .i64 a)))) : MapI w' mb (L.set i a) (D.put (kI i) (.lit (.int .i64 a))) := by
  have hm := h.own.isMap
  have wi : (Lit.int .i64 (i : Int)).wf = true := wfL (by omega) (by omega)
  have hs : Maps.size (D.put (kI i) (.lit (.int .i64 a))) = cntL (L.set i a) := by
    have e := cntL_set L i _ a (List.getElem?_eq_getElem hi)
    rw [show L[i] = 0 by rw [← h0, atL_get (List.getElem?_eq_getElem hi)], if_neg (by omega), if_pos ha] at e
    rw [size_put (h.own.tidy keyI), h.has _ wi, h0, h.size]
    simp; omega
  refine ⟨tight100 hn hs (by rw [List.length_set]; exact hL), fun x hx => ?_, fun x hx => ?_, hs⟩
  · rw [atL_set hi]
    by_cases e : x = i
    · subst e; rw [has_put_same (k := kI _) hm trivial, if_pos rfl]; simp [ha]
    · rw [has_put_other (kI_ne e), h.has x hx, if_neg e]
  · rw [atL_set hi]
    by_cases e : x = i
    · subst e; rw [atKey_put_same (k := kI _) hm trivial, if_pos rfl]
    · rw [atKey_put_other (kI_ne e), h.at0 x hx, if_neg e]
theorem MapI.del {w w' : World} {mb m : Nat} {L : List Int} {D : DataW Unit} (h : MapI w mb L D) (hL : L.length ≤ 64) {i : Nat} (hi : i < L.length) (h0 : 0 < atL L i)
    (hn : w'.ownsMap Try.prog 3 (plainElem Try.prog 3) mb m (D.del (kI i))) : MapI w' mb (L.set i 0) (D.del (kI i)) := by
  have wi : (Lit.int .i64 (i : Int)).wf = true := wfL (by omega) (by omega)
  have hs : Maps.size (D.del (kI i)) = cntL (L.set i 0) := by
    have e := cntL_set L i _ 0 (List.getElem?_eq_getElem hi)
    rw [if_pos (by rw [← atL_get (List.getElem?_eq_getElem hi)]; exact h0), if_neg (by omega)] at e
    have := size_del (k := kI i) (h.own.tidy keyI)
    rw [h.has _ wi, decide_eq_true h0, h.size] at this
    simp at this; omega
  refine ⟨tight100 hn hs (by rw [List.length_set]; exact hL), fun x hx => ?_, fun x hx => ?_, hs⟩
  · rw [atL_set hi]
    by_cases e : x = i
    · subst e; rw [has_del_same, if_pos rfl]; rfl
    · rw [has_del_other (kI_ne e), h.has x hx, if_neg e]
  · rw [atL_set hi]
    by_cases e : x = i
    · subst e; rw [atKey_del_same, if_pos rfl]
    · rw [atKey_del_other (kI_ne e), h.at0 x hx, if_neg e]
/-- a clock in memory: its block, its map's block -/
structure ClkAt (w : World) (cb mb : Nat) (c : Ck) : Prop where
  ok : c.ok
  blk : w.heap[cb]? = some (.cells #[.int .i64 c.n, .int .i64 c.l, .int .i64 (c.L.length : Int), .map (some mb)] 113 (0, 0))
  map : ∃ D, MapI w mb c.L D
/-- what a call may turn -/
def CS (cb mb : Nat) : Nat → Prop := fun k => k = cb ∨ k = mb
theorem ClkAt.ltC {w : World} {cb mb : Nat} {c : Ck} (h : ClkAt w cb mb c) : cb < w.heap.size := (Array.getElem?_eq_some_iff.1 h.blk).1
theorem ClkAt.ltM {w : World} {cb mb : Nat} {c : Ck} (h : ClkAt w cb mb c) : mb < w.heap.size := let ⟨_, m⟩ := h.map; m.ltM
theorem ClkAt.ne {w : World} {cb mb : Nat} {c : Ck} (h : ClkAt w cb mb c) : mb ≠ cb := fun e => by
  obtain ⟨D, m⟩ := h.map
  obtain ⟨es, clock, hb, -⟩ := m.own
  have := h.blk
  rw [← e, hb] at this
  cases this
theorem ClkAt.low {w w' : World} {cb mb : Nat} {c : Ck} (h : ClkAt w cb mb c) (hb : Below w.heap.size w w') : ClkAt w' cb mb c :=
  ⟨h.ok, blk_step h.blk hb, let ⟨D, m⟩ := h.map; ⟨D, m.low hb⟩⟩
theorem ClkAt.keep {w w' : World} {cb mb : Nat} {c : Ck} (h : ClkAt w cb mb c) {S : Nat → Prop} (hk : Kept S w w') (h1 : ¬ S cb) (h2 : ¬ S mb) : ClkAt w' cb mb c :=
  ⟨h.ok, (hk.block cb h.ltC h1).trans h.blk, let ⟨D, m⟩ := h.map; ⟨D, m.keep hk h2⟩⟩
theorem ClkAt.c0 {w : World} {cb mb : Nat} {c : Ck} (h : ClkAt w cb mb c) : w.cell? ⟨cb, 0, none⟩ = some (.int .i64 c.n) := blk_cell h.blk 0
theorem ClkAt.c1 {w : World} {cb mb : Nat} {c : Ck} (h : ClkAt w cb mb c) : w.cell? ⟨cb, 1, none⟩ = some (.int .i64 c.l) := blk_cell h.blk 1
theorem ClkAt.c2 {w : World} {cb mb : Nat} {c : Ck} (h : ClkAt w cb mb c) : w.cell? ⟨cb, 2, none⟩ = some (.int .i64 (c.L.length : Int)) := blk_cell h.blk 2
theorem ClkAt.c3 {w : World} {cb mb : Nat} {c : Ck} (h : ClkAt w cb mb c) : w.cell? ⟨cb, 3, none⟩ = some (.map (some mb)) := blk_cell h.blk 3
theorem ClkAt.num {w : World} {cb mb : Nat} {c : Ck} (h : ClkAt w cb mb c) {x : Int} (hx : Ck.ok ⟨x, c.l, c.L⟩) : ClkAt (w.setCell ⟨cb, 0, none⟩ (.int .i64 x)) cb mb ⟨x, c.l, c.L⟩ :=
  ⟨hx, blk_set h.blk 0 _, let ⟨D, m⟩ := h.map; ⟨D, m.own.setCell (a := ⟨cb, 0, none⟩) h.ne _, m.has, m.at0, m.size⟩⟩

open Go.RowKit Go.Maps
theorem enter_cases (c : Ck) (x a : Int) : (c.out x ∧ c.enterE x a = 1) ∨ (∃ i : Nat, x = i ∧ i < c.L.length ∧ ¬ c.out x ∧ ((0 < atL c.L i ∧ c.enterE x a = 13) ∨ (atL c.L i = 0 ∧ (a < 1 ∨ c.n < a) ∧ c.enterE x a = 2) ∨ (atL c.L i = 0 ∧ 1 ≤ a ∧ a ≤ c.n ∧ c.enterE x a = 0))) ∨ atL c.L x < 0 := by
  by_cases ho : c.out x
  · exact .inl ⟨ho, by unfold Ck.enterE; rw [if_pos ho]⟩
  · have X : 0 ≤ x ∧ x < (c.L.length : Int) := by unfold Ck.out at ho; omega
    obtain ⟨i, rfl⟩ : ∃ i : Nat, x = i := ⟨x.toNat, by omega⟩
    by_cases hp : 0 < atL c.L i
    · exact .inr (.inl ⟨i, rfl, by omega, ho, .inl ⟨hp, by unfold Ck.enterE; rw [if_neg ho, if_pos hp]⟩⟩)
    · by_cases hz : atL c.L i = 0
      · by_cases ha : a < 1 ∨ c.n < a
        · exact .inr (.inl ⟨i, rfl, by omega, ho, .inr (.inl ⟨hz, ha, by unfold Ck.enterE; rw [if_neg ho, if_neg hp, if_pos ha]⟩)⟩)
        · exact .inr (.inl ⟨i, rfl, by omega, ho, .inr (.inr ⟨hz, by omega, by omega, by unfold Ck.enterE; rw [if_neg ho, if_neg hp, if_neg ha]⟩)⟩)
      · exact .inr (.inr (by omega))
theorem errV_of {e : Int} (h : e ≠ 0) : errV e = .iface 72 (.int .i64 e) := by unfold errV; rw [if_neg h]
end Go.Proofs.Ytaiaaljahnackaa
