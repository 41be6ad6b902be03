/- Package commits' own table in memory: its block, its two maps, and the blocks of its commits (layer 16). -/
import Derived.Test.YtkbfhpgcjljbbaaDoorCmC
import Derived.Maps.OwnSet
import Derived.Maps.OwnOps
import Derived.Deep.LoopGhost
import Derived.Deep.QuietTactic
import Derived.BigQuiet
import Derived.WalkSmall
import Derived.RegionTactic
import Derived.Deep.RegionHeld3
import Derived.WalkSpells
namespace Go.Proofs.YtkbfhpgcjljbbaaDoor
set_option linter.unusedVariables false
set_option linter.unusedSimpArgs false
open Go.RowKit Go.Maps

/-! ### maps from numbers to values, by what they say at each number -/
theorem keyN : Keyed Tryd.prog 3 := int_keyed Tryd.underlying3
abbrev kN (x : Int) : Lit := .int .i64 x
def wfN (x : Int) : Prop := (Lit.int .i64 x).wf = true
theorem wfN_of {x : Int} (h1 : -9223372036854775808 ≤ x) (h2 : x ≤ 9223372036854775807) : wfN x := WalkArith.wf_i64 (by omega)
theorem keyN_of {x : Int} (h : wfN x) : keyOf Tryd.prog 3 (.int .i64 x) = some (kN x) := keyOf_int_mk Tryd.underlying3 h
theorem kN_ne {x y : Int} (h : x ≠ y) : kN x ≠ kN y := fun e => h (by simpa using e)
/-- how an element reads: as itself -/
def heldR (v : Value) : Option (DataW Value × List MemPlace) := some (.held v, [])
structure MapF (w : World) (mb : Nat) (z : Value) (F : Int → Option Value) (n : Nat) (D : DataW Value) : Prop where
  own : w.ownsMap Tryd.prog 3 heldR mb n D
  at_ : ∀ x, wfN x → D.atKey (kN x) (.held z) = .held ((F x).getD z)
  has : ∀ x, wfN x → Maps.has D (kN x) = (F x).isSome
  size : Maps.size D = n
theorem ownsMap_tightN {H : Type} {P : Program} {k : TypeId} {R : Value → Option (DataW H × List MemPlace)} {w : World} {b n m : Nat} {D : DataW H} (h : w.ownsMap P k R b n D) (hm : Maps.size D = m) : w.ownsMap P k R b m D := by
  obtain ⟨es, clock, hb, F, hs, rfl⟩ := h
  exact ⟨es, clock, hb, F, by rw [← hm]; simp [Maps.size, length_sorted], rfl⟩
theorem MapF.made (w : World) (z : Value) : MapF (w.alloc (.map #[] 0)) w.heap.size z (fun _ => none) 0 (.map []) :=
  ⟨World.ownsMap_made _ _ _ _, fun _ _ => rfl, fun _ _ => rfl, rfl⟩
section
variable {w w' : World} {mb n m : Nat} {z : Value} {F : Int → Option Value} {D : DataW Value}
theorem MapF.ltN (h : MapF w mb z F n D) : mb < w.heap.size := h.own.lt
theorem MapF.keep {S : Nat → Prop} (h : MapF w mb z F n D) (hk : Kept S w w') (hS : ¬ S mb) : MapF w' mb z F n D := by
  obtain ⟨es, clock, hb, r⟩ := h.own
  exact ⟨⟨es, clock, (hk.block mb (Array.getElem?_eq_some_iff.1 hb).1 hS).trans hb, r⟩, h.at_, h.has, h.size⟩
theorem MapF.low (h : MapF w mb z F n D) (hs : Below w.heap.size w w') : MapF w' mb z F n D :=
  h.keep (Kept.of_below (S := fun _ => False) hs) (fun e => e)
theorem MapF.notCells (h : MapF w mb z F n D) {cs : Array Value} {T : TypeId} {o : Nat × Nat} : w.heap[mb]? ≠ some (.cells cs T o) := fun e => by
  obtain ⟨es, clock, hb, -⟩ := h.own
  rw [hb] at e
  cases e
theorem MapF.put (h : MapF w mb z F n D) {x : Int} (hx : wfN x) {v : Value} (hn : w'.ownsMap Tryd.prog 3 heldR mb m (D.put (kN x) (.held v))) :
    MapF w' mb z (fun y => if y = x then some v else F y) (if (F x).isSome then n else n + 1) (D.put (kN x) (.held v)) := by
  have hm := h.own.isMap
  have hs : Maps.size (D.put (kN x) (.held v)) = if (F x).isSome then n else n + 1 := by
    rw [size_put (h.own.tidy keyN), h.has _ hx, h.size]
  refine ⟨ownsMap_tightN hn hs, fun y hy => ?_, fun y hy => ?_, hs⟩
  · by_cases e : y = x
    · subst e; rw [atKey_put_same (k := kN _) hm trivial, if_pos rfl]; rfl
    · rw [atKey_put_other (kN_ne e), h.at_ y hy, if_neg e]
  · by_cases e : y = x
    · subst e; rw [has_put_same (k := kN _) hm trivial, if_pos rfl]; rfl
    · rw [has_put_other (kN_ne e), h.has y hy, if_neg e]
theorem MapF.del (h : MapF w mb z F n D) {x : Int} (hx : wfN x) (hn : w'.ownsMap Tryd.prog 3 heldR mb m (D.del (kN x))) :
    MapF w' mb z (fun y => if y = x then none else F y) (if (F x).isSome then n - 1 else n) (D.del (kN x)) := by
  have hs : Maps.size (D.del (kN x)) = if (F x).isSome then n - 1 else n := by
    have := size_del (k := kN x) (h.own.tidy keyN)
    rw [h.has _ hx, h.size] at this
    split <;> simp_all <;> omega
  refine ⟨ownsMap_tightN hn hs, fun y hy => ?_, fun y hy => ?_, hs⟩
  · by_cases e : y = x
    · subst e; rw [atKey_del_same, if_pos rfl]; rfl
    · rw [atKey_del_other (kN_ne e), h.at_ y hy, if_neg e]
  · by_cases e : y = x
    · subst e; rw [has_del_same, if_pos rfl]; rfl
    · rw [has_del_other (kN_ne e), h.has y hy, if_neg e]
theorem MapF.turn {G : Int → Option Value} (h : MapF w mb z F n D) (e : ∀ x, G x = F x) (hm : n = m) : MapF w mb z G m D := by
  obtain rfl : G = F := funext e
  subst hm
  exact h
end

/-! ### what the two maps say -/
/-- the commits that are not dropped -/
def comF (n d : Nat) (V : Nat → Value) : Int → Option Value := fun x => if (d : Int) < x ∧ x ≤ (n : Int) then some (V x.toNat) else none
/-- the marks that are there -/
def mkAt (L : List Int) (x : Int) : Int := if 0 ≤ x then L.getD x.toNat (-1) else -1
def mkF (L : List Int) : Int → Option Value := fun x => if 0 ≤ mkAt L x then some (.int .i64 (mkAt L x)) else none
def cntM : List Int → Nat
  | [] => 0
  | m :: r => (if 0 ≤ m then 1 else 0) + cntM r
theorem cntM_le : ∀ L, cntM L ≤ L.length
  | [] => Nat.le_refl _
  | v :: r => by have := cntM_le r; simp only [cntM, List.length_cons]; split <;> omega
theorem cntM_set : ∀ (L : List Int) (i : Nat) (v a : Int), L[i]? = some v → cntM (L.set i a) + (if 0 ≤ v then 1 else 0) = cntM L + (if 0 ≤ a then 1 else 0)
  | [], _, _, _, h => by simp at h
  | u :: r, 0, v, a, h => by
    obtain rfl : u = v := by simpa using h
    simp only [List.set_cons_zero, cntM]
    omega
  | u :: r, i + 1, v, a, h => by
    have := cntM_set r i v a (by simpa using h)
    simp only [List.set_cons_succ, cntM]
    omega
theorem cntM_new : ∀ n, cntM (List.replicate n (-1)) = 0
  | 0 => rfl
  | n + 1 => by rw [List.replicate_succ, cntM, cntM_new n]; rfl
theorem mkAt_nat (L : List Int) (i : Nat) : mkAt L i = L.getD i (-1) := by unfold mkAt; rw [if_pos (by omega)]; rfl
theorem mkAt_get {L : List Int} {i : Nat} {v : Int} (h : L[i]? = some v) : mkAt L i = v := by rw [mkAt_nat, List.getD_eq_getElem?_getD, h]; rfl
theorem mkAt_out {L : List Int} {x : Int} (h : x < 0 ∨ (L.length : Int) ≤ x) : mkAt L x = -1 := by
  unfold mkAt
  split
  · rw [List.getD_eq_getElem?_getD, List.getElem?_eq_none (by omega)]; rfl
  · rfl
theorem mkAt_set {L : List Int} {i : Nat} (hi : i < L.length) (a x : Int) : mkAt (L.set i a) x = if x = i then a else mkAt L x := by
  by_cases h : x = i
  · subst h; rw [if_pos rfl, mkAt_nat, List.getD_eq_getElem?_getD]; simp [hi]
  · rw [if_neg h]
    unfold mkAt
    split
    · rw [List.getD_eq_getElem?_getD, List.getD_eq_getElem?_getD, List.getElem?_set_ne (by omega)]
    · rfl
theorem mkAt_new (n : Nat) (x : Int) : mkAt (List.replicate n (-1)) x = -1 := by
  unfold mkAt
  split
  · rw [List.getD_eq_getElem?_getD, List.getElem?_replicate]
    split <;> rfl
  · rfl
theorem mkF_new (n : Nat) (x : Int) : mkF (List.replicate n (-1)) x = none := by unfold mkF; rw [mkAt_new]; rfl
theorem mkF_set {L : List Int} {i : Nat} (hi : i < L.length) {a : Int} (ha : 0 ≤ a) (x : Int) : mkF (L.set i a) x = if x = i then some (.int .i64 a) else mkF L x := by
  unfold mkF
  rw [mkAt_set hi]
  by_cases h : x = i
  · rw [if_pos h, if_pos h, if_pos ha]
  · rw [if_neg h, if_neg h]
theorem mkF_del {L : List Int} {i : Nat} (hi : i < L.length) {a : Int} (ha : a < 0) (x : Int) : mkF (L.set i a) x = if x = i then none else mkF L x := by
  unfold mkF
  rw [mkAt_set hi]
  by_cases h : x = i
  · rw [if_pos h, if_pos h, if_neg (by omega)]
  · rw [if_neg h, if_neg h]
theorem comF_in {n d : Nat} {V : Nat → Value} {x : Int} (h1 : (d : Int) < x) (h2 : x ≤ (n : Int)) : comF n d V x = some (V x.toNat) := by unfold comF; rw [if_pos ⟨h1, h2⟩]
theorem comF_out {n d : Nat} {V : Nat → Value} {x : Int} (h : x ≤ d ∨ (n : Int) < x) : comF n d V x = none := by unfold comF; rw [if_neg (by omega)]
theorem comF_put (n d : Nat) (V : Nat → Value) (hd : d ≤ n) (v : Value) (x : Int) : comF (n + 1) d (fun i => if i = n + 1 then v else V i) x = if x = ((n + 1 : Nat) : Int) then some v else comF n d V x := by
  unfold comF
  by_cases h : x = ((n + 1 : Nat) : Int)
  · subst h
    rw [if_pos (by omega), if_pos rfl]
    simp
  · rw [if_neg h]
    by_cases h2 : (d : Int) < x ∧ x ≤ (n : Int)
    · rw [if_pos h2, if_pos (by omega)]
      show some (if x.toNat = n + 1 then v else V x.toNat) = _
      rw [if_neg (by omega)]
    · rw [if_neg h2, if_neg (by omega)]
theorem comF_del (n d : Nat) (V : Nat → Value) (x : Int) : comF n (d + 1) V x = if x = ((d + 1 : Nat) : Int) then none else comF n d V x := by
  unfold comF
  by_cases h : x = ((d + 1 : Nat) : Int)
  · subst h; rw [if_pos rfl, if_neg (by omega)]
  · rw [if_neg h]
    by_cases h2 : (d : Int) < x ∧ x ≤ (n : Int)
    · rw [if_pos h2, if_pos (by omega)]
    · rw [if_neg h2, if_neg (by omega)]

/-! ### the table -/
def dropL (d n : Nat) : List Bool := List.replicate d true ++ List.replicate (n - d) false
def tbC (t : Tb) (d cm mm : Nat) : Array Value := #[.int .i64 (t.marks.length : Int), .int .i64 t.limit, .int .i64 (t.all.length : Int), .int .i64 (t.low : Int), .int .i64 (d : Int), .map (some cm), .map (some mm), .int .i64 t.holder]
/-- the table in block b; its maps in cm and mm; d commits are dropped; V: where the others lie -/
structure TabAt (w : World) (b cm mm : Nat) (S : Nat → Prop) (t : Tb) (d : Nat) (V : Nat → Value) : Prop where
  ok : t.ok
  drp : t.dropped = dropL d t.all.length
  dlow : d ≤ t.low
  blk : w.heap[b]? = some (.cells (tbC t d cm mm) 56 (0, 0))
  com : ∃ D, MapF w cm (.slice none 0 0) (comF t.all.length d V) (t.all.length - d) D
  mks : ∃ D, MapF w mm (.int .i64 0) (mkF t.marks) (cntM t.marks) D
  wr : ∀ i xs, t.all[i]? = some xs → d ≤ i → OwnS lPw 0 w (V (i + 1)) xs ∧ ∀ k, (V (i + 1)).ownBlock = some k → S k
  Sb : S b
  Sc : S cm
  Sm : S mm
  ne : cm ≠ mm
  lt : ∀ k, S k → k < w.heap.size
theorem OwnS.isW {base : Nat} {w : World} {v : Value} {xs : List Wr} (h : OwnS lPw base w v xs) : ∀ k, v.ownBlock = some k → isW w k := fun k hk => by
  obtain ⟨-, h⟩ := h
  rcases h with ⟨rfl, -⟩ | ⟨g, cap, cur, rfl, -, hg, -⟩
  · cases hk
  · obtain rfl := Option.some.inj hk
    exact ⟨cur, (0, 0), hg⟩
theorem OwnS.keptN {α : Type} {E : Lay α} {S : Nat → Prop} {base : Nat} {w w' : World} {v : Value} {xs : List α} (h : OwnS E base w v xs) (hk : Kept S w w') (hn : ∀ k, v.ownBlock = some k → ¬ S k) : OwnS E base w' v xs :=
  h.kept hk (fun a n c hv hs => hn a.block (by rw [hv]; rfl) hs)
section
variable {w w' : World} {b cm mm : Nat} {S : Nat → Prop} {t : Tb} {d : Nat} {V : Nat → Value}
theorem TabAt.nW (h : TabAt w b cm mm S t d V) : ¬ isW w b := fun ⟨cs, o, e⟩ => by
  rw [h.blk] at e
  have := (Obj.cells.inj (Option.some.inj e)).2.1
  exact absurd this (by decide)
theorem TabAt.nC (h : TabAt w b cm mm S t d V) : ¬ isW w cm := fun ⟨_, _, e⟩ => let ⟨_, q⟩ := h.com; q.notCells e
theorem TabAt.nM (h : TabAt w b cm mm S t d V) : ¬ isW w mm := fun ⟨_, _, e⟩ => let ⟨_, q⟩ := h.mks; q.notCells e
theorem TabAt.bc (h : TabAt w b cm mm S t d V) : b ≠ cm := fun e => let ⟨_, q⟩ := h.com; q.notCells (e ▸ h.blk)
theorem TabAt.bm (h : TabAt w b cm mm S t d V) : b ≠ mm := fun e => let ⟨_, q⟩ := h.mks; q.notCells (e ▸ h.blk)
theorem TabAt.mt (h : TabAt w b cm mm S t d V) : ∀ k, k = b ∨ k = cm ∨ k = mm → Mt w S k := fun k hk => by
  rcases hk with rfl | rfl | rfl
  · exact ⟨h.Sb, h.nW⟩
  · exact ⟨h.Sc, h.nC⟩
  · exact ⟨h.Sm, h.nM⟩
theorem TabAt.dn (h : TabAt w b cm mm S t d V) : d ≤ t.all.length := Nat.le_trans h.dlow h.ok.low
theorem TabAt.keep {T : Nat → Prop} (h : TabAt w b cm mm S t d V) (hk : Kept T w w') (hn : ∀ k, S k → ¬ T k) : TabAt w' b cm mm S t d V :=
  ⟨h.ok, h.drp, h.dlow, (hk.block b (h.lt b h.Sb) (hn b h.Sb)).trans h.blk, let ⟨D, q⟩ := h.com; ⟨D, q.keep hk (hn cm h.Sc)⟩, let ⟨D, q⟩ := h.mks; ⟨D, q.keep hk (hn mm h.Sm)⟩,
    fun i xs hi hd => let ⟨q1, q2⟩ := h.wr i xs hi hd; ⟨q1.keptN hk (fun k e => hn k (q2 k e)), q2⟩, h.Sb, h.Sc, h.Sm, h.ne, fun k hs => Nat.lt_of_lt_of_le (h.lt k hs) hk.size⟩
theorem TabAt.step (h : TabAt w b cm mm S t d V) (hb : Below w.heap.size w w') : TabAt w' b cm mm S t d V := h.keep (Kept.of_below (S := fun _ => False) hb) (fun _ _ e => e)
theorem TabAt.c0 (h : TabAt w b cm mm S t d V) : w.cell? ⟨b, 0, none⟩ = some (.int .i64 (t.marks.length : Int)) := blk_cell h.blk 0
theorem TabAt.c1 (h : TabAt w b cm mm S t d V) : w.cell? ⟨b, 1, none⟩ = some (.int .i64 t.limit) := blk_cell h.blk 1
theorem TabAt.c2 (h : TabAt w b cm mm S t d V) : w.cell? ⟨b, 2, none⟩ = some (.int .i64 (t.all.length : Int)) := blk_cell h.blk 2
theorem TabAt.c3 (h : TabAt w b cm mm S t d V) : w.cell? ⟨b, 3, none⟩ = some (.int .i64 (t.low : Int)) := blk_cell h.blk 3
theorem TabAt.c4 (h : TabAt w b cm mm S t d V) : w.cell? ⟨b, 4, none⟩ = some (.int .i64 (d : Int)) := blk_cell h.blk 4
theorem TabAt.c5 (h : TabAt w b cm mm S t d V) : w.cell? ⟨b, 5, none⟩ = some (.map (some cm)) := blk_cell h.blk 5
theorem TabAt.c6 (h : TabAt w b cm mm S t d V) : w.cell? ⟨b, 6, none⟩ = some (.map (some mm)) := blk_cell h.blk 6
theorem TabAt.c7 (h : TabAt w b cm mm S t d V) : w.cell? ⟨b, 7, none⟩ = some (.int .i64 t.holder) := blk_cell h.blk 7
/-- the block alone is written: numbers that the maps don't hang on -/
theorem TabAt.blkTo {t' : Tb} (h : TabAt w b cm mm S t d V) (hk : Kept (fun k => k = b) w w') (hb : w'.heap[b]? = some (.cells (tbC t' d cm mm) 56 (0, 0)))
    (hok : t'.ok) (hall : t'.all = t.all) (hdr : t'.dropped = t.dropped) (hm : t'.marks = t.marks) (hl : d ≤ t'.low) : TabAt w' b cm mm S t' d V :=
  ⟨hok, by rw [hdr, hall]; exact h.drp, hl, hb, by rw [hall]; exact let ⟨D, q⟩ := h.com; ⟨D, q.keep hk h.bc.symm⟩, by rw [hm]; exact let ⟨D, q⟩ := h.mks; ⟨D, q.keep hk h.bm.symm⟩,
    fun i xs hi hd => let ⟨q1, q2⟩ := h.wr i xs (by rw [← hall]; exact hi) hd; ⟨q1.keptN hk (fun k e hkb => h.nW (hkb ▸ q1.isW k e)), q2⟩, h.Sb, h.Sc, h.Sm, h.ne, fun k hs => Nat.lt_of_lt_of_le (h.lt k hs) hk.size⟩
end
/-- what a table of package commits is in memory -/
def InvT (w : World) (a : Addr) (S : Nat → Prop) (t : Tb) : Prop := ∃ b cm mm d V, a = ⟨b, 0, none⟩ ∧ TabAt w b cm mm S t d V
theorem InvT.keep {w w' : World} {a : Addr} {S : Nat → Prop} {t : Tb} (h : InvT w a S t) (hk : Kept (fun k => ¬ S k) w w') : InvT w' a S t :=
  let ⟨b, cm, mm, d, V, e, q⟩ := h
  ⟨b, cm, mm, d, V, e, q.keep hk (fun _ hs hn => hn hs)⟩
end Go.Proofs.YtkbfhpgcjljbbaaDoor
