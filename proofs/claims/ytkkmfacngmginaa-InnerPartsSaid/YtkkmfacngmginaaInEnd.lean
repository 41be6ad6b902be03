/- Views in blocks: their ranges; what a store of a whole struct leaves; ends of functions whose results lie in blocks. -/
import Derived.Test.YtkkmfacngmginaaInRight
import Derived.Test.YtkkmfacngmginaaArLast
import Derived.Test.YtkkmfacngmginaaInRef
import Derived.Laws.ResultCell
namespace Go.Proofs.Ytkkmfacngmginaa
open Go.RowKit

theorem iv_range {w : World} {b : Nat} {v : IvD} {en : Value} (h : HB b (ivObj v en) w) : w.rangeAt b 0 (ivCells v en) := fun j u hj => by
  rw [Nat.zero_add, blk_cell h.b]
  rw [← hj, ← Array.getElem?_toList]; rfl
theorem iv_one (v : IvD) (a : Option Addr) (n c : Nat) : (ivCells v (.slice a n c)).toArray.all (fun x => x.oneCell') = true :=
  all_oneCell_toArray fun u h => by
    simp only [ivCells, List.mem_cons, List.not_mem_nil, or_false] at h
    rcases h with h | h | h | h | h | h | h | h | h <;> subst h <;> rfl
theorem ivInfoS : (Try.prog.info? 29).map (·.size) = some 9 := by kernel_rfl
theorem entInfoS : (Try.prog.info? 44).map (·.size) = some 2 := by kernel_rfl
theorem hdInfoS : (Try.prog.info? 27).map (·.size) = some 3 := by kernel_rfl
theorem results_cellT {fn : Func} {p u : Tmp} {ty : TypeId} (h : fn.results = #[.cell p ty, .tmp u]) (tmps : Array Value) (w : World) (b : Nat) (cs : List Value) (d : TypeDesc) (ev : Value) (hp : tmps.getD p undef = .pointer (some ⟨b, 0, none⟩)) (hev : tmps.getD u undef = ev) (hc : w.rangeAt b 0 cs)
    (hu : Try.prog.underlying ty = some d) (hd : d.isRow = true) (hi : (Try.prog.info? ty).map (·.size) = some cs.length) : (results fn tmps).run Try.prog w = .ok (.tuple #[.agg cs.toArray, ev]) w := by
  have hl := run_loadVar_mid w b 0 ty cs d hc hu hd hi
  rw [results_cell_tmp h, hp, hev]
  simp [asAddr, hl, Result.andThen]
theorem blk_sets {w : World} {b : Nat} {T : TypeId} : ∀ (vs : List Value) (o : Nat) (cs : Array Value), w.heap[b]? = some (.cells cs T (0, 0)) → ∃ cs' : Array Value, (w.setCells b o vs).heap[b]? = some (.cells cs' T (0, 0)) ∧ cs'.size = cs.size := by
  intro vs
  induction vs generalizing w with
  | nil => exact fun o cs h => ⟨cs, h, rfl⟩
  | cons v vs ih =>
    intro o cs h
    obtain ⟨cs', h1, h2⟩ := ih (o + 1) _ (blk_set h o v)
    exact ⟨cs', h1, by rw [h2]; simp⟩
/-- a struct stored over a block is what the block holds then -/
theorem HB.sets {w : World} {b : Nat} {T : TypeId} {cs : Array Value} (vs : List Value) (h : HB b (.cells cs T) w) (hn : cs.size = vs.length) : HB b (.cells vs.toArray T) (w.setCells b 0 vs) := by
  obtain ⟨cs', h1, h2⟩ := blk_sets vs 0 cs h.b
  have rg := World.rangeAt_setCells_same w b 0 vs (blk_there h.b vs.length (by omega))
  have e : cs' = vs.toArray := by
    apply Array.ext_getElem?
    intro i
    by_cases hi : i < vs.length
    · have hc := rg i (vs[i]) (List.getElem?_eq_getElem hi)
      rw [Nat.zero_add, blk_cell h1] at hc
      rw [hc]; simp [hi]
    · rw [Array.getElem?_eq_none (by omega), Array.getElem?_eq_none (by simp; omega)]
  exact ⟨by rw [h1, e]⟩
/-- another block stays -/
theorem HB.off {w : World} {b b2 : Nat} {o : Obj} (h : HB b o w) (hne : b ≠ b2) (vs : List Value) (k : Nat) : HB b o (w.setCells b2 k vs) :=
  ⟨((Kept.setCells vs k w (Kept.refl (fun x => x = b2) w)).block b h.lt hne).trans h.b⟩
theorem OwnS.sets {α : Type} {E : Lay α} {base : Nat} {w : World} {v : Value} {xs : List α} (h : OwnS E base w v xs) {b : Nat} (hb : b < base) (k : Nat) (vs : List Value) : OwnS E base (w.setCells b k vs) v xs :=
  h.kept (Kept.setCells vs k w (Kept.refl (fun x => x = b) w)) (h.out fun x hx => by rw [hx]; exact hb)
theorem OwnS.set1 {α : Type} {E : Lay α} {base : Nat} {w : World} {v : Value} {xs : List α} (h : OwnS E base w v xs) {b : Nat} (hb : b < base) (k : Nat) (u : Value) : OwnS E base (w.setCell ⟨b, k, none⟩ u) v xs :=
  h.kept ((Kept.refl (fun x => x = b) w).setCell k u) (h.out fun x hx => by rw [hx]; exact hb)
theorem HB.set1 {w : World} {b : Nat} {T : TypeId} {cs : Array Value} (h : HB b (.cells cs T) w) (k : Nat) (u : Value) : HB b (.cells (cs.setIfInBounds k u) T) (w.setCell ⟨b, k, none⟩ u) := ⟨blk_set h.b k u⟩
theorem HB.off1 {w : World} {b b2 : Nat} {o : Obj} (h : HB b o w) (hne : b ≠ b2) (k : Nat) (u : Value) : HB b o (w.setCell ⟨b2, k, none⟩ u) :=
  ⟨(((Kept.refl (fun x => x = b2) w).setCell k u).block b h.lt hne).trans h.b⟩
theorem HB.cell {n : Nat} {cs : Array Value} {T : TypeId} {w : World} (h : HB n (.cells cs T) w) (o : Nat) : w.cell? ⟨n, o, none⟩ = cs[o]? := blk_cell h.b o
theorem HB.free {n : Nat} {cs : Array Value} {T : TypeId} {w : World} (h : HB n (.cells cs T) w) (o : Nat) : w.frozen? ⟨n, o, none⟩ = false := blk_free h.b o
theorem HB.there {n : Nat} {cs : Array Value} {T : TypeId} {w : World} (h : HB n (.cells cs T) w) (k : Nat) (hk : k ≤ cs.size) : w.there n 0 k := blk_there h.b k hk
theorem HB.thereAt {n : Nat} {cs : Array Value} {T : TypeId} {w : World} (h : HB n (.cells cs T) w) (o k : Nat) (hk : o + k ≤ cs.size) : w.there n o k := fun j hj => by
  refine ⟨?_, blk_free h.b _⟩
  rw [blk_cell h.b, Array.getElem?_eq_getElem (by omega)]; rfl
theorem setCells678 (w : World) (b : Nat) (x y z : Value) : w.setCells b 6 (#[x, y, z] : Array Value).toList = ((w.setCell ⟨b, 6, none⟩ x).setCell ⟨b, 7, none⟩ y).setCell ⟨b, 8, none⟩ z := rfl
theorem HB.drew {n : Nat} {o : Obj} {w : World} (h : HB n o w) : HB n o w.drew := ⟨h.b⟩
theorem HB.vb {n : Nat} {v : IvD} {en : Value} {w : World} (h : HB n (ivObj v en) w) : VB n v en w := VB.of_blk h.b
theorem Lay.flat_drop {α : Type} (E : Lay α) : ∀ (xs : List α) (k : Nat), (E.flat xs).drop (k * E.sz) = E.flat (xs.drop k)
  | [], _ => by simp [Lay.flat]
  | _ :: _, 0 => by simp
  | x :: xs, k + 1 => by
    simp only [Lay.flat, List.drop_succ_cons]
    rw [List.drop_append, List.drop_of_length_le (by rw [E.len, Nat.add_mul]; omega), E.len, Nat.add_mul, show k * E.sz + 1 * E.sz - E.sz = k * E.sz by omega, E.flat_drop xs k, List.nil_append]
theorem SV.dropV {α : Type} {E : Lay α} {w : World} {b off n cap k : Nat} {xs : List α} (h : SV E w (.slice (some ⟨b, off, none⟩) n cap) xs) (hk : k ≤ xs.length) (hc : k < cap) : SV E w (.slice (some ⟨b, off + k * E.sz, none⟩) (n - k) (cap - k)) (xs.drop k) := by
  obtain ⟨a', cap', h1, h2, h3, h4, b', off', h5, h6⟩ := h
  obtain ⟨e, rfl, rfl⟩ := Value.slice.inj h1
  refine ⟨_, cap - k, by rw [List.length_drop], by rw [List.length_drop]; omega, by omega, fun h => (by cases h), b, off + k * E.sz, fun _ x hx => (Option.some.inj hx).symm, fun j u hu => ?_⟩
  have hlt : j < (xs.length - k) * E.sz := by
    have := (List.getElem?_eq_some_iff.1 hu).1
    rw [E.flat_len, List.length_drop] at this; exact this
  have hne : ¬ xs.length = 0 := fun h0 => by rw [h0] at hlt; simp at hlt
  have e2 := h5 hne _ e.symm
  obtain ⟨rfl, rfl⟩ : b = b' ∧ off = off' := by simpa using e2
  rw [← E.flat_drop, List.getElem?_drop] at hu
  rw [Nat.add_assoc]
  exact h6 _ u hu
theorem SV.dropE {α : Type} {E : Lay α} {w : World} (a : Addr) {k : Nat} {xs : List α} (hk : xs.length ≤ k) : SV E w (.slice (some a) 0 0) (xs.drop k) := by
  have e : xs.drop k = [] := List.drop_of_length_le hk
  rw [e]
  exact ⟨some a, 0, rfl, Nat.le_refl _, Nat.zero_le _, fun h => (by cases h), 0, 0, fun h => absurd rfl h, fun j u hu => by simp [Lay.flat] at hu⟩
theorem grown_below {α : Type} {E : Lay α} {n : Nat} {w0 wx wy : World} {v : Value} {xs : List α} (hb : Below n w0 wx) (ho : OwnS E n wx v xs) (hg : wx.grownBy wy v.ownBlock) (hn : n ≤ wx.heap.size) : Below n w0 wy ∧ n ≤ wy.heap.size :=
  ⟨hb.trans ((Kept.of_grown hg).below (fun j hj => (ho.bounds j hj.symm).1) hn), Nat.le_trans hn (Kept.of_grown hg).size⟩
def recZ : Obj := .cells #[.int .i64 0, .string ⟨#[]⟩, .string ⟨#[]⟩, .bool false, .int .i64 0, .slice none 0 0, .slice none 0 0, .string ⟨#[]⟩, .string ⟨#[]⟩, .int .i64 0, .int .i64 0, .int .i64 0, .string ⟨#[]⟩, .int .i64 0, .int .i64 0] 39
theorem SmallE.of (v : IvD) (h : SzI v) : SmallE v.ents := h.ents
/-- a record with entries alone in memory of a call's own -/
theorem RecO.ents {base : Nat} {w : World} {sc : Sc} {a : Option Addr} {c : Nat} {es : List En} (h : OwnS lEnt base w (.slice a es.length c) es) (hs : SzS sc) (hz : SmallE es) (hl : es.length ≤ 1000) : RecO base w (recVal sc (.slice none 0 0) (.slice a es.length c)) ⟨sc, [], es⟩ :=
  ⟨⟨sc, none, 0, a, c, [], es⟩, rfl, ⟨OwnS.nil _ _ _, h, hs, Small.nil, hz, by show 32 * 0 ≤ _; decide, by show 24 * es.length ≤ _; omega⟩, rfl⟩
end Go.Proofs.Ytkkmfacngmginaa
