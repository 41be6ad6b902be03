/- Memory tools for any stage: making, copying and writing slices of any element type; blocks; results in cells. No package of the program is named here. -/
import Derived.Test.YtkbfhpgcjljbbaaLfMv
import Derived.Test.YtkbfhpgcjljbbaaRwSB
import Derived.Laws.MakeOwn
import Derived.Laws.CopyRow
import Derived.Deep.MidRow
import Derived.Lib.LazyBuf
namespace Go.Proofs.Ytkbfhpgcjljbbaa
set_option linter.unusedVariables false
set_option linter.unusedSimpArgs false
open Go.RowKit
variable {α : Type}

theorem known_of {α : Type} {E : Lay α} {z : Value} {n b : Nat} (h : (Try.prog.info? E.ty).map (fun i => (i.zero, i.size, i.bytes)) = some (some z, n, b)) (hn : n = E.sz) (hz : z.cells.size = n) : E.known b := by
  obtain ⟨i, hi, h⟩ := Option.map_eq_some_iff.1 h
  simp only [Prod.mk.injEq] at h
  exact ⟨i, z, hi, h.1, h.2.1.trans hn, h.2.2, hz.trans hn⟩
theorem Lay.flat_set (E : Lay α) : ∀ (xs : List α) (i j : Nat) (x y : α) (u : Value), xs[i]? = some x → j < E.sz → E.enc y = (E.enc x).set j u → E.flat (xs.set i y) = (E.flat xs).set (i * E.sz + j) u
  | [], _, _, _, _, _, h, _, _ => by simp at h
  | z :: xs, 0, j, x, y, u, h, hj, he => by
    obtain rfl : z = x := by simpa using h
    simp only [List.set_cons_zero, Lay.flat, Nat.zero_mul, Nat.zero_add]
    rw [List.set_append_left _ _ (by rw [E.len]; exact hj), he]
  | z :: xs, i + 1, j, x, y, u, h, hj, he => by
    have ih := E.flat_set xs i j x y u (by simpa using h) hj he
    simp only [List.set_cons_succ, Lay.flat]
    rw [ih, List.set_append_right _ _ (by rw [E.len, Nat.add_mul]; omega), E.len, Nat.add_mul, show i * E.sz + 1 * E.sz + j - E.sz = i * E.sz + j by omega]
theorem OwnS.set {E : Lay α} {base : Nat} {w : World} {g n cap : Nat} {xs : List α} (h : OwnS E base w (.slice (some ⟨g, 0, none⟩) n cap) xs) {i j : Nat} {x y : α} {u : Value} (hi : xs[i]? = some x) (hj : j < E.sz) (he : E.enc y = (E.enc x).set j u) :
    OwnS E base (w.setCell ⟨g, i * E.sz + j, none⟩ u) (.slice (some ⟨g, 0, none⟩) n cap) (xs.set i y) := by
  have hn : n = xs.length := by
    obtain ⟨_, h⟩ := h
    rcases h with ⟨h, -⟩ | ⟨g', cap', cur, h, -⟩
    · cases h
    · exact (Value.slice.inj h).2.1
  subst hn
  have e := (World.ownsRow.stored h (i * E.sz + j) u).1
  unfold OwnS
  rw [E.flat_set xs i j x y u hi hj he, List.length_set]
  exact e
/-- the first k elements are turned -/
def turned (f : α → α) (xs : List α) (k : Nat) : List α := (xs.take k).map f ++ xs.drop k
theorem turned_zero (f : α → α) (xs : List α) : turned f xs 0 = xs := by simp [turned]
theorem turned_len (f : α → α) (xs : List α) (k : Nat) : (turned f xs k).length = xs.length := by unfold turned; simp; omega
theorem turned_at (f : α → α) {xs : List α} {k : Nat} {x : α} (h : xs[k]? = some x) : (turned f xs k)[k]? = some x := by
  have hk : k < xs.length := (List.getElem?_eq_some_iff.1 h).1
  unfold turned
  rw [List.getElem?_append_right (by simp; omega), List.length_map, List.length_take, List.getElem?_drop, show k + (k - min k xs.length) = k by omega]
  exact h
theorem turned_set (f : α → α) {xs : List α} {k : Nat} {x : α} (h : xs[k]? = some x) : turned f xs (k + 1) = (turned f xs k).set k (f x) := by
  have hk : k < xs.length := (List.getElem?_eq_some_iff.1 h).1
  have hx : xs[k] = x := by rw [List.getElem?_eq_getElem hk] at h; exact Option.some.inj h
  unfold turned
  rw [List.take_succ_eq_append_getElem hk, List.map_append, List.append_assoc, List.set_append_right _ _ (by simp; omega), List.length_map, List.length_take, show k - min k xs.length = 0 by omega, List.drop_eq_getElem_cons hk]
  simp [hx]
theorem OwnS.form {E : Lay α} {base : Nat} {w : World} {v : Value} {xs : List α} (h : OwnS E base w v xs) (hn : ¬ xs.length = 0) : ∃ g cap, v = .slice (some ⟨g, 0, none⟩) xs.length cap ∧ base ≤ g ∧ g < w.heap.size ∧ cap ≤ maxLen ∧ xs.length ≤ cap := by
  obtain ⟨_, h⟩ := h
  rcases h with ⟨-, h⟩ | ⟨g, cap, cur, rfl, hb, hg, hnc, hc, -⟩
  · exact absurd h hn
  · exact ⟨g, cap, rfl, hb, (Array.getElem?_eq_some_iff.1 hg).1, hc, hnc⟩
theorem OwnS.free {E : Lay α} {base : Nat} {w : World} {g n cap : Nat} {xs : List α} (h : OwnS E base w (.slice (some ⟨g, 0, none⟩) n cap) xs) (j : Nat) : w.frozen? ⟨g, j, none⟩ = false := by
  have hn : n = xs.length := by
    obtain ⟨_, h⟩ := h
    rcases h with ⟨h, -⟩ | ⟨g', cap', cur, h, -⟩
    · cases h
    · exact (Value.slice.inj h).2.1
  subst hn
  exact World.ownsRow.frozenAt h j
theorem Kept.setCell {w w' : World} {g : Nat} (h : Kept (fun k => k = g) w w') (o : Nat) (u : Value) : Kept (fun k => k = g) w (w'.setCell ⟨g, o, none⟩ u) := by
  refine ⟨h.os, h.tape, h.output, by have := h.size; simp [World.setCell]; exact this, fun k hk hn => ?_⟩
  rw [← h.block k hk hn]
  simp only [World.setCell]
  rw [Array.getElem?_modify]
  rw [if_neg (fun e => hn e.symm)]
theorem Kept.trans2 {S T U : Nat → Prop} {a b c : World} (h : Kept S a b) (k : Kept T b c) (hs : ∀ x, S x → U x) (ht : ∀ x, T x → U x) : Kept U a c :=
  (h.wide fun x _ => hs x).trans (k.wide fun x _ => ht x)
theorem OwnS.lenN {E : Lay α} {base n : Nat} {w : World} {v : Value} {xs : List α} (h : OwnS E base w v xs) (hn : xs.length = n) : ∃ a cap, v = .slice a n cap ∧ n ≤ cap ∧ cap ≤ maxLen := by
  subst hn
  exact h.sv.lenform
theorem OwnS.addrN {E : Lay α} {base n cap : Nat} {a : Option Addr} {w : World} {xs : List α} (h : OwnS E base w (.slice a n cap) xs) (hn : ¬ n = 0) : ∃ g, a = some ⟨g, 0, none⟩ := by
  obtain ⟨_, h⟩ := h
  rcases h with ⟨h, -⟩ | ⟨g, c, cur, h, -⟩
  · obtain ⟨-, e, -⟩ := Value.slice.inj h
    exact absurd e hn
  · exact ⟨g, (Value.slice.inj h).1⟩
theorem OwnS.bounds {E : Lay α} {base : Nat} {w : World} {v : Value} {xs : List α} (h : OwnS E base w v xs) : ∀ k, v.ownBlock = some k → base ≤ k ∧ k < w.heap.size := World.ownsRow.lt h
/-- blocks of other element types are others -/
theorem OwnS.ne {β : Type} {E : Lay α} {F : Lay β} {b c : Nat} {w : World} {g n cap : Nat} {v : Value} {xs : List α} {ys : List β} (h : OwnS E b w (.slice (some ⟨g, 0, none⟩) n cap) xs) (k : OwnS F c w v ys) (hne : E.ty ≠ F.ty) : Out (fun x => x = g) v := by
  intro a m d hv hs
  obtain ⟨_, h⟩ := h
  obtain ⟨_, k⟩ := k
  rcases h with ⟨h, -⟩ | ⟨g1, c1, u1, h, -, hg, -⟩
  · cases h
  · obtain ⟨e, -, -⟩ := Value.slice.inj h
    obtain rfl : g = g1 := by simpa using e
    rcases k with ⟨rfl, -⟩ | ⟨g2, c2, u2, rfl, -, hk, -⟩
    · cases hv
    · obtain ⟨e2, -, -⟩ := Value.slice.inj hv
      obtain rfl := Option.some.inj e2
      simp only at hs
      subst hs
      rw [hg] at hk
      simp at hk
      exact hne hk.2
theorem OwnS.neB {β : Type} {E : Lay α} {F : Lay β} {b c : Nat} {w : World} {u v : Value} {xs : List α} {ys : List β} (h : OwnS E b w u xs) (k : OwnS F c w v ys) (hne : E.ty ≠ F.ty) : Out (fun x => u.ownBlock = some x) v := by
  intro a m d hv hs
  have h0 := h
  obtain ⟨_, h'⟩ := h
  rcases h' with ⟨rfl, -⟩ | ⟨g1, c1, u1, rfl, -⟩
  · cases hs
  · have e : g1 = a.block := Option.some.inj hs
    exact OwnS.ne h0 k hne a m d hv e.symm
theorem Kept.setCellB {w w' : World} {g n c : Nat} (h : Kept (fun k => (Value.slice (some ⟨g, 0, none⟩) n c).ownBlock = some k) w w') (o : Nat) (u : Value) : Kept (fun k => (Value.slice (some ⟨g, 0, none⟩) n c).ownBlock = some k) w (w'.setCell ⟨g, o, none⟩ u) :=
  ((h.wide (T := fun k => k = g) (fun _ _ hk => (Option.some.inj hk).symm)).setCell o u).wide fun _ _ hk => congrArg some hk.symm
theorem run_makeS (E : Lay α) (T : TypeId) (hT : Try.prog.underlying T = some (.slice E.ty)) {by_ : Nat} (hk : E.known by_) (hby : by_ ≤ 10000) (n : Nat) (hn : n ≤ 100000) :
    ∃ zs : Array Value, zs.size = n * E.sz ∧ ∀ w : World, (Instr.makeSlice T (.int .i64 (n : Int)) (.int .i64 (n : Int))).run Try.prog w = .ok (.slice (some ⟨w.heap.size, 0, none⟩) n n) (w.alloc (.cells zs E.ty)) := by
  obtain ⟨i, z, hi, hz, hsz, hb, hzs⟩ := hk
  refine ⟨madeCells z.cells (n * E.sz), size_madeCells _ _, fun w => ?_⟩
  have hbb : by_ * n ≤ 10000 * 100000 := Nat.mul_le_mul hby hn
  have h := run_make (P := Try.prog) w T E.ty i z hT hi hz .i64 .i64 n n (by omega) (Int.le_refl _) (by rw [hb, ← Int.natCast_mul]; omega) (by omega)
  simp only [Int.toNat_natCast, hsz] at h
  exact h
theorem setRow_new (w : World) (zs cs : Array Value) (T : TypeId) (g : Nat) (hg : w.heap.size = g) : (w.alloc (.cells zs T)).setRow g cs = w.alloc (.cells cs T) := by
  subst hg
  unfold World.setRow World.alloc
  congr 1
  simp only
  apply Array.ext_getElem?
  intro i
  rw [Array.getElem?_modify]
  by_cases h : w.heap.size = i
  · subst h; simp
  · rw [if_neg h, Array.getElem?_push, Array.getElem?_push, if_neg (fun e => h e.symm), if_neg (fun e => h e.symm)]
theorem run_copyS (E : Lay α) (T : TypeId) (hT : Try.prog.underlying T = some (.slice E.ty)) {by_ : Nat} (hk : E.known by_) (w : World) (ty : TypeId) (g n dc : Nat) (zs : Array Value) (x : Value) (xs : List α)
    (hg : w.heap.size = g) (hz : zs.size = n * E.sz) (hx : SV E (w.alloc (.cells zs E.ty)) x xs) (hn : xs.length = n) (hne : ∀ c, x ≠ .slice none n c) :
    (Builtin.copy_ #[T, T] ty #[.slice (some ⟨g, 0, none⟩) n dc, x]).run Try.prog (w.alloc (.cells zs E.ty)) = .ok (goInt n) (w.alloc (.cells (E.flat xs).toArray E.ty)) := by
  obtain ⟨i, z, hi, hzz, hsz, hb, hzs⟩ := hk
  obtain ⟨a, cap, rfl, e2, e3, e4, b, off, h5, h6⟩ := hx
  subst hn
  cases a with
  | none => exact absurd rfl (hne cap)
  | some y =>
    have hl := run_loadCells_list (P := Try.prog) (w.alloc (.cells zs E.ty)) y (E.flat xs) (fun j u hu => by
      obtain rfl := h5 (fun h0 => by rw [List.eq_nil_of_length_eq_zero h0] at hu; simp [Lay.flat] at hu) y rfl
      rw [Addr.add_mid]; exact h6 j u hu)
    have hgg : (w.alloc (.cells zs E.ty)).heap[g]? = some (.cells zs E.ty (0, 0)) := by subst hg; exact heap_alloc_new w _
    have hst := run_storeCells_at Try.prog g 0 E.ty (E.flat xs) 0 zs (w.alloc (.cells zs E.ty)) hgg (by rw [E.flat_len, hz]; omega) (E.flat_one xs)
    have hd : zs.toList.drop (0 + 0 + (E.flat xs).length) = [] := List.drop_eq_nil_of_le (by rw [E.flat_len]; simp [hz])
    rw [hd, List.append_nil, show zs.toList.take (0 + 0) = [] from rfl, List.nil_append, setRow_new w zs _ E.ty g hg] at hst
    rw [E.flat_len] at hl
    simp [Builtin.copy_, run_underlying hT, Builtin.lenOf, Builtin.firstCells, sizeOf, typeInfo, hi, hsz, hl, hst]

theorem blk_cell {w : World} {b : Nat} {cs : Array Value} {T : TypeId} (h : w.heap[b]? = some (.cells cs T (0, 0))) (o : Nat) : w.cell? ⟨b, o, none⟩ = cs[o]? := by simp [World.cell?, h]
theorem blk_free {w : World} {b : Nat} {cs : Array Value} {T : TypeId} (h : w.heap[b]? = some (.cells cs T (0, 0))) (o : Nat) : w.frozen? ⟨b, o, none⟩ = false := by simp [World.frozen?, h]
theorem blk_set {w : World} {b : Nat} {cs : Array Value} {T : TypeId} (h : w.heap[b]? = some (.cells cs T (0, 0))) (o : Nat) (x : Value) : (w.setCell ⟨b, o, none⟩ x).heap[b]? = some (.cells (cs.setIfInBounds o x) T (0, 0)) := by
  simp [World.setCell, Array.getElem?_modify, h]
theorem blk_step {w w' : World} {b : Nat} {o : Obj} (h : w.heap[b]? = some o) (hs : Below w.heap.size w w') : w'.heap[b]? = some o := (hs.block b (Array.getElem?_eq_some_iff.1 h).1).trans h
theorem blk_new (w : World) (o : Obj) : (w.alloc o).heap[w.heap.size]? = some o := heap_alloc_new w o
theorem below_set {n : Nat} {w0 w : World} (h : Below n w0 w) {b : Nat} (hb : n ≤ b) (o : Nat) (x : Value) : Below n w0 (w.setCell ⟨b, o, none⟩ x) :=
  ⟨h.os, h.tape, h.output, by have := h.size; simp [World.setCell]; exact this, fun k hk => by
    rw [← h.block k hk]
    exact Below.heap_setCell _ _ _ _ (show k ≠ b by omega)⟩
theorem OwnS.setOther {E : Lay α} {base : Nat} {w : World} {v : Value} {xs : List α} (h : OwnS E base w v xs) {b o : Nat} {x : Value} (hb : ∀ k, v.ownBlock = some k → k ≠ b) : OwnS E base (w.setCell ⟨b, o, none⟩ x) v xs :=
  h.kept (S := fun k => k = b) ((Kept.refl _ w).setCell o x) (fun a n c hv hs => hb a.block (by rw [hv]; rfl) hs)
theorem blk_there {w : World} {b : Nat} {cs : Array Value} {T : TypeId} (h : w.heap[b]? = some (.cells cs T (0, 0))) (n : Nat) (hn : n ≤ cs.size) : w.there b 0 n := fun j hj => by
  refine ⟨?_, blk_free h _⟩
  rw [Nat.zero_add, blk_cell h, Array.getElem?_eq_getElem (by omega)]
  rfl
theorem Kept.setCells {w : World} {b : Nat} : ∀ (vs : List Value) (o : Nat) (w' : World), Kept (fun k => k = b) w w' → Kept (fun k => k = b) w (w'.setCells b o vs)
  | [], _, _, h => h
  | v :: vs, o, _, h => Kept.setCells vs (o + 1) _ (h.setCell o v)
theorem results_cell1 {fn : Func} {p : Tmp} {ty : TypeId} (h : fn.results = #[.cell p ty]) (tmps : Array Value) (w : World) (b : Nat) (cs : List Value) (d : TypeDesc) (hp : tmps.getD p undef = .pointer (some ⟨b, 0, none⟩)) (hc : w.rangeAt b 0 cs)
    (hu : Try.prog.underlying ty = some d) (hd : d.isRow = true) (hi : (Try.prog.info? ty).map (·.size) = some cs.length) : (results fn tmps).run Try.prog w = .ok (.agg cs.toArray) w := by
  simp only [results, h]
  have hl := run_loadVar_mid w b 0 ty cs d hc hu hd hi
  have hp' : tmps[p]?.getD undef = .pointer (some ⟨b, 0, none⟩) := by simpa using hp
  simp [hp', asAddr, hl]
theorem Kept.setNew {S : Nat → Prop} {w w' : World} (h : Kept S w w') {b : Nat} (hb : w.heap.size ≤ b) (o : Nat) (u : Value) : Kept S w (w'.setCell ⟨b, o, none⟩ u) :=
  ⟨h.os, h.tape, h.output, by have := h.size; simp [World.setCell]; exact this, fun k hk hn => (Below.heap_setCell _ _ _ _ (show k ≠ b by omega)).trans (h.block k hk hn)⟩
theorem blk_off {w : World} {k : Nat} {o : Obj} (h : w.heap[k]? = some o) {b : Nat} (hne : k ≠ b) (off : Nat) (x : Value) : (w.setCell ⟨b, off, none⟩ x).heap[k]? = some o := (Below.heap_setCell _ _ _ _ hne).trans h
theorem OwnS.block {α : Type} {E : Lay α} {base : Nat} {w : World} {g n c : Nat} {xs : List α} (h : OwnS E base w (.slice (some ⟨g, 0, none⟩) n c) xs) : ∃ cur, w.heap[g]? = some (.cells cur E.ty (0, 0)) ∧ cur.size = c * E.sz := by
  obtain ⟨-, h⟩ := h
  rcases h with ⟨e, -⟩ | ⟨g2, c2, u2, e, -, hg, -, -, hz, -⟩
  · cases e
  · obtain ⟨e1, -, e2⟩ := Value.slice.inj e
    subst e2
    obtain rfl : g = g2 := by simpa using e1
    exact ⟨u2, hg, hz⟩
theorem results_cellT {fn : Func} {p u : Tmp} {ty : TypeId} (h : fn.results = #[.cell p ty, .tmp u]) (tmps : Array Value) (w : World) (b : Nat) (cs : List Value) (d : TypeDesc) (ev : Value) (hp : tmps.getD p undef = .pointer (some ⟨b, 0, none⟩)) (hev : tmps.getD u undef = ev) (hc : w.rangeAt b 0 cs)
    (hu : Try.prog.underlying ty = some d) (hd : d.isRow = true) (hi : (Try.prog.info? ty).map (·.size) = some cs.length) : (results fn tmps).run Try.prog w = .ok (.tuple #[.agg cs.toArray, ev]) w := by
  have hl := run_loadVar_mid w b 0 ty cs d hc hu hd hi
  rw [results_cell_tmp h, hp, hev]
  simp [asAddr, hl, Result.andThen]
theorem blk_sets {w : World} {b : Nat} {T : TypeId} : ∀ (vs : List Value) (o : Nat) (cs : Array Value), w.heap[b]? = some (.cells cs T (0, 0)) → ∃ cs' : Array Value, (w.setCells b o vs).heap[b]? = some (.cells cs' T (0, 0)) ∧ cs'.size = cs.size := by
  intro vs
  induction vs generalizing w with
  | nil => exact fun o cs h => ⟨cs, h, rfl⟩
  | cons v vs ih =>
    intro o cs h
    obtain ⟨cs', h1, h2⟩ := ih (o + 1) _ (blk_set h o v)
    exact ⟨cs', h1, by rw [h2]; simp⟩
theorem list_laid {w : World} {b : Nat} {cs : Array Value} {T : TypeId} (vs : List Value) (h : w.heap[b]? = some (.cells cs T (0, 0))) (hn : cs.size = vs.length) : (w.setCells b 0 vs).heap[b]? = some (.cells vs.toArray T (0, 0)) := by
  obtain ⟨cs', h1, h2⟩ := blk_sets vs 0 cs h
  have rg := World.rangeAt_setCells_same w b 0 vs (blk_there h vs.length (by omega))
  have e : cs' = vs.toArray := by
    apply Array.ext_getElem?
    intro i
    by_cases hi : i < vs.length
    · have e := rg i vs[i] (List.getElem?_eq_getElem hi)
      rw [Nat.zero_add, blk_cell h1] at e
      rw [e]; simp [hi]
    · rw [Array.getElem?_eq_none (by omega), Array.getElem?_eq_none (by simp; omega)]
  rw [h1, e]
theorem three_facts {w : World} {b : Nat} {T : TypeId} {x0 x1 x2 : Value} (h : w.heap[b]? = some (.cells #[x0, x1, x2] T (0, 0))) (u0 u1 u2 : Value) :
    w.cell? ⟨b, 0, none⟩ = some x0 ∧ w.frozen? ⟨b, 0, none⟩ = false ∧ (w.setCell ⟨b, 0, none⟩ u0).cell? ⟨b, 1, none⟩ = some x1 ∧ (w.setCell ⟨b, 0, none⟩ u0).frozen? ⟨b, 1, none⟩ = false ∧
    ((w.setCell ⟨b, 0, none⟩ u0).setCell ⟨b, 1, none⟩ u1).cell? ⟨b, 2, none⟩ = some x2 ∧ ((w.setCell ⟨b, 0, none⟩ u0).setCell ⟨b, 1, none⟩ u1).frozen? ⟨b, 2, none⟩ = false ∧
    (((w.setCell ⟨b, 0, none⟩ u0).setCell ⟨b, 1, none⟩ u1).setCell ⟨b, 2, none⟩ u2).heap[b]? = some (.cells #[u0, u1, u2] T (0, 0)) := by
  have h1 := blk_set h 0 u0
  have h2 := blk_set h1 1 u1
  have h3 := blk_set h2 2 u2
  exact ⟨blk_cell h 0, blk_free h 0, blk_cell h1 1, blk_free h1 1, blk_cell h2 2, blk_free h2 2, h3⟩
theorem two_facts {w : World} {b : Nat} {T : TypeId} {x0 x1 : Value} (h : w.heap[b]? = some (.cells #[x0, x1] T (0, 0))) (u0 u1 : Value) :
    w.cell? ⟨b, 0, none⟩ = some x0 ∧ w.frozen? ⟨b, 0, none⟩ = false ∧ (w.setCell ⟨b, 0, none⟩ u0).cell? ⟨b, 1, none⟩ = some x1 ∧ (w.setCell ⟨b, 0, none⟩ u0).frozen? ⟨b, 1, none⟩ = false ∧
    ((w.setCell ⟨b, 0, none⟩ u0).setCell ⟨b, 1, none⟩ u1).heap[b]? = some (.cells #[u0, u1] T (0, 0)) := by
  have h1 := blk_set h 0 u0
  have h2 := blk_set h1 1 u1
  exact ⟨blk_cell h 0, blk_free h 0, blk_cell h1 1, blk_free h1 1, h2⟩
theorem step_appS {α : Type} (E : Lay α) (T : TypeId) (hT : Try.prog.underlying T = some (.slice E.ty)) {by_ : Nat} (hk : E.known by_) (hz : 0 < E.sz) (hby : by_ ≤ 10000) {ops : Array Oper} {o : Oper} {a : Act} {w : World} {K : Act → World → Prop} {Q : Exit → Act → World → Prop} {F : Prop} (hgd : o.guard = none) (s x : Operand)
    (ho : o.op = .call { callee := .builtin .append, args := #[s, x], argTypes := #[T, T] }) (base : Nat) {v xv : Value} {xs ys : List α}
    (hs : a.eval s = v) (hx : a.eval x = xv) (hown : OwnS E base w v xs) (hsrc : SV E w xv ys) (h63 : xs.length + ys.length ≤ 100000) (hbase : base ≤ w.heap.size)
    (h : ∀ v' w', OwnS E base w' v' (xs ++ ys) → w.grownBy w' v.ownBlock → K (a.put o.dst v') w') :
    if Region.wanted o (yielded ops a.tmps) = true then Oper.wp Try.prog o a w K Q else F := by
  have hw : Region.wanted o (yielded ops a.tmps) = true := by simp [Region.wanted, hgd]
  rw [if_pos hw]
  obtain ⟨v', w', hr, h2, h3⟩ := run_appS E T hT hk hz w base o.type hown hsrc h63 hby hbase
  unfold Oper.wp execOp
  simp only [ho, resolve, invoke, builtin, Sem.run_bind, Sem.run_pure, Result.andThen_ok, List.map_toArray, List.map_cons, List.map_nil, hs, hx, hr]
  exact h v' w' h2 h3
end Go.Proofs.Ytkbfhpgcjljbbaa
