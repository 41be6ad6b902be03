/- Memory, for any element type: slices that read as lists; slices of a call's own; append; what a call keeps but in a footprint. -/
import Derived.Test.YtkbfhpgcjljbbaaDoorRwV
import Derived.Deep.AppendLies
import Derived.Laws.OwnMore
import Derived.Lib.Hide
namespace Go.Proofs.YtkbfhpgcjljbbaaDoor
open Go.RowKit

/-- how the elements of a slice lie in memory: their type, the cells of one -/
structure Lay (α : Type) where
  ty : TypeId
  sz : Nat
  enc : α → List Value
  len : ∀ x, (enc x).length = sz
  one : ∀ x, ∀ u ∈ enc x, u.oneCell' = true
variable {α : Type}
def Lay.flat (E : Lay α) : List α → List Value
  | [] => []
  | x :: xs => E.enc x ++ E.flat xs
theorem Lay.flat_len (E : Lay α) : ∀ xs, (E.flat xs).length = xs.length * E.sz
  | [] => by simp [Lay.flat]
  | x :: xs => by simp only [Lay.flat, List.length_append, E.len, E.flat_len xs, List.length_cons, Nat.add_mul]; omega
theorem Lay.flat_app (E : Lay α) : ∀ a b, E.flat (a ++ b) = E.flat a ++ E.flat b
  | [], _ => rfl
  | x :: a, b => by simp only [Lay.flat, List.cons_append, E.flat_app a b, List.append_assoc]
theorem Lay.flat_one (E : Lay α) : ∀ xs, ∀ u ∈ E.flat xs, u.oneCell' = true
  | [], u, h => by simp [Lay.flat] at h
  | x :: xs, u, h => by
    simp only [Lay.flat, List.mem_append] at h
    exact h.elim (E.one x u) (E.flat_one xs u)
theorem Lay.flat_at (E : Lay α) : ∀ (xs : List α) (i j : Nat) (x : α), xs[i]? = some x → j < E.sz → (E.flat xs)[i * E.sz + j]? = (E.enc x)[j]?
  | [], _, _, _, h, _ => by simp at h
  | y :: xs, 0, j, x, h, hj => by
    obtain rfl : y = x := by simpa using h
    simp only [Lay.flat, Nat.zero_mul, Nat.zero_add]
    rw [List.getElem?_append_left (by rw [E.len]; exact hj)]
  | y :: xs, i + 1, j, x, h, hj => by
    have ih := E.flat_at xs i j x (by simpa using h) hj
    simp only [Lay.flat]
    rw [List.getElem?_append_right (by rw [E.len, Nat.add_mul]; omega), E.len, Nat.add_mul, show i * E.sz + 1 * E.sz + j - E.sz = i * E.sz + j by omega]
    exact ih
theorem Lay.flat_take (E : Lay α) : ∀ (xs : List α) (k : Nat), (E.flat xs).take (k * E.sz) = E.flat (xs.take k)
  | [], _ => by simp [Lay.flat]
  | _ :: _, 0 => by simp [Lay.flat]
  | x :: xs, k + 1 => by
    simp only [Lay.flat, List.take_succ_cons]
    rw [List.take_append, List.take_of_length_le (by rw [E.len, Nat.add_mul]; omega), E.len, Nat.add_mul, show k * E.sz + 1 * E.sz - E.sz = k * E.sz by omega, E.flat_take xs k]

/-- v reads as these elements -/
def SV (E : Lay α) (w : World) (v : Value) (xs : List α) : Prop := ∃ (a : Option Addr) (cap : Nat), v = .slice a xs.length cap ∧ xs.length ≤ cap ∧ cap ≤ maxLen ∧ (a = none → cap = 0) ∧
  ∃ b off, (¬ xs.length = 0 → ∀ x, a = some x → x = ⟨b, off, none⟩) ∧ ∀ j u, (E.flat xs)[j]? = some u → w.cell? ⟨b, off + j, none⟩ = some u
theorem SV.nil (E : Lay α) (w : World) : SV E w (.slice none 0 0) [] := ⟨none, 0, rfl, by simp, by simp, fun _ => rfl, 0, 0, fun _ _ h => (by cases h), fun j u h => by simp [Lay.flat] at h⟩
theorem SV.below {E : Lay α} {w w' : World} {v : Value} {xs : List α} (h : SV E w v xs) (hb : Below w.heap.size w w') : SV E w' v xs := by
  obtain ⟨a, cap, h1, h2, h3, h4, b, off, h5, h6⟩ := h
  refine ⟨a, cap, h1, h2, h3, h4, b, off, h5, fun j u hu => ?_⟩
  have hc := h6 j u hu
  rw [hb.cell (p := ⟨b, off + j, none⟩) (lt_of_cell hc)]; exact hc
theorem SV.lenform {E : Lay α} {w : World} {v : Value} {xs : List α} (h : SV E w v xs) : ∃ a cap, v = .slice a xs.length cap ∧ xs.length ≤ cap ∧ cap ≤ maxLen := by
  obtain ⟨a, cap, h1, h2, h3, _⟩ := h
  exact ⟨a, cap, h1, h2, h3⟩
/-- elements that are not none lie at an address -/
theorem SV.addr {E : Lay α} {w : World} {a : Option Addr} {n cap : Nat} {xs : List α} (h : SV E w (.slice a n cap) xs) (hne : ¬ xs.length = 0) : ∃ b off, a = some ⟨b, off, none⟩ := by
  obtain ⟨a', cap', h1, h2, h3, h4, b, off, h5, h6⟩ := h
  obtain ⟨rfl, -, rfl⟩ := Value.slice.inj h1
  cases a with
  | none => have := h4 rfl; omega
  | some x => exact ⟨b, off, by rw [h5 hne x rfl]⟩
theorem SV.cellAt {E : Lay α} {w : World} {b off n cap : Nat} {xs : List α} (h : SV E w (.slice (some ⟨b, off, none⟩) n cap) xs) {i j : Nat} {x : α} {u : Value} (hi : xs[i]? = some x) (hj : (E.enc x)[j]? = some u) :
    w.cell? ⟨b, off + i * E.sz + j, none⟩ = some u := by
  obtain ⟨a', cap', h1, h2, h3, h4, b', off', h5, h6⟩ := h
  obtain ⟨e, -, rfl⟩ := Value.slice.inj h1
  have e2 := h5 (fun h0 => by have := (List.getElem?_eq_some_iff.1 hi).1; omega) _ e.symm
  obtain ⟨rfl, rfl⟩ : b = b' ∧ off = off' := by simpa using e2
  have hlt : j < E.sz := by
    have := (List.getElem?_eq_some_iff.1 hj).1
    rw [E.len] at this; exact this
  rw [Nat.add_assoc]
  exact h6 _ u (by rw [E.flat_at xs i j x hi hlt]; exact hj)
theorem SV.takeV {E : Lay α} {w : World} {a : Option Addr} {n cap k : Nat} {xs : List α} (h : SV E w (.slice a n cap) xs) (hk : k ≤ xs.length) : SV E w (.slice a k cap) (xs.take k) := by
  obtain ⟨a', cap', h1, h2, h3, h4, b, off, h5, h6⟩ := h
  obtain ⟨rfl, rfl, rfl⟩ : a = a' ∧ n = xs.length ∧ cap = cap' := by simpa using h1
  refine ⟨a, cap, by rw [List.length_take, Nat.min_eq_left hk], by rw [List.length_take]; omega, h3, h4, b, off, fun hne => h5 (fun h0 => hne (by rw [List.length_take]; omega)), fun j u hu => ?_⟩
  rw [← E.flat_take] at hu
  have hj : j < k * E.sz := by
    have := (List.getElem?_eq_some_iff.1 hu).1
    rw [List.length_take] at this; omega
  rw [List.getElem?_take_of_lt hj] at hu
  exact h6 j u hu

/-- a slice of a call's own, at base or behind it -/
def OwnS (E : Lay α) (base : Nat) (w : World) (v : Value) (xs : List α) : Prop := w.ownsRow base E.ty E.sz v xs.length (E.flat xs)
theorem OwnS.sv {E : Lay α} {base : Nat} {w : World} {v : Value} {xs : List α} (h : OwnS E base w v xs) : SV E w v xs := by
  obtain ⟨_, h⟩ := h
  rcases h with ⟨rfl, h0⟩ | ⟨g, cap, cur, rfl, hb, hg, hn, hm, hz, ht⟩
  · have : xs = [] := List.eq_nil_of_length_eq_zero h0
    subst this
    exact SV.nil E w
  · refine ⟨_, cap, rfl, hn, hm, fun h => (by cases h), g, 0, fun _ x h => (Option.some.inj h).symm, fun j u hu => ?_⟩
    rw [Nat.zero_add, cell_of_row w g j cur _ _ hg]
    rw [← ht] at hu
    have hj : j < xs.length * E.sz := by
      have := (List.getElem?_eq_some_iff.1 hu).1
      rw [List.length_take] at this; omega
    rw [List.getElem?_take_of_lt hj] at hu
    simpa using hu
theorem OwnS.mono {E : Lay α} {b b' : Nat} {w : World} {v : Value} {xs : List α} (h : OwnS E b w v xs) (hb : b' ≤ b) : OwnS E b' w v xs :=
  ⟨h.1, h.2.imp id fun ⟨g, cap, cur, h1, h2, h3⟩ => ⟨g, cap, cur, h1, Nat.le_trans hb h2, h3⟩⟩
theorem OwnS.nil (E : Lay α) (base : Nat) (w : World) : OwnS E base w (.slice none 0 0) [] := World.ownsRow_nil w base _ E.sz
theorem OwnS.lit (E : Lay α) (base : Nat) (w : World) (n : Nat) (hn : w.heap.size = n) (xs : List α) (hb : base ≤ n) (hm : xs.length ≤ maxLen) : OwnS E base (w.alloc (.cells (E.flat xs).toArray E.ty)) (.slice (some ⟨n, 0, none⟩) xs.length xs.length) xs := by
  subst hn
  have h := World.ownsRow_lit (base := base) (e := E.ty) (size := E.sz) w (E.flat xs).toArray xs.length hb hm (by simp [E.flat_len])
  simpa [OwnS] using h
theorem OwnS.below {E : Lay α} {base : Nat} {w w' : World} {v : Value} {xs : List α} (h : OwnS E base w v xs) (hs : Below w.heap.size w w') : OwnS E base w' v xs := by
  obtain ⟨h0, h⟩ := h
  refine ⟨h0, h.imp id ?_⟩
  rintro ⟨g, cap, cur, h1, h2, h3, h4⟩
  exact ⟨g, cap, cur, h1, h2, (hs.block g (Array.getElem?_eq_some_iff.1 h3).1).trans h3, h4⟩
/-- what the program says of an element type -/
def Lay.known (E : Lay α) (by_ : Nat) : Prop := ∃ i z, Tryd.prog.info? E.ty = some i ∧ i.zero = some z ∧ i.size = E.sz ∧ i.bytes = by_ ∧ z.cells.size = E.sz
/-- APPEND, whatever is appended to elements of the call's own -/
theorem run_appS (E : Lay α) (T : TypeId) (hT : Tryd.prog.underlying T = some (.slice E.ty)) {by_ : Nat} (hk : E.known by_) (hz : 0 < E.sz) (w : World) (base : Nat) (ty : TypeId) {v xv : Value} {xs ys : List α} (ho : OwnS E base w v xs) (hx : SV E w xv ys)
    (h63 : xs.length + ys.length ≤ 100000) (hby : by_ ≤ 10000) (hbase : base ≤ w.heap.size) :
    ∃ v' w', (Builtin.append_ #[T, T] ty #[v, xv]).run Tryd.prog w = .ok v' w' ∧ OwnS E base w' v' (xs ++ ys) ∧ w.grownBy w' v.ownBlock := by
  obtain ⟨i, z, hi, hzz, hsz, hb, hzs⟩ := hk
  obtain ⟨a, cap, e1, e2, e3, e4, b, off, h5, h6⟩ := hx
  subst e1
  cases a with
  | none =>
    have hc := e4 rfl
    have hl : ys.length = 0 := by omega
    have : ys = [] := List.eq_nil_of_length_eq_zero hl
    subst this
    subst hc
    exact ⟨v, w, run_append_owned_none w base T ty E.ty i E.sz hT hi v xs.length (E.flat xs) ho, by rw [List.append_nil]; exact ho, ⟨rfl, rfl, rfl, Nat.le_refl _, fun _ _ _ => rfl⟩⟩
  | some x =>
    have hbb : (xs.length + ys.length) * by_ ≤ 100000 * 10000 := Nat.mul_le_mul h63 hby
    obtain ⟨v', w', hr, h2, h3, -⟩ := run_append_own (P := Tryd.prog) w base T ty E.ty i z E.sz by_ hT hi hzz hsz hb hzs hz v xs.length (E.flat xs) ho
      x ys.length cap (E.flat ys) (E.flat_len ys) (fun j u hu => by
        obtain rfl := h5 (fun h0 => by rw [List.eq_nil_of_length_eq_zero h0] at hu; simp [Lay.flat] at hu) x rfl
        rw [Addr.add_lit]; exact h6 j u hu) (E.flat_one ys) (by simp [maxLen]; omega) (by omega) hbase
    refine ⟨v', w', hr, ?_, h3⟩
    unfold OwnS
    rw [E.flat_app, List.length_append]
    exact h2
theorem wpList_appS (E : Lay α) (T : TypeId) (hT : Tryd.prog.underlying T = some (.slice E.ty)) {by_ : Nat} (hk : E.known by_) (hz : 0 < E.sz) (hby : by_ ≤ 10000) {ops : Array Oper} {rest : List Oper} {o : Oper} {a : Act} {w : World} {Q : Exit → Act → World → Prop}
    (hgw : Region.wanted o (yielded ops a.tmps) = true) (s x : Operand) (ho : o.op = .call { callee := .builtin .append, args := #[s, x], argTypes := #[T, T] }) (base : Nat) {v xv : Value} {xs ys : List α}
    (hs : a.eval s = v) (hx : a.eval x = xv) (hown : OwnS E base w v xs) (hsrc : SV E w xv ys) (h63 : xs.length + ys.length ≤ 100000) (hbase : base ≤ w.heap.size)
    (h : ∀ v' w', OwnS E base w' v' (xs ++ ys) → w.grownBy w' v.ownBlock → wpList Tryd.prog ops Q rest (a.put o.dst v') w') : wpList Tryd.prog ops Q (o :: rest) a w := by
  refine BigFrame.wpList_want hgw fun K hK => ?_
  obtain ⟨v', w', hr, h2, h3⟩ := run_appS E T hT hk hz w base o.type hown hsrc h63 hby hbase
  unfold Oper.wp execOp
  simp only [ho, resolve, invoke, builtin, Sem.run_bind, Sem.run_pure, Result.andThen_ok, List.map_toArray, List.map_cons, List.map_nil, hs, hx, hr]
  exact hK _ _ (h v' w' h2 h3)

/-! ### What a call keeps: all blocks but those of a footprint -/
structure Kept (S : Nat → Prop) (w w' : World) : Prop where
  os : w'.os = w.os
  tape : w'.tape = w.tape
  output : w'.output = w.output
  size : w.heap.size ≤ w'.heap.size
  block : ∀ k, k < w.heap.size → ¬ S k → w'.heap[k]? = w.heap[k]?
theorem Kept.refl (S : Nat → Prop) (w : World) : Kept S w w := ⟨rfl, rfl, rfl, Nat.le_refl _, fun _ _ _ => rfl⟩
theorem Kept.trans {S : Nat → Prop} {a b c : World} (h : Kept S a b) (k : Kept S b c) : Kept S a c :=
  ⟨k.os.trans h.os, k.tape.trans h.tape, k.output.trans h.output, Nat.le_trans h.size k.size, fun i hi hn => (k.block i (Nat.lt_of_lt_of_le hi h.size) hn).trans (h.block i hi hn)⟩
theorem Kept.of_below {S : Nat → Prop} {w w' : World} (h : Below w.heap.size w w') : Kept S w w' := ⟨h.os, h.tape, h.output, h.size, fun k hk _ => h.block k hk⟩
theorem Kept.of_grown {w w' : World} {row : Option Nat} (h : w.grownBy w' row) : Kept (fun k => some k = row) w w' := ⟨h.os, h.tape, h.output, h.size, fun k hk hn => h.block k hk hn⟩
theorem Kept.wide {S T : Nat → Prop} {w w' : World} (h : Kept S w w') (hst : ∀ k, k < w.heap.size → S k → T k) : Kept T w w' := ⟨h.os, h.tape, h.output, h.size, fun k hk hn => h.block k hk fun hs => hn (hst k hk hs)⟩
theorem Kept.below {S : Nat → Prop} {n : Nat} {w w' : World} (h : Kept S w w') (hS : ∀ k, S k → n ≤ k) (hn : n ≤ w.heap.size) : Below n w w' :=
  ⟨h.os, h.tape, h.output, h.size, fun k hk => h.block k (Nat.lt_of_lt_of_le hk hn) fun hs => Nat.lt_irrefl k (Nat.lt_of_lt_of_le hk (hS k hs))⟩
theorem Kept.cell {S : Nat → Prop} {w w' : World} (h : Kept S w w') {b o : Nat} {u : Value} (hn : ¬ S b) (hc : w.cell? ⟨b, o, none⟩ = some u) : w'.cell? ⟨b, o, none⟩ = some u := by
  rw [World.cell?_of_block (a := ⟨b, o, none⟩) (h.block b (lt_of_cell hc) hn)]; exact hc
theorem Kept.drew {S : Nat → Prop} {w w' : World} (h : Kept S w w') : Kept S w w'.drew := ⟨h.os, h.tape, h.output, h.size, h.block⟩
/-- a slice whose block is no part of a footprint -/
def Out (S : Nat → Prop) (v : Value) : Prop := ∀ a n c, v = .slice (some a) n c → ¬ S a.block
theorem SV.kept {E : Lay α} {S : Nat → Prop} {w w' : World} {v : Value} {xs : List α} (h : SV E w v xs) (hk : Kept S w w') (ho : Out S v) : SV E w' v xs := by
  obtain ⟨a, cap, h1, h2, h3, h4, b, off, h5, h6⟩ := h
  refine ⟨a, cap, h1, h2, h3, h4, b, off, h5, fun j u hu => ?_⟩
  cases a with
  | none =>
    have hc := h4 rfl
    have hl : xs = [] := List.eq_nil_of_length_eq_zero (by omega)
    subst hl
    simp [Lay.flat] at hu
  | some x =>
    obtain rfl := h5 (fun h0 => by rw [List.eq_nil_of_length_eq_zero h0] at hu; simp [Lay.flat] at hu) x rfl
    exact hk.cell (ho _ _ _ h1) (h6 j u hu)
theorem OwnS.kept {E : Lay α} {S : Nat → Prop} {base : Nat} {w w' : World} {v : Value} {xs : List α} (h : OwnS E base w v xs) (hk : Kept S w w') (ho : Out S v) : OwnS E base w' v xs := by
  obtain ⟨h0, h⟩ := h
  refine ⟨h0, h.imp id ?_⟩
  rintro ⟨g, cap, cur, h1, h2, h3, h4⟩
  exact ⟨g, cap, cur, h1, h2, (hk.block g (Array.getElem?_eq_some_iff.1 h3).1 (ho _ _ _ h1)).trans h3, h4⟩
theorem OwnS.out {E : Lay α} {base : Nat} {w : World} {v : Value} {xs : List α} (h : OwnS E base w v xs) {S : Nat → Prop} (hS : ∀ k, S k → k < base) : Out S v := fun a n c hv hs => by
  obtain ⟨_, h⟩ := h
  rcases h with ⟨rfl, -⟩ | ⟨g, cap, cur, rfl, hb, -⟩
  · cases hv
  · obtain ⟨e, -, -⟩ := Value.slice.inj hv
    obtain rfl := Option.some.inj e
    exact absurd (hS _ hs) (by simp; omega)
end Go.Proofs.YtkbfhpgcjljbbaaDoor
