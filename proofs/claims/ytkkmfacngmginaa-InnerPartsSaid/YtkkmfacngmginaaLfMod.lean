/- Writing into slices of a call's own: one element after the other. -/
import Derived.Test.YtkkmfacngmginaaLfSame
namespace Go.Proofs.Ytkkmfacngmginaa
open Go.RowKit
variable {α : Type}

theorem Lay.flat_set (E : Lay α) : ∀ (xs : List α) (i j : Nat) (x y : α) (u : Value), xs[i]? = some x → j < E.sz → E.enc y = (E.enc x).set j u → E.flat (xs.set i y) = (E.flat xs).set (i * E.sz + j) u
  | [], _, _, _, _, _, h, _, _ => by simp at h
  | z :: xs, 0, j, x, y, u, h, hj, he => by
    obtain rfl : z = x := by simpa using h
    simp only [List.set_cons_zero, Lay.flat, Nat.zero_mul, Nat.zero_add]
    rw [List.set_append_left _ _ (by rw [E.len]; exact hj), he]
  | z :: xs, i + 1, j, x, y, u, h, hj, he => by
    have ih := E.flat_set xs i j x y u (by simpa using h) hj he
    simp only [List.set_cons_succ, Lay.flat]
    rw [ih, List.set_append_right _ _ (by rw [E.len, Nat.add_mul]; omega), E.len, Nat.add_mul, show i * E.sz + 1 * E.sz + j - E.sz = i * E.sz + j by omega]
theorem OwnS.set {E : Lay α} {base : Nat} {w : World} {g n cap : Nat} {xs : List α} (h : OwnS E base w (.slice (some ⟨g, 0, none⟩) n cap) xs) {i j : Nat} {x y : α} {u : Value} (hi : xs[i]? = some x) (hj : j < E.sz) (he : E.enc y = (E.enc x).set j u) :
    OwnS E base (w.setCell ⟨g, i * E.sz + j, none⟩ u) (.slice (some ⟨g, 0, none⟩) n cap) (xs.set i y) := by
  have hn : n = xs.length := by
    obtain ⟨_, h⟩ := h
    rcases h with ⟨h, -⟩ | ⟨g', cap', cur, h, -⟩
    · cases h
    · exact (Value.slice.inj h).2.1
  subst hn
  have e := (World.ownsRow.stored h (i * E.sz + j) u).1
  unfold OwnS
  rw [E.flat_set xs i j x y u hi hj he, List.length_set]
  exact e
/-- the first k elements are turned -/
def turned (f : α → α) (xs : List α) (k : Nat) : List α := (xs.take k).map f ++ xs.drop k
theorem turned_zero (f : α → α) (xs : List α) : turned f xs 0 = xs := by simp [turned]
theorem turned_len (f : α → α) (xs : List α) (k : Nat) : (turned f xs k).length = xs.length := by unfold turned; simp; omega
theorem turned_at (f : α → α) {xs : List α} {k : Nat} {x : α} (h : xs[k]? = some x) : (turned f xs k)[k]? = some x := by
  have hk : k < xs.length := (List.getElem?_eq_some_iff.1 h).1
  unfold turned
  rw [List.getElem?_append_right (by simp; omega), List.length_map, List.length_take, List.getElem?_drop, show k + (k - min k xs.length) = k by omega]
  exact h
theorem turned_set (f : α → α) {xs : List α} {k : Nat} {x : α} (h : xs[k]? = some x) : turned f xs (k + 1) = (turned f xs k).set k (f x) := by
  have hk : k < xs.length := (List.getElem?_eq_some_iff.1 h).1
  have hx : xs[k] = x := by rw [List.getElem?_eq_getElem hk] at h; exact Option.some.inj h
  unfold turned
  rw [List.take_succ_eq_append_getElem hk, List.map_append, List.append_assoc, List.set_append_right _ _ (by simp; omega), List.length_map, List.length_take, show k - min k xs.length = 0 by omega, List.drop_eq_getElem_cons hk]
  simp [hx]
theorem OwnS.form {E : Lay α} {base : Nat} {w : World} {v : Value} {xs : List α} (h : OwnS E base w v xs) (hn : ¬ xs.length = 0) : ∃ g cap, v = .slice (some ⟨g, 0, none⟩) xs.length cap ∧ base ≤ g ∧ g < w.heap.size ∧ cap ≤ maxLen ∧ xs.length ≤ cap := by
  obtain ⟨_, h⟩ := h
  rcases h with ⟨-, h⟩ | ⟨g, cap, cur, rfl, hb, hg, hnc, hc, -⟩
  · exact absurd h hn
  · exact ⟨g, cap, rfl, hb, (Array.getElem?_eq_some_iff.1 hg).1, hc, hnc⟩
theorem OwnS.free {E : Lay α} {base : Nat} {w : World} {g n cap : Nat} {xs : List α} (h : OwnS E base w (.slice (some ⟨g, 0, none⟩) n cap) xs) (j : Nat) : w.frozen? ⟨g, j, none⟩ = false := by
  have hn : n = xs.length := by
    obtain ⟨_, h⟩ := h
    rcases h with ⟨h, -⟩ | ⟨g', cap', cur, h, -⟩
    · cases h
    · exact (Value.slice.inj h).2.1
  subst hn
  exact World.ownsRow.frozenAt h j
theorem Kept.setCell {w w' : World} {g : Nat} (h : Kept (fun k => k = g) w w') (o : Nat) (u : Value) : Kept (fun k => k = g) w (w'.setCell ⟨g, o, none⟩ u) := by
  refine ⟨h.os, h.tape, h.output, by have := h.size; simp [World.setCell]; exact this, fun k hk hn => ?_⟩
  rw [← h.block k hk hn]
  simp only [World.setCell]
  rw [Array.getElem?_modify]
  rw [if_neg (fun e => hn e.symm)]
theorem Kept.trans2 {S T U : Nat → Prop} {a b c : World} (h : Kept S a b) (k : Kept T b c) (hs : ∀ x, S x → U x) (ht : ∀ x, T x → U x) : Kept U a c :=
  (h.wide fun x _ => hs x).trans (k.wide fun x _ => ht x)
theorem OwnS.lenN {E : Lay α} {base n : Nat} {w : World} {v : Value} {xs : List α} (h : OwnS E base w v xs) (hn : xs.length = n) : ∃ a cap, v = .slice a n cap ∧ n ≤ cap ∧ cap ≤ maxLen := by
  subst hn
  exact h.sv.lenform
theorem OwnS.addrN {E : Lay α} {base n cap : Nat} {a : Option Addr} {w : World} {xs : List α} (h : OwnS E base w (.slice a n cap) xs) (hn : ¬ n = 0) : ∃ g, a = some ⟨g, 0, none⟩ := by
  obtain ⟨_, h⟩ := h
  rcases h with ⟨h, -⟩ | ⟨g, c, cur, h, -⟩
  · obtain ⟨-, e, -⟩ := Value.slice.inj h
    exact absurd e hn
  · exact ⟨g, (Value.slice.inj h).1⟩
theorem OwnS.bounds {E : Lay α} {base : Nat} {w : World} {v : Value} {xs : List α} (h : OwnS E base w v xs) : ∀ k, v.ownBlock = some k → base ≤ k ∧ k < w.heap.size := World.ownsRow.lt h
/-- blocks of other element types are others -/
theorem OwnS.ne {β : Type} {E : Lay α} {F : Lay β} {b c : Nat} {w : World} {g n cap : Nat} {v : Value} {xs : List α} {ys : List β} (h : OwnS E b w (.slice (some ⟨g, 0, none⟩) n cap) xs) (k : OwnS F c w v ys) (hne : E.ty ≠ F.ty) : Out (fun x => x = g) v := by
  intro a m d hv hs
  obtain ⟨_, h⟩ := h
  obtain ⟨_, k⟩ := k
  rcases h with ⟨h, -⟩ | ⟨g1, c1, u1, h, -, hg, -⟩
  · cases h
  · obtain ⟨e, -, -⟩ := Value.slice.inj h
    obtain rfl : g = g1 := by simpa using e
    rcases k with ⟨rfl, -⟩ | ⟨g2, c2, u2, rfl, -, hk, -⟩
    · cases hv
    · obtain ⟨e2, -, -⟩ := Value.slice.inj hv
      obtain rfl := Option.some.inj e2
      simp only at hs
      subst hs
      rw [hg] at hk
      simp at hk
      exact hne hk.2
theorem OwnS.neB {β : Type} {E : Lay α} {F : Lay β} {b c : Nat} {w : World} {u v : Value} {xs : List α} {ys : List β} (h : OwnS E b w u xs) (k : OwnS F c w v ys) (hne : E.ty ≠ F.ty) : Out (fun x => u.ownBlock = some x) v := by
  intro a m d hv hs
  have h0 := h
  obtain ⟨_, h'⟩ := h
  rcases h' with ⟨rfl, -⟩ | ⟨g1, c1, u1, rfl, -⟩
  · cases hs
  · have e : g1 = a.block := Option.some.inj hs
    exact OwnS.ne h0 k hne a m d hv e.symm
theorem Kept.setCellB {w w' : World} {g n c : Nat} (h : Kept (fun k => (Value.slice (some ⟨g, 0, none⟩) n c).ownBlock = some k) w w') (o : Nat) (u : Value) : Kept (fun k => (Value.slice (some ⟨g, 0, none⟩) n c).ownBlock = some k) w (w'.setCell ⟨g, o, none⟩ u) :=
  ((h.wide (T := fun k => k = g) (fun _ _ hk => (Option.some.inj hk).symm)).setCell o u).wide fun _ _ hk => congrArg some hk.symm
end Go.Proofs.Ytkkmfacngmginaa
