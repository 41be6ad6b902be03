/- The document's own table: its Give, by a contract. -/
import Derived.Test.YtkkmfacngmginaaDoorMm
import Derived.Test.YtkkmfacngmginaaDoorMpRh
import Derived.Test.YtkkmfacngmginaaDoorArLast
namespace Go.Proofs.YtkkmfacngmginaaDoor
open Go.RowKit

theorem Lay.flat_drop {α : Type} (E : Lay α) : ∀ (xs : List α) (k : Nat), (E.flat xs).drop (k * E.sz) = E.flat (xs.drop k)
  | [], _ => by simp [Lay.flat]
  | _ :: _, 0 => by simp
  | x :: xs, k + 1 => by
    simp only [Lay.flat, List.drop_succ_cons]
    rw [List.drop_append, List.drop_of_length_le (by rw [E.len, Nat.add_mul]; omega), E.len, Nat.add_mul, show k * E.sz + 1 * E.sz - E.sz = k * E.sz by omega, E.flat_drop xs k, List.nil_append]
theorem SV.dropV {α : Type} {E : Lay α} {w : World} {b off n cap k : Nat} {xs : List α} (h : SV E w (.slice (some ⟨b, off, none⟩) n cap) xs) (hk : k ≤ xs.length) (hc : k < cap) : SV E w (.slice (some ⟨b, off + k * E.sz, none⟩) (n - k) (cap - k)) (xs.drop k) := by
  obtain ⟨a', cap', h1, h2, h3, h4, b', off', h5, h6⟩ := h
  obtain ⟨e, rfl, rfl⟩ := Value.slice.inj h1
  refine ⟨_, cap - k, by rw [List.length_drop], by rw [List.length_drop]; omega, by omega, fun h => (by cases h), b, off + k * E.sz, fun _ x hx => (Option.some.inj hx).symm, fun j u hu => ?_⟩
  have hlt : j < (xs.length - k) * E.sz := by
    have := (List.getElem?_eq_some_iff.1 hu).1
    rw [E.flat_len, List.length_drop] at this; exact this
  have hne : ¬ xs.length = 0 := fun h0 => by rw [h0] at hlt; simp at hlt
  have e2 := h5 hne _ e.symm
  obtain ⟨rfl, rfl⟩ : b = b' ∧ off = off' := by simpa using e2
  rw [← E.flat_drop, List.getElem?_drop] at hu
  rw [Nat.add_assoc]
  exact h6 _ u hu
theorem SV.dropE {α : Type} {E : Lay α} {w : World} (a : Addr) {k : Nat} {xs : List α} (hk : xs.length ≤ k) : SV E w (.slice (some a) 0 0) (xs.drop k) := by
  have e : xs.drop k = [] := List.drop_of_length_le hk
  rw [e]
  exact ⟨some a, 0, rfl, Nat.le_refl _, Nat.zero_le _, fun h => (by cases h), 0, 0, fun h => absurd rfl h, fun j u hu => by simp [Lay.flat] at hu⟩
theorem mp_grown_below {α : Type} {E : Lay α} {n : Nat} {w0 wx wy : World} {v : Value} {xs : List α} (hb : Below n w0 wx) (ho : OwnS E n wx v xs) (hg : wx.grownBy wy v.ownBlock) (hn : n ≤ wx.heap.size) : Below n w0 wy ∧ n ≤ wy.heap.size :=
  ⟨hb.trans ((Kept.of_grown hg).below (fun j hj => (ho.bounds j hj.symm).1) hn), Nat.le_trans hn (Kept.of_grown hg).size⟩
theorem mp_below_drew {n : Nat} {w w' : World} (h : Below n w w') : Below n w w'.drew := h.drew
/-- what Give leaves -/
theorem RefOk.give {us : List Up} {L : List Pg} (h : RefOk us L) {i j : Nat} {r : Rf} (hj : us[j]? = Option.some ((i : Int), r)) : RefOk (us.take j ++ us.drop (j + 1)) (L.set i Option.none) := by
  have hlt : j < us.length := (List.getElem?_eq_some_iff.1 hj).1
  have hsplit : us = us.take j ++ ((i : Int), r) :: us.drop (j + 1) := by
    conv => lhs; rw [← List.take_append_drop j us, List.drop_eq_getElem_cons hlt]
    rw [show us[j] = ((i : Int), r) from (List.getElem?_eq_some_iff.1 hj).2]
  have hap := h.apart
  rw [hsplit, List.pairwise_append] at hap
  obtain ⟨p1, p2, p3⟩ := hap
  have ne : ∀ u ∈ us.take j ++ us.drop (j + 1), u.1 ≠ (i : Int) := fun u hu => by
    rcases List.mem_append.1 hu with hu | hu
    · exact p3 u hu _ List.mem_cons_self
    · exact fun e => (List.pairwise_cons.1 p2).1 u hu e.symm
  have hin : ∀ u ∈ us.take j ++ us.drop (j + 1), u ∈ us := fun u hu => by
    rcases List.mem_append.1 hu with hu | hu
    · exact List.mem_of_mem_take hu
    · exact List.mem_of_mem_drop hu
  refine ⟨fun u hu => ?_, fun i' r' hi => ?_, ?_⟩
  · obtain ⟨i', h1, h2⟩ := h.sound u (hin u hu)
    refine ⟨i', h1, ?_⟩
    rw [List.getElem?_set, if_neg (fun e => ne u hu (by rw [h1, e]))]
    exact h2
  · rw [List.getElem?_set] at hi
    by_cases e : i = i'
    · rw [if_pos e] at hi
      split at hi <;> cases hi
    · rw [if_neg e] at hi
      obtain ⟨u, hu, he⟩ := h.full i' r' hi
      refine ⟨u, ?_, he⟩
      rw [hsplit] at hu
      rcases List.mem_append.1 hu with hu | hu
      · exact List.mem_append_left _ hu
      · rcases List.mem_cons.1 hu with rfl | hu
        · exact absurd (Int.ofNat.inj he) e
        · exact List.mem_append_right _ hu
  · rw [List.pairwise_append]
    exact ⟨p1, (List.pairwise_cons.1 p2).2, fun a ha b hb => p3 a ha b (List.mem_cons_of_mem _ hb)⟩
end Go.Proofs.YtkkmfacngmginaaDoor
