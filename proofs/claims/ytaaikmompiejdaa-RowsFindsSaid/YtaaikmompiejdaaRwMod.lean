/- Rows in memory of a call's own, each key made longer by a letter, one row after the other. -/
import Derived.Test.YtaaikmompiejdaaRwSort
import Derived.Test.YtaaikmompiejdaaRwSB
namespace Go.Proofs.Ytaaikmompiejdaa
open Go.RowKit

theorem getD_mem {rs : List Rw} {k : Nat} (h : k < rs.length) : rs.getD k r0 ∈ rs := by
  rw [List.getD, List.getElem?_eq_getElem h]; exact List.getElem_mem h
def addX (r : Rw) : Rw := (r.1 ++ ⟨#[120]⟩, r.2)
/-- the first k rows have longer keys -/
def modX (rs : List Rw) (k : Nat) : List Rw := (rs.take k).map addX ++ rs.drop k
theorem modX_len (rs : List Rw) (k : Nat) : (modX rs k).length = rs.length := by
  unfold modX
  rw [List.length_append, List.length_map, List.length_take, List.length_drop]; omega
theorem modX_zero (rs : List Rw) : modX rs 0 = rs := by simp [modX]
theorem getElem?_swap {α : Type} (X Y : List α) (a b : α) (j : Nat) : (X ++ b :: Y)[j]? = if j = X.length then some b else (X ++ a :: Y)[j]? := by
  by_cases h : j = X.length
  · subst h; rw [if_pos rfl]; simp
  · rw [if_neg h]
    rcases Nat.lt_or_ge j X.length with hl | hl
    · rw [List.getElem?_append_left hl, List.getElem?_append_left hl]
    · rw [List.getElem?_append_right hl, List.getElem?_append_right hl]
      obtain ⟨i, hi⟩ : ∃ i, j - X.length = i + 1 := ⟨j - X.length - 1, by omega⟩
      rw [hi]; rfl
theorem flat_mod {rs : List Rw} {k : Nat} (hk : k < rs.length) (j : Nat) :
    (flat (modX rs (k + 1)))[j]? = if j = k * 2 then some (.string ((rs.getD k r0).1 ++ ⟨#[120]⟩)) else (flat (modX rs k))[j]? := by
  have e1 : modX rs (k + 1) = (rs.take k).map addX ++ addX (rs.getD k r0) :: rs.drop (k + 1) := by
    unfold modX; rw [take_at hk, List.map_append, List.append_assoc]; rfl
  have e2 : modX rs k = (rs.take k).map addX ++ rs.getD k r0 :: rs.drop (k + 1) := by
    unfold modX; rw [drop_at hk]
  have hl : (flat ((rs.take k).map addX)).length = k * 2 := by rw [flat_length, List.length_map, List.length_take]; omega
  rw [e1, e2, flat_append, flat_append]
  show (flat ((rs.take k).map addX) ++ Value.string (addX (rs.getD k r0)).1 :: (.string (rs.getD k r0).2 :: flat (rs.drop (k + 1))))[j]? = if j = k * 2 then _ else (flat ((rs.take k).map addX) ++ Value.string (rs.getD k r0).1 :: (.string (rs.getD k r0).2 :: flat (rs.drop (k + 1))))[j]?
  rw [getElem?_swap _ _ (Value.string (rs.getD k r0).1) (Value.string (addX (rs.getD k r0)).1) j, hl]
  rfl
theorem modX_ne {rs : List Rw} (h : rs ≠ []) : sameR rs (modX rs rs.length) = false := by
  cases hs : sameR rs (modX rs rs.length) with
  | false => rfl
  | true =>
    have e := (sameR_iff _ _).1 hs
    cases rs with
    | nil => exact absurd rfl h
    | cons r rs =>
      unfold modX at e
      rw [List.take_of_length_le (Nat.le_refl _), List.drop_of_length_le (Nat.le_refl _), List.append_nil, List.map_cons] at e
      have e2 := (List.cons.inj e).1
      have e3 := congrArg (fun r : Rw => r.1.size) e2
      simp only [addX, ByteArray.size_append] at e3
      have : (⟨#[120]⟩ : ByteArray).size = 1 := rfl
      omega
theorem modX_small {rs : List Rw} (h : ∀ r ∈ rs, r.1.size ≤ 2000 ∧ r.2.size ≤ 2000) (k : Nat) : Small (modX rs k) := fun r hr => by
  unfold modX at hr
  have h120 : (⟨#[120]⟩ : ByteArray).size = 1 := rfl
  rcases List.mem_append.1 hr with hr | hr
  · obtain ⟨s, hs, rfl⟩ := List.mem_map.1 hr
    have := h s (List.mem_of_mem_take hs)
    simp only [addX, ByteArray.size_append, maxLen]
    omega
  · have := h r (List.mem_of_mem_drop hr)
    unfold maxLen
    omega
/-- the cells of rows under way: the first k have longer keys -/
structure CX (g off : Nat) (rs : List Rw) (k : Nat) (w : World) : Prop where
  cells : ∀ j u, (flat (modX rs k))[j]? = some u → w.cell? ⟨g, off + j, none⟩ = some u
  free : ∀ j, j < rs.length * 2 → w.frozen? ⟨g, off + j, none⟩ = false
theorem CX.at {g off : Nat} {rs : List Rw} {k : Nat} {w : World} (h : CX g off rs k w) (hk : k < rs.length) : w.cell? ⟨g, off + k * 2, none⟩ = some (.string (rs.getD k r0).1) := by
  refine h.cells (k * 2) _ ?_
  have hl : k < (modX rs k).length := by rw [modX_len]; exact hk
  rw [flat_at0 _ k hl]
  congr 2
  unfold modX
  rw [List.getD, List.getElem?_append_right (by rw [List.length_map, List.length_take]; omega), List.length_map, List.length_take, List.getElem?_drop]
  rw [show k + (k - min k rs.length) = k by omega]
  rfl
theorem CX.set {g off : Nat} {rs : List Rw} {k : Nat} {w : World} (h : CX g off rs k w) (hk : k < rs.length) : CX g off rs (k + 1) (w.setCell ⟨g, off + k * 2, none⟩ (.string ((rs.getD k r0).1 ++ ⟨#[120]⟩))) := by
  refine ⟨fun j u hu => ?_, fun j hj => by rw [World.frozen?_setCell]; exact h.free j hj⟩
  rw [flat_mod hk] at hu
  by_cases e : j = k * 2
  · subst e
    rw [if_pos rfl] at hu
    obtain rfl := Option.some.inj hu
    exact World.cell?_setCell_same w _ _ (h.at hk)
  · rw [if_neg e] at hu
    have hne : (⟨g, off + k * 2, none⟩ : Addr) ≠ ⟨g, off + j, none⟩ := by intro h'; simp at h' <;> omega
    exact (World.cell?_setCell_other _ _ _ _ hne).trans (h.cells j u hu)
theorem CX.below {g off : Nat} {rs : List Rw} {k : Nat} {w w' : World} (h : CX g off rs k w) (hg : g < w.heap.size) (hs : Below w.heap.size w w') : CX g off rs k w' :=
  ⟨fun j u hu => cell_step (h.cells j u hu) hs, fun j hj => by rw [hs.frozen (p := ⟨g, off + j, none⟩) hg]; exact h.free j hj⟩
theorem CX.lt {g off : Nat} {rs : List Rw} {k : Nat} {w : World} (h : CX g off rs k w) (hne : rs ≠ []) : g < w.heap.size := by
  have hl : 0 < (modX rs k).length := by rw [modX_len]; exact List.length_pos_iff.2 hne
  exact lt_of_cell (h.cells (0 * 2) _ (flat_at0 _ 0 hl))
theorem CX.start {g off cap : Nat} {rs : List Rw} {w : World} (h : RowsV w (.slice (some ⟨g, off, none⟩) rs.length cap) rs) (hf : ∀ j, j < rs.length * 2 → w.frozen? ⟨g, off + j, none⟩ = false) : CX g off rs 0 w ∧ rs.length ≤ cap ∧ cap ≤ maxLen := by
  obtain ⟨a, cap', e, h2, h3, _, b, o, h5, h6, _⟩ := h
  obtain ⟨e1, -, e3⟩ : some ⟨g, off, none⟩ = a ∧ rs.length = rs.length ∧ cap = cap' := by simpa using e
  have e2 := h5 _ e1.symm
  obtain ⟨rfl, rfl⟩ : g = b ∧ off = o := by simpa using e2
  subst e3
  exact ⟨⟨by rw [modX_zero]; exact h6, hf⟩, h2, h3⟩
theorem CX.rows {g off cap : Nat} {rs : List Rw} {k : Nat} {w : World} (h : CX g off rs k w) (hs : Small (modX rs k)) (hl : rs.length ≤ cap) (hc : cap ≤ maxLen) : RowsV w (.slice (some ⟨g, off, none⟩) rs.length cap) (modX rs k) :=
  ⟨_, cap, by rw [modX_len], by rw [modX_len]; exact hl, hc, fun h => (by cases h), g, off, fun x hx => (Option.some.inj hx).symm, h.cells, hs⟩
end Go.Proofs.Ytaaikmompiejdaa
