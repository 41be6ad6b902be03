/- The document's own functions on rows (layer 3), by contracts: Right; and the laws' own Few and own. -/
import Derived.Test.YtkbfhpgcjljbbaaDoorRwV
import Derived.Test.YtkbfhpgcjljbbaaDoorB2Ref
import Derived.Deep.RegionHeld3
import Derived.WalkSpells
namespace Go.Proofs.YtkbfhpgcjljbbaaDoor
open Go.RowKit

/-- two texts are the same, as a walk tells it -/
def eqB (a b : ByteArray) : Bool := a.toList == b.toList
theorem eqB_iff (a b : ByteArray) : eqB a b = true ↔ a = b := by
  unfold eqB
  rw [beq_iff_eq, ByteArray.toList_eq, ByteArray.toList_eq]
  constructor
  · intro h
    obtain ⟨⟨a⟩⟩ := a
    obtain ⟨⟨b⟩⟩ := b
    simp at h
    rw [h]
  · rintro rfl; rfl
theorem eqB_self (a : ByteArray) : eqB a a = true := (eqB_iff a a).2 rfl
/-- may a row be? -/
def fitB (r : Rw) : Bool := rgt r.1.size && decide (r.2.size ≤ 16)
/-- may these rows be, behind a key (or behind none)? -/
def rightFrom : Option ByteArray → List Rw → Bool
  | _, [] => true
  | p, r :: rs => fitB r && (match p with | none => true | some q => bef q.data.toList r.1.data.toList) && rightFrom (some r.1) rs
def rightB (rs : List Rw) : Bool := rightFrom none rs
/-- a key's place, and whether it is there -/
def fnd : List Rw → ByteArray → Nat × Bool
  | [], _ => (0, false)
  | r :: rs, key => if bef r.1.data.toList key.data.toList then ((fnd rs key).1 + 1, (fnd rs key).2) else (0, eqB r.1 key)
theorem fnd_le : ∀ (rs : List Rw) (key : ByteArray), (fnd rs key).1 ≤ rs.length
  | [], _ => by simp [fnd]
  | r :: rs, key => by
    unfold fnd
    have := fnd_le rs key
    split <;> simp <;> omega
theorem fnd_there : ∀ (rs : List Rw) (key : ByteArray), (fnd rs key).2 = true → (fnd rs key).1 < rs.length ∧ (rs.getD (fnd rs key).1 r0).1 = key
  | [], _, h => by simp [fnd] at h
  | r :: rs, key, h => by
    have ih := fnd_there rs key
    unfold fnd at h ⊢
    by_cases hb : bef r.1.data.toList key.data.toList = true
    · rw [if_pos hb] at h ⊢
      obtain ⟨h1, h2⟩ := ih h
      exact ⟨by simp; omega, by simpa using h2⟩
    · rw [if_neg hb] at h ⊢
      exact ⟨by simp, by simpa using (eqB_iff _ _).1 h⟩
/-- the same rows -/
def sameR : List Rw → List Rw → Bool
  | [], [] => true
  | r :: a, s :: b => eqB r.1 s.1 && eqB r.2 s.2 && sameR a b
  | _, _ => false
theorem sameR_iff : ∀ a b : List Rw, sameR a b = true ↔ a = b
  | [], [] => by simp [sameR]
  | [], _ :: _ => by simp [sameR]
  | _ :: _, [] => by simp [sameR]
  | (r1, r2) :: a, (s1, s2) :: b => by
    unfold sameR
    rw [Bool.and_eq_true, Bool.and_eq_true, eqB_iff, eqB_iff, sameR_iff a b]
    simp [and_assoc]
theorem sameR_self (a : List Rw) : sameR a a = true := (sameR_iff a a).2 rfl
theorem sameR_len {a b : List Rw} (h : a.length ≠ b.length) : sameR a b = false := by
  cases hs : sameR a b with
  | false => rfl
  | true => exact absurd (by rw [(sameR_iff a b).1 hs]) h
/-- at most 100 rows, of 2000 bytes in all -/
def sumR : List Rw → Nat
  | [] => 0
  | r :: rs => (min r.1.size 2001 + min r.2.size 2001) + sumR rs
theorem sumR_append : ∀ a b, sumR (a ++ b) = sumR a + sumR b
  | [], _ => by simp [sumR]
  | r :: a, b => by simp [sumR, sumR_append a b]; omega
def fewR (rs : List Rw) : Bool := decide (rs.length ≤ 100) && decide (sumR rs ≤ 2000)
theorem fewR_len {rs : List Rw} (h : fewR rs = true) : rs.length ≤ 100 := by unfold fewR at h; simp at h; exact h.1
theorem fewR_size : ∀ {rs : List Rw}, sumR rs ≤ 2000 → ∀ r ∈ rs, r.1.size ≤ 2000 ∧ r.2.size ≤ 2000
  | [], _, _, hr => by cases hr
  | r :: rs, h, x, hx => by
    unfold sumR at h
    rcases List.mem_cons.1 hx with rfl | hx
    · omega
    · exact fewR_size (rs := rs) (by omega) x hx
theorem drop_at {rs : List Rw} {k : Nat} (h : k < rs.length) : rs.drop k = rs.getD k r0 :: rs.drop (k + 1) := by
  rw [List.drop_eq_getElem_cons h]; simp [List.getD, h]
theorem take_at {rs : List Rw} {k : Nat} (h : k < rs.length) : rs.take (k + 1) = rs.take k ++ [rs.getD k r0] := by
  rw [List.take_succ_eq_append_getElem h]; simp [List.getD, h]

open Go.RowKit

theorem refFits_any (r : Rw) (w : World) (h1 : r.1.size ≤ maxLen) (h2 : r.2.size ≤ maxLen) :
    Calls Tryd.prog 49 #[.agg #[.string r.1, .string r.2]] w fun ev w' => ev = .returned (.bool (fitB r)) ∧ Below w.heap.size w w' := by
  obtain ⟨k, v⟩ := r
  simp only at *
  have L : Aside (k.size ≤ maxLen) := h1
  have hb0 : Aside (Below w.heap.size w (w.alloc (.cells #[.string k, .string v] 90))) := (Below.refl _ _).alloc (Nat.le_refl _) _
  unfold maxLen at h1 h2
  cases hr : rgt k.size with
  | false =>
    have R := Lib.hid hr
    clear hr
    go_enter Tryd.func49, Tryd.ntmps49
    go_wp2_with fail
    refine (refRight_any k _ L.out).mono ?_
    rintro ev w1 ⟨rfl, rfl⟩
    rw [R.out]
    go_wp2
    go_ret
    exact ⟨retB (by unfold fitB; rw [R.out]; rfl), hb0.out⟩
  | true =>
    have R := Lib.hid hr
    clear hr
    have D : Aside (fitB (k, v) = decide (v.size ≤ 16)) := by show _ = _; unfold fitB; rw [R.out]; rfl
    by_cases h16 : v.size ≤ 16
    · have E : Aside (fitB (k, v) = true) := by show _ = _; rw [D.out]; exact decide_eq_true h16
      go_enter Tryd.func49, Tryd.ntmps49
      go_wp2_with fail
      refine (refRight_any k _ L.out).mono ?_
      rintro ev w1 ⟨rfl, rfl⟩
      rw [R.out]
      go_wp2
      go_ret
      first | exact ⟨retB E.out.symm, hb0.out⟩ | exact ⟨retB (by rw [E.out]; simp; omega), hb0.out⟩
    · have E : Aside (fitB (k, v) = false) := by show _ = _; rw [D.out]; exact decide_eq_false h16
      go_enter Tryd.func49, Tryd.ntmps49
      go_wp2_with fail
      refine (refRight_any k _ L.out).mono ?_
      rintro ev w1 ⟨rfl, rfl⟩
      rw [R.out]
      go_wp2
      go_ret
      first | exact ⟨retB E.out.symm, hb0.out⟩ | exact ⟨retB (by rw [E.out]; simp; omega), hb0.out⟩

/-- the form in which a walk takes the length alone -/
theorem RowsV.lenform {w : World} {v : Value} {rs : List Rw} (h : RowsV w v rs) : ∃ a cap, v = .slice a rs.length cap ∧ rs.length ≤ cap ∧ cap ≤ maxLen := by
  obtain ⟨a, cap, h1, h2, h3, _⟩ := h
  exact ⟨a, cap, h1, h2, h3⟩
open Go.RowKit
def prevR (rs : List Rw) : Nat → Option ByteArray
  | 0 => none
  | j + 1 => some (rs.getD j r0).1
end Go.Proofs.YtkbfhpgcjljbbaaDoor
