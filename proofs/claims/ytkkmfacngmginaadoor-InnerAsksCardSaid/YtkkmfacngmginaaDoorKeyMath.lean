/- Plain: keys in spans. -/
import Derived.Test.YtkkmfacngmginaaDoorRwV
import Derived.Test.YtkkmfacngmginaaDoorB2Ref
namespace Go.Proofs.YtkkmfacngmginaaDoor
open Go.RowKit

/-- two texts are the same, as a walk tells it -/
def eqB (a b : ByteArray) : Bool := a.toList == b.toList
theorem eqB_iff (a b : ByteArray) : eqB a b = true ↔ a = b := by
  unfold eqB
  rw [beq_iff_eq, ByteArray.toList_eq, ByteArray.toList_eq]
  constructor
  · intro h
    obtain ⟨⟨a⟩⟩ := a
    obtain ⟨⟨b⟩⟩ := b
    simp at h
    rw [h]
  · rintro rfl; rfl
theorem eqB_self (a : ByteArray) : eqB a a = true := (eqB_iff a a).2 rfl
/-- may a row be? -/
def fitB (r : Rw) : Bool := rgt r.1.size && decide (r.2.size ≤ 16)
/-- may these rows be, behind a key (or behind none)? -/
def rightFrom : Option ByteArray → List Rw → Bool
  | _, [] => true
  | p, r :: rs => fitB r && (match p with | none => true | some q => bef q.data.toList r.1.data.toList) && rightFrom (some r.1) rs
def rightB (rs : List Rw) : Bool := rightFrom none rs
/-- a key's place, and whether it is there -/
def fnd : List Rw → ByteArray → Nat × Bool
  | [], _ => (0, false)
  | r :: rs, key => if bef r.1.data.toList key.data.toList then ((fnd rs key).1 + 1, (fnd rs key).2) else (0, eqB r.1 key)
theorem fnd_le : ∀ (rs : List Rw) (key : ByteArray), (fnd rs key).1 ≤ rs.length
  | [], _ => by simp [fnd]
  | r :: rs, key => by
    unfold fnd
    have := fnd_le rs key
    split <;> simp <;> omega
theorem fnd_there : ∀ (rs : List Rw) (key : ByteArray), (fnd rs key).2 = true → (fnd rs key).1 < rs.length ∧ (rs.getD (fnd rs key).1 r0).1 = key
  | [], _, h => by simp [fnd] at h
  | r :: rs, key, h => by
    have ih := fnd_there rs key
    unfold fnd at h ⊢
    by_cases hb : bef r.1.data.toList key.data.toList = true
    · rw [if_pos hb] at h ⊢
      obtain ⟨h1, h2⟩ := ih h
      exact ⟨by simp; omega, by simpa using h2⟩
    · rw [if_neg hb] at h ⊢
      exact ⟨by simp, by simpa using (eqB_iff _ _).1 h⟩
/-- the same rows -/
def sameR : List Rw → List Rw → Bool
  | [], [] => true
  | r :: a, s :: b => eqB r.1 s.1 && eqB r.2 s.2 && sameR a b
  | _, _ => false
theorem sameR_iff : ∀ a b : List Rw, sameR a b = true ↔ a = b
  | [], [] => by simp [sameR]
  | [], _ :: _ => by simp [sameR]
  | _ :: _, [] => by simp [sameR]
  | (r1, r2) :: a, (s1, s2) :: b => by
    unfold sameR
    rw [Bool.and_eq_true, Bool.and_eq_true, eqB_iff, eqB_iff, sameR_iff a b]
    simp [and_assoc]
theorem sameR_self (a : List Rw) : sameR a a = true := (sameR_iff a a).2 rfl
theorem sameR_len {a b : List Rw} (h : a.length ≠ b.length) : sameR a b = false := by
  cases hs : sameR a b with
  | false => rfl
  | true => exact absurd (by rw [(sameR_iff a b).1 hs]) h
/-- at most 100 rows, of 2000 bytes in all -/
def sumR : List Rw → Nat
  | [] => 0
  | r :: rs => (min r.1.size 2001 + min r.2.size 2001) + sumR rs
theorem sumR_append : ∀ a b, sumR (a ++ b) = sumR a + sumR b
  | [], _ => by simp [sumR]
  | r :: a, b => by simp [sumR, sumR_append a b]; omega
def fewR (rs : List Rw) : Bool := decide (rs.length ≤ 100) && decide (sumR rs ≤ 2000)
theorem fewR_len {rs : List Rw} (h : fewR rs = true) : rs.length ≤ 100 := by unfold fewR at h; simp at h; exact h.1
theorem fewR_size : ∀ {rs : List Rw}, sumR rs ≤ 2000 → ∀ r ∈ rs, r.1.size ≤ 2000 ∧ r.2.size ≤ 2000
  | [], _, _, hr => by cases hr
  | r :: rs, h, x, hx => by
    unfold sumR at h
    rcases List.mem_cons.1 hx with rfl | hx
    · omega
    · exact fewR_size (rs := rs) (by omega) x hx
theorem drop_at {rs : List Rw} {k : Nat} (h : k < rs.length) : rs.drop k = rs.getD k r0 :: rs.drop (k + 1) := by
  rw [List.drop_eq_getElem_cons h]; simp [List.getD, h]
theorem take_at {rs : List Rw} {k : Nat} (h : k < rs.length) : rs.take (k + 1) = rs.take k ++ [rs.getD k r0] := by
  rw [List.take_succ_eq_append_getElem h]; simp [List.getD, h]

open Go.RowKit

/-- does a key lie in a span? -/
def inK (low high : ByteArray) (unb : Bool) (k : ByteArray) : Bool := inn low.data.toList high.data.toList unb k.data.toList
theorem bef_mid {a h b : List UInt8} (h1 : bef a h = true) (h2 : bef b h = false) : bef a b = true := by
  cases hab : bef a b with
  | true => rfl
  | false =>
    cases hba : bef b a with
    | true => rw [bef_trans _ _ _ hba h1] at h2; cases h2
    | false => rw [bef_total _ _ hab hba, h2] at h1; cases h1
theorem inK_iff (low high : ByteArray) (unb : Bool) (k : ByteArray) : inK low high unb k = true ↔ bef k.data.toList low.data.toList = false ∧ (unb = true ∨ bef k.data.toList high.data.toList = true) := by
  unfold inK inn
  rw [Bool.and_eq_true, Bool.or_eq_true, Bool.not_eq_true']
theorem data_ext {a b : ByteArray} (h : a.data.toList = b.data.toList) : a = b := by
  obtain ⟨⟨a⟩⟩ := a
  obtain ⟨⟨b⟩⟩ := b
  simp at h
  rw [h]
theorem eqB_false {a b : ByteArray} (h : eqB a b = false) : a ≠ b := fun e => by rw [e, eqB_self] at h; cases h
theorem eqB_neq {a b : ByteArray} (h : a ≠ b) : eqB a b = false := by
  cases hb : eqB a b with
  | false => rfl
  | true => exact absurd ((eqB_iff a b).1 hb) h
theorem bef_ne {a b : ByteArray} (h : bef a.data.toList b.data.toList = true) : a ≠ b := fun e => by rw [e, bef_irr] at h; cases h
theorem bef_of_ne {a b : ByteArray} (h : bef a.data.toList b.data.toList = false) (hne : a ≠ b) : bef b.data.toList a.data.toList = true := by
  cases hb : bef b.data.toList a.data.toList with
  | true => rfl
  | false => exact absurd (data_ext (bef_total _ _ h hb)) hne
theorem bef_le {a b c : List UInt8} (h1 : bef a b = false) (h2 : bef c b = true) : bef a c = false := by
  cases h : bef a c with
  | false => rfl
  | true => rw [bef_trans _ _ _ h h2] at h1; cases h1
end Go.Proofs.YtkkmfacngmginaaDoor
