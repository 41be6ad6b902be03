/- Plain: keys in spans. -/
import Derived.Test.YtkkmfacngmginaaRwMath
namespace Go.Proofs.Ytkkmfacngmginaa
open Go.RowKit

/-- does a key lie in a span? -/
def inK (low high : ByteArray) (unb : Bool) (k : ByteArray) : Bool := inn low.data.toList high.data.toList unb k.data.toList
theorem bef_mid {a h b : List UInt8} (h1 : bef a h = true) (h2 : bef b h = false) : bef a b = true := by
  cases hab : bef a b with
  | true => rfl
  | false =>
    cases hba : bef b a with
    | true => rw [bef_trans _ _ _ hba h1] at h2; cases h2
    | false => rw [bef_total _ _ hab hba, h2] at h1; cases h1
theorem inK_iff (low high : ByteArray) (unb : Bool) (k : ByteArray) : inK low high unb k = true ↔ bef k.data.toList low.data.toList = false ∧ (unb = true ∨ bef k.data.toList high.data.toList = true) := by
  unfold inK inn
  rw [Bool.and_eq_true, Bool.or_eq_true, Bool.not_eq_true']
theorem data_ext {a b : ByteArray} (h : a.data.toList = b.data.toList) : a = b := by
  obtain ⟨⟨a⟩⟩ := a
  obtain ⟨⟨b⟩⟩ := b
  simp at h
  rw [h]
theorem eqB_false {a b : ByteArray} (h : eqB a b = false) : a ≠ b := fun e => by rw [e, eqB_self] at h; cases h
theorem eqB_neq {a b : ByteArray} (h : a ≠ b) : eqB a b = false := by
  cases hb : eqB a b with
  | false => rfl
  | true => exact absurd ((eqB_iff a b).1 hb) h
theorem bef_ne {a b : ByteArray} (h : bef a.data.toList b.data.toList = true) : a ≠ b := fun e => by rw [e, bef_irr] at h; cases h
theorem bef_of_ne {a b : ByteArray} (h : bef a.data.toList b.data.toList = false) (hne : a ≠ b) : bef b.data.toList a.data.toList = true := by
  cases hb : bef b.data.toList a.data.toList with
  | true => rfl
  | false => exact absurd (data_ext (bef_total _ _ h hb)) hne
theorem bef_le {a b c : List UInt8} (h1 : bef a b = false) (h2 : bef c b = true) : bef a c = false := by
  cases h : bef a c with
  | false => rfl
  | true => rw [bef_trans _ _ _ h h2] at h1; cases h1
end Go.Proofs.Ytkkmfacngmginaa
