/- Package inner's own functions (layer 8), by contracts: Hold4. -/
import Derived.Test.YtkkmfacngmginaaInHold
import Derived.WalkMore
namespace Go.Proofs.Ytkkmfacngmginaa
open Go.RowKit

theorem pageE_at : ∀ (l : List En) (p : Int) (k : Nat), k + 1 < l.length → (l.getD (k + 1) e0).2 = p → (∀ j, 1 ≤ j → j < k + 1 → (l.getD j e0).2 ≠ p) → pageE l p = some k
  | [], _, _, h, _, _ => by simp at h
  | [_], _, _, h, _, _ => by simp at h
  | x :: e :: l, p, 0, _, hk, _ => by
    unfold pageE
    rw [if_pos (by simpa using hk)]
  | x :: e :: l, p, k + 1, h, hk, hj => by
    unfold pageE
    rw [if_neg (by have := hj 1 (by omega) (by omega); simpa using this), pageE_at (e :: l) p k (by simpa using h) (by simpa using hk) (fun j h1 h2 => by have := hj (j + 1) (by omega) (by omega); simpa using this)]
    rfl
theorem pageE_no : ∀ (l : List En) (p : Int), (∀ j, 1 ≤ j → j < l.length → (l.getD j e0).2 ≠ p) → pageE l p = none
  | [], _, _ => rfl
  | [_], _, _ => rfl
  | x :: e :: l, p, hj => by
    unfold pageE
    rw [if_neg (by have := hj 1 (by omega) (by simp); simpa using this), pageE_no (e :: l) p (fun j h1 h2 => by have := hj (j + 1) (by omega) (by simpa using h2); simpa using this)]
    rfl
end Go.Proofs.Ytkkmfacngmginaa
