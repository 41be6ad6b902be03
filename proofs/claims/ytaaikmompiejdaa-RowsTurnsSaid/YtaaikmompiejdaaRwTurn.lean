/- What the four lists of RowsTurns are: plain. -/
import Derived.Test.YtaaikmompiejdaaRwMore
namespace Go.Proofs.Ytaaikmompiejdaa
open Go.RowKit

theorem takeR_allV {low high : ByteArray} {unb rev : Bool} {limit : Int} {rs : List Rw} {w : World} {v : Value} (h : RowsV w v (takeR low high unb rev limit rs)) (hn : ¬ 1 ≤ limit) : RowsV w v (accR low high unb rev rs) := by
  unfold takeR at h
  rw [if_neg hn] at h
  exact h
/-- how many a limit leaves -/
def clen (limit : Int) (n : Nat) : Nat := if 1 ≤ limit then min limit.toNat n else n
theorem takeR_cl (low high : ByteArray) (unb rev : Bool) (limit : Int) (rs : List Rw) : takeR low high unb rev limit rs = (accR low high unb rev rs).take (clen limit (accR low high unb rev rs).length) := by
  unfold takeR clen
  split
  · rw [List.take_eq_take_iff]; omega
  · rw [List.take_of_length_le (Nat.le_refl _)]
theorem accR_turn (low high : ByteArray) (unb : Bool) (rs : List Rw) : accR low high unb true rs = (accR low high unb false rs).reverse := rfl
theorem clen_le (limit : Int) (n : Nat) : clen limit n ≤ n := by unfold clen; split <;> omega
theorem clen_min {limit : Int} {n : Nat} (h : 1 ≤ limit) : (clen limit n : Int) = if (n : Int) < limit then (n : Int) else limit := by
  unfold clen
  rw [if_pos h]
  split <;> omega
theorem turns_open {low high : ByteArray} {unb : Bool} {limit : Int} {rs : List Rw} {w : World} {x1 x2 x3 x4 : Value} (h1 : RowsV w x1 (accR low high unb false rs)) (h2 : RowsV w x2 (accR low high unb true rs))
    (h3 : RowsV w x3 (takeR low high unb false limit rs)) (h4 : RowsV w x4 (takeR low high unb true limit rs)) (hl : rs.length ≤ 1000) :
    ∃ (F : List Rw) (m cl : Nat) (a1 : Option Addr) (k1 : Nat) (a2 : Option Addr) (k2 : Nat) (a3 : Option Addr) (k3 : Nat) (a4 : Option Addr) (k4 : Nat),
      x1 = .slice a1 m k1 ∧ x2 = .slice a2 m k2 ∧ x3 = .slice a3 cl k3 ∧ x4 = .slice a4 cl k4 ∧ F.length = m ∧ cl ≤ m ∧ m ≤ 1000 ∧ m ≤ k1 ∧ m ≤ k2 ∧ k1 ≤ maxLen ∧ k2 ≤ maxLen ∧
      (1 ≤ limit → (cl : Int) = if (m : Int) < limit then (m : Int) else limit) ∧
      RowsV w (.slice a1 m k1) F ∧ RowsV w (.slice a2 m k2) F.reverse ∧ RowsV w (.slice a3 cl k3) (F.take cl) ∧ RowsV w (.slice a4 cl k4) (F.reverse.take cl) := by
  have hm := accR_len low high unb false rs
  rw [takeR_cl] at h3 h4
  rw [accR_turn] at h2 h4
  rw [List.length_reverse] at h4
  generalize accR low high unb false rs = F at *
  have hc := clen_le limit F.length
  have hcm := fun h => clen_min (limit := limit) (n := F.length) h
  generalize clen limit F.length = cl at *
  obtain ⟨a1, k1, rfl, l1, m1⟩ := h1.lenform
  obtain ⟨a2, k2, e2, l2, m2⟩ := h2.lenform
  rw [List.length_reverse] at e2 l2
  subst e2
  obtain ⟨a3, k3, e3, -, -⟩ := h3.lenform
  rw [List.length_take, Nat.min_eq_left hc] at e3
  subst e3
  obtain ⟨a4, k4, e4, -, -⟩ := h4.lenform
  rw [List.length_take, List.length_reverse, Nat.min_eq_left hc] at e4
  subst e4
  exact ⟨F, F.length, cl, a1, k1, a2, k2, a3, k3, a4, k4, rfl, rfl, rfl, rfl, rfl, hc, by omega, l1, l2, m1, m2, hcm, h1, h2, h3, h4⟩
theorem turn_back {F : List Rw} {k j : Nat} (hk : k < F.length) (hj : F.length - 1 - k = j) : F.reverse.getD j r0 = F.getD k r0 := by
  rw [List.getD, List.getD, List.getElem?_reverse (by omega)]
  rw [show F.length - 1 - j = k by omega]
end Go.Proofs.Ytaaikmompiejdaa
