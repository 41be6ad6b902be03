/- Package epoch's Now, Bump, Enter, Leave and At, by contracts. -/
import Derived.Test.YtabchlgbdlgacaaMm
import Derived.Test.YtabchlgbdlgacaaEpInv
namespace Go.Proofs.Ytabchlgbdlgacaa
open Go.RowKit Go.Maps
theorem enter_cases (c : Ck) (x a : Int) : (c.out x ∧ c.enterE x a = 1) ∨ (∃ i : Nat, x = i ∧ i < c.L.length ∧ ¬ c.out x ∧ ((0 < atL c.L i ∧ c.enterE x a = 13) ∨ (atL c.L i = 0 ∧ (a < 1 ∨ c.n < a) ∧ c.enterE x a = 2) ∨ (atL c.L i = 0 ∧ 1 ≤ a ∧ a ≤ c.n ∧ c.enterE x a = 0))) ∨ atL c.L x < 0 := by
  by_cases ho : c.out x
  · exact .inl ⟨ho, by unfold Ck.enterE; rw [if_pos ho]⟩
  · have X : 0 ≤ x ∧ x < (c.L.length : Int) := by unfold Ck.out at ho; omega
    obtain ⟨i, rfl⟩ : ∃ i : Nat, x = i := ⟨x.toNat, by omega⟩
    by_cases hp : 0 < atL c.L i
    · exact .inr (.inl ⟨i, rfl, by omega, ho, .inl ⟨hp, by unfold Ck.enterE; rw [if_neg ho, if_pos hp]⟩⟩)
    · by_cases hz : atL c.L i = 0
      · by_cases ha : a < 1 ∨ c.n < a
        · exact .inr (.inl ⟨i, rfl, by omega, ho, .inr (.inl ⟨hz, ha, by unfold Ck.enterE; rw [if_neg ho, if_neg hp, if_pos ha]⟩)⟩)
        · exact .inr (.inl ⟨i, rfl, by omega, ho, .inr (.inr ⟨hz, by omega, by omega, by unfold Ck.enterE; rw [if_neg ho, if_neg hp, if_neg ha]⟩)⟩)
      · exact .inr (.inr (by omega))
theorem errV_of {e : Int} (h : e ≠ 0) : errV e = .iface 60 (.int .i64 e) := by unfold errV; rw [if_neg h]
end Go.Proofs.Ytabchlgbdlgacaa
