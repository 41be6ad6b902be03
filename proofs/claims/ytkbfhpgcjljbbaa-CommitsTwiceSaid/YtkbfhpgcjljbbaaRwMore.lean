/- Plain facts on rows: which may not be joined; the cells of rows at an address; an append under a guard. -/
import Derived.Test.YtkbfhpgcjljbbaaRwC
namespace Go.Proofs.Ytkbfhpgcjljbbaa
open Go.RowKit

theorem clash_last {rs ss : List Rw} {p : Nat} (h1 : rs.length = p + 1) (h2 : ss ≠ []) : clashB rs ss = !bef (rs.getD p r0).1.data.toList (ss.getD 0 r0).1.data.toList := by
  unfold clashB
  cases rs with
  | nil => simp at h1
  | cons r rs =>
    cases ss with
    | nil => exact absurd rfl h2
    | cons s ss =>
      rw [h1]
      simp
theorem clash_nil (rs : List Rw) : clashB rs [] = false := by unfold clashB; simp
theorem clash_none {rs ss : List Rw} (h : rs.length = 0 ∨ ss.length = 0) : clashB rs ss = false := by
  rcases h with h | h
  · rw [List.eq_nil_of_length_eq_zero h]; rfl
  · rw [List.eq_nil_of_length_eq_zero h]; exact clash_nil rs
theorem RowsV.cellsAt {w : World} {b off n cap : Nat} {rs : List Rw} (h : RowsV w (.slice (some ⟨b, off, none⟩) n cap) rs) (i : Nat) (hi : i < rs.length) :
    w.cell? ⟨b, off + i * 2, none⟩ = some (.string (rs.getD i r0).1) ∧ w.cell? ⟨b, off + i * 2 + 1, none⟩ = some (.string (rs.getD i r0).2) := by
  rcases h.form with ⟨h0, -⟩ | ⟨b', off', cap', e0, -, -, hc⟩
  · cases h0
  · obtain ⟨⟨rfl, rfl⟩, -, -⟩ : (b = b' ∧ off = off') ∧ n = rs.length ∧ cap = cap' := by simpa using e0
    exact hc i hi
/-- rows that are not none lie at an address -/
theorem RowsV.addr {w : World} {a : Option Addr} {n cap : Nat} {rs : List Rw} (h : RowsV w (.slice a n cap) rs) (hne : ¬ rs.length = 0) : ∃ b off, a = some ⟨b, off, none⟩ := by
  rcases h.form with ⟨h0, rfl⟩ | ⟨b, off, cap', e0, -, -, -⟩
  · exact absurd rfl hne
  · exact ⟨b, off, (Value.slice.inj e0).1⟩
theorem wpList_appG {ops : Array Oper} {rest : List Oper} {o : Oper} {a : Act} {w : World} {Q : Exit → Act → World → Prop} (hgw : Region.wanted o (yielded ops a.tmps) = true) (s x : Operand)
    (ho : o.op = .call { callee := .builtin .append, args := #[s, x], argTypes := #[38, 38] }) (base : Nat) {v xv : Value} {rs ss : List Rw}
    (hs : a.eval s = v) (hx : a.eval x = xv) (hown : OwnR base w v rs) (hsrc : RowsV w xv ss) (h63 : rs.length + ss.length ≤ 100000) (hbase : base ≤ w.heap.size)
    (h : ∀ v' w', OwnR base w' v' (rs ++ ss) → w.grownBy w' v.ownBlock → wpList Try.prog ops Q rest (a.put o.dst v') w') : wpList Try.prog ops Q (o :: rest) a w := by
  refine BigFrame.wpList_want hgw fun K hK => ?_
  obtain ⟨v', w', hr, h2, h3⟩ := run_app w base o.type hown hsrc h63 hbase
  unfold Oper.wp execOp
  simp only [ho, resolve, invoke, builtin, Sem.run_bind, Sem.run_pure, Result.andThen_ok, List.map_toArray, List.map_cons, List.map_nil, hs, hx, hr]
  exact hK _ _ (h v' w' h2 h3)
end Go.Proofs.Ytkbfhpgcjljbbaa
