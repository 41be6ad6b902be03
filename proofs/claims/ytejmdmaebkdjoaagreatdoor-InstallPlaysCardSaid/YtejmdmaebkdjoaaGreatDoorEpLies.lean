/- Append, and where the new slice lies; slices of a call's own that lie apart. -/
import Derived.Test.YtejmdmaebkdjoaaGreatDoorMm
import Derived.Test.YtejmdmaebkdjoaaGreatDoorMw
import Derived.Maps.AppendAt
namespace Go.Proofs.YtejmdmaebkdjoaaGreatDoor
set_option linter.unusedVariables false
set_option linter.unusedSimpArgs false
open Go.RowKit
theorem run_appL {α : Type} (E : Lay α) (T : TypeId) (hT : Tryz.prog.underlying T = some (.slice E.ty)) {by_ : Nat} (hk : E.known by_) (hz : 0 < E.sz) (w : World) (base : Nat) (ty : TypeId) {v xv : Value} {xs ys : List α} (ho : OwnS E base w v xs) (hx : SV E w xv ys)
  (h63 : xs.length + ys.length ≤ 100000) (hby : by_ ≤ 10000) (hbase : base ≤ w.heap.size) :
  ∃ v' w', (Builtin.append_ #[T, T] ty #[v, xv]).run Tryz.prog w = .ok v' w' ∧ OwnS E base w' v' (xs ++ ys) ∧ w.grownBy w' v.ownBlock ∧ (v'.ownBlock = v.ownBlock ∨ v'.ownBlock = some w.heap.size) := by
 obtain ⟨i, z, hi, hzz, hsz, hb, hzs⟩ := hk
 obtain ⟨a, cap, e1, e2, e3, e4, b, off, h5, h6⟩ := hx
 subst e1
 cases a with
 | none =>
  have hc := e4 rfl
  have hl : ys.length = 0 := by omega
  have : ys = [] := List.eq_nil_of_length_eq_zero hl
  subst this
  subst hc
  exact ⟨v, w, run_append_owned_none w base T ty E.ty i E.sz hT hi v xs.length (E.flat xs) ho, by rw [List.append_nil]; exact ho, ⟨rfl, rfl, rfl, Nat.le_refl _, fun _ _ _ => rfl⟩, .inl rfl⟩
 | some x =>
  have hbb : (xs.length + ys.length) * by_ ≤ 100000 * 10000 := Nat.mul_le_mul h63 hby
  obtain ⟨v', w', hr, h2, h3, -, h5'⟩ := run_append_own_at (P := Tryz.prog) w base T ty E.ty i z E.sz by_ hT hi hzz hsz hb hzs hz v xs.length (E.flat xs) ho
   x ys.length cap (E.flat ys) (E.flat_len ys) (fun j u hu => by
    obtain rfl := h5 (fun h0 => by rw [List.eq_nil_of_length_eq_zero h0] at hu; simp [Lay.flat] at hu) x rfl
    rw [Addr.add_lit]; exact h6 j u hu) (E.flat_one ys) (by simp [maxLen]; omega) (by omega) hbase
  refine ⟨v', w', hr, ?_, h3, h5'⟩
  unfold OwnS
  rw [E.flat_app, List.length_append]
  exact h2
theorem ep_grown_below {n : Nat} {α : Type} {E : Lay α} {w0 w w' : World} {v : Value} {xs : List α} (hb : Below n w0 w) (ho : OwnS E n w v xs) (hg : w.grownBy w' v.ownBlock) (hn : n ≤ w.heap.size) : Below n w0 w' := by
 refine ⟨hg.os.trans hb.os, hg.tape.trans hb.tape, hg.output.trans hb.output, Nat.le_trans hb.size hg.size, fun k hk => (hg.block k (Nat.lt_of_lt_of_le hk hn) fun e => ?_).trans (hb.block k hk)⟩
 have := (ho.bounds k e.symm).1
 omega
end Go.Proofs.YtejmdmaebkdjoaaGreatDoor
