/- Append, and where the new slice lies; slices of a call's own that lie apart. -/
import Derived.Test.YtaiaaljahnackaaMm
import Derived.Test.YtaiaaljahnackaaMw
import Derived.Maps.AppendAt
namespace Go.Proofs.Ytaiaaljahnackaa
open Go.RowKit

/-- two slices of a call's own are in two blocks -/
def Aprt (u v : Value) : Prop := ∀ k, u.ownBlock = some k → v.ownBlock ≠ some k
theorem Aprt.symm {u v : Value} (h : Aprt u v) : Aprt v u := fun k h1 h2 => h k h2 h1
theorem Aprt.nil (v : Value) : Aprt (.slice none 0 0) v := fun _ h => (by cases h)
theorem Aprt.grown {w : World} {u v u' : Value} (h : Aprt u v) (hl : u'.ownBlock = u.ownBlock ∨ u'.ownBlock = some w.heap.size) (hv : ∀ k, v.ownBlock = some k → k < w.heap.size) : Aprt u' v := fun k h1 h2 => by
  rcases hl with e | e
  · exact h k (e ▸ h1) h2
  · rw [e] at h1
    have := hv k h2
    have := Option.some.inj h1
    omega
theorem OwnS.apart {α : Type} {E : Lay α} {b : Nat} {w w' : World} {u v : Value} {xs : List α} (h : OwnS E b w v xs) (hg : w.grownBy w' u.ownBlock) (ha : Aprt u v) : OwnS E b w' v xs :=
  h.kept (Kept.of_grown hg) (fun a n c hv hs => ha a.block hs.symm (by rw [hv]; rfl))
theorem run_appL {α : Type} (E : Lay α) (T : TypeId) (hT : Try.prog.underlying T = some (.slice E.ty)) {by_ : Nat} (hk : E.known by_) (hz : 0 < E.sz) (w : World) (base : Nat) (ty : TypeId) {v xv : Value} {xs ys : List α} (ho : OwnS E base w v xs) (hx : SV E w xv ys)
    (h63 : xs.length + ys.length ≤ 100000) (hby : by_ ≤ 10000) (hbase : base ≤ w.heap.size) :
    ∃ v' w', (Builtin.append_ #[T, T] ty #[v, xv]).run Try.prog w = .ok v' w' ∧ OwnS E base w' v' (xs ++ ys) ∧ w.grownBy w' v.ownBlock ∧ (v'.ownBlock = v.ownBlock ∨ v'.ownBlock = some w.heap.size) := by
  obtain ⟨i, z, hi, hzz, hsz, hb, hzs⟩ := hk
  obtain ⟨a, cap, e1, e2, e3, e4, b, off, h5, h6⟩ := hx
  subst e1
  cases a with
  | none =>
    have hc := e4 rfl
    have hl : ys.length = 0 := by omega
    have : ys = [] := List.eq_nil_of_length_eq_zero hl
    subst this
    subst hc
    exact ⟨v, w, run_append_owned_none w base T ty E.ty i E.sz hT hi v xs.length (E.flat xs) ho, by rw [List.append_nil]; exact ho, ⟨rfl, rfl, rfl, Nat.le_refl _, fun _ _ _ => rfl⟩, .inl rfl⟩
  | some x =>
    have hbb : (xs.length + ys.length) * by_ ≤ 100000 * 10000 := Nat.mul_le_mul h63 hby
    obtain ⟨v', w', hr, h2, h3, -, h5'⟩ := run_append_own_at (P := Try.prog) w base T ty E.ty i z E.sz by_ hT hi hzz hsz hb hzs hz v xs.length (E.flat xs) ho
      x ys.length cap (E.flat ys) (E.flat_len ys) (fun j u hu => by
        obtain rfl := h5 (fun h0 => by rw [List.eq_nil_of_length_eq_zero h0] at hu; simp [Lay.flat] at hu) x rfl
        rw [Addr.add_lit]; exact h6 j u hu) (E.flat_one ys) (by simp [maxLen]; omega) (by omega) hbase
    refine ⟨v', w', hr, ?_, h3, h5'⟩
    unfold OwnS
    rw [E.flat_app, List.length_append]
    exact h2
theorem wpList_appL {α : Type} (E : Lay α) (T : TypeId) (hT : Try.prog.underlying T = some (.slice E.ty)) {by_ : Nat} (hk : E.known by_) (hz : 0 < E.sz) (hby : by_ ≤ 10000) {ops : Array Oper} {rest : List Oper} {o : Oper} {a : Act} {w : World} {Q : Exit → Act → World → Prop}
    (hgw : Region.wanted o (yielded ops a.tmps) = true) (s x : Operand) (ho : o.op = .call { callee := .builtin .append, args := #[s, x], argTypes := #[T, T] }) (base : Nat) {v xv : Value} {xs ys : List α}
    (hs : a.eval s = v) (hx : a.eval x = xv) (hown : OwnS E base w v xs) (hsrc : SV E w xv ys) (h63 : xs.length + ys.length ≤ 100000) (hbase : base ≤ w.heap.size)
    (h : ∀ v' w', OwnS E base w' v' (xs ++ ys) → w.grownBy w' v.ownBlock → (v'.ownBlock = v.ownBlock ∨ v'.ownBlock = some w.heap.size) → wpList Try.prog ops Q rest (a.put o.dst v') w') : wpList Try.prog ops Q (o :: rest) a w := by
  refine BigFrame.wpList_want hgw fun K hK => ?_
  obtain ⟨v', w', hr, h2, h3, h4⟩ := run_appL E T hT hk hz w base o.type hown hsrc h63 hby hbase
  unfold Oper.wp execOp
  simp only [ho, resolve, invoke, builtin, Sem.run_bind, Sem.run_pure, Result.andThen_ok, List.map_toArray, List.map_cons, List.map_nil, hs, hx, hr]
  exact hK _ _ (h v' w' h2 h3 h4)
theorem ep_grown_below {n : Nat} {α : Type} {E : Lay α} {w0 w w' : World} {v : Value} {xs : List α} (hb : Below n w0 w) (ho : OwnS E n w v xs) (hg : w.grownBy w' v.ownBlock) (hn : n ≤ w.heap.size) : Below n w0 w' := by
  refine ⟨hg.os.trans hb.os, hg.tape.trans hb.tape, hg.output.trans hb.output, Nat.le_trans hb.size hg.size, fun k hk => (hg.block k (Nat.lt_of_lt_of_le hk hn) fun e => ?_).trans (hb.block k hk)⟩
  have := (ho.bounds k e.symm).1
  omega
end Go.Proofs.Ytaiaaljahnackaa
