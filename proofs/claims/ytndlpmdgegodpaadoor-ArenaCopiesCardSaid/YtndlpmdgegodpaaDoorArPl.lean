/- What ArenaPlays keeps from round to round: both arenas, the block that holds the document's own, the refs that were told. -/
import Derived.Test.YtndlpmdgegodpaaDoorArDoes
import Derived.Maps.AppendAt
namespace Go.Proofs.YtndlpmdgegodpaaDoor
open Go.RowKit

structure Pl (C : ArC) (W w : World) (a : Addr) (S : Nat → Prop) (n l : Nat) (us : List PuD) (v0 v : Value) (rb : Nat) (tv : Value) (told : List Rf) : Prop where
  du : Du C W w a S n l (us.map PuD.pt) us v
  kA : w.heap[rb]? = some (.cells #[.int .i64 n, .int .i64 l, v0] 29 (0, 0))
  own : OwnS lRef (rb + 1) w tv told
  sR : ¬ S rb
  sT : ∀ k, tv.ownBlock = some k → ¬ S k
  wle : W.heap.size ≤ rb
section
variable {C : ArC} {W w w' : World} {a : Addr} {S S' : Nat → Prop} {n l : Nat} {us us' : List PuD} {v0 v v' : Value} {rb : Nat} {tv : Value} {told : List Rf}
theorem Pl.lt (h : Pl C W w a S n l us v0 v rb tv told) : rb < w.heap.size := (Array.getElem?_eq_some_iff.1 h.kA).1
theorem Pl.step (h : Pl C W w a S n l us v0 v rb tv told) (hs : Below w.heap.size w w') : Pl C W w' a S n l us v0 v rb tv told :=
  ⟨h.du.step hs, blk_step h.kA hs, h.own.below hs, h.sR, h.sT, h.wle⟩
theorem Pl.turn (h : Pl C W w a S n l us v0 v rb tv told) (hD : Du C W w' a S' n l (us'.map PuD.pt) us' v') (hk : Kept S w w') (hS : ∀ k, S' k → S k ∨ w.heap.size ≤ k) : Pl C W w' a S' n l us' v0 v' rb tv told :=
  ⟨hD, blk_keep h.kA hk h.sR, h.own.kept hk (fun x m c hv => h.sT x.block (by rw [hv]; rfl)), fun q => (hS _ q).elim h.sR (fun q => by have := h.lt; omega), fun k hk2 q => (hS k q).elim (h.sT k hk2) (fun q => by have := (h.own.bounds k hk2).2; omega), h.wle⟩
theorem own_type {α : Type} {E : Lay α} {b : Nat} {v : Value} {xs : List α} (h : OwnS E b w v xs) {g : Nat} {cs : Array Value} {T : TypeId} {fr : Nat × Nat} (hg : w.heap[g]? = some (.cells cs T fr)) (hne : E.ty ≠ T) : ∀ k, v.ownBlock = some k → k ≠ g := by
  intro k hk e
  obtain ⟨_, h⟩ := h
  rcases h with ⟨rfl, -⟩ | ⟨g1, c1, u1, rfl, -, h1, -⟩
  · cases hk
  · obtain rfl : g1 = k := Option.some.inj hk
    subst e
    rw [hg] at h1
    simp only [Option.some.injEq, Obj.cells.injEq] at h1
    exact hne h1.2.1.symm
/-- the block that holds the document's own arena, written anew -/
def setR (w : World) (rb n l : Nat) (v : Value) : World := ((w.setCell ⟨rb, 0, none⟩ (.int .i64 n)).setCell ⟨rb, 1, none⟩ (.int .i64 l)).setCell ⟨rb, 2, none⟩ v
theorem setR_kept (w : World) (rb n l : Nat) (v : Value) : Kept (fun k => k = rb) w (setR w rb n l v) := (((Kept.refl (fun k => k = rb) w).setCell 0 (.int .i64 n)).setCell 1 (.int .i64 l)).setCell 2 v
theorem Pl.setR (h : Pl C W w a S n l us v0 v rb tv told) : Pl C W (setR w rb n l v) a S n l us v v rb tv told := by
  have hk := setR_kept w rb n l v
  obtain ⟨-, -, -, -, -, -, s6⟩ := three_facts h.kA (.int .i64 n) (.int .i64 l) v
  exact ⟨h.du.kept hk (fun k q => q ▸ h.wle) (fun k s q => h.sR (q ▸ s)) (own_type h.du.own h.kA (by decide)), s6, h.own.kept hk (fun x m c hv q => by have := (h.own.bounds x.block (by rw [hv]; rfl)).1; omega), h.sR, h.sT, h.wle⟩
theorem Pl.app (h : Pl C W w a S n l us v0 v rb tv told) {tv2 : Value} {x y : Int} (ho : OwnS lRef (rb + 1) w' tv2 (told ++ [(x, y)])) (hg : w.grownBy w' tv.ownBlock) (hnew : ∀ k, tv2.ownBlock = some k → tv.ownBlock = some k ∨ w.heap.size ≤ k) :
    Pl C W w' a S n l us v0 v rb tv2 (told ++ [(x, y)]) := by
  have hk := Kept.of_grown hg
  refine ⟨h.du.kept hk (fun k q => by have := (h.own.bounds k q.symm).1; have := h.wle; omega) (fun k s q => h.sT k q.symm s) (fun k hk2 q => ?_), blk_keep h.kA hk (fun q => by have := (h.own.bounds _ q.symm).1; omega), ho, h.sR, fun k hk2 hs => ?_, h.wle⟩
  · obtain ⟨_, h1⟩ := h.own
    rcases h1 with ⟨rfl, -⟩ | ⟨g1, c1, u1, rfl, -, h1, -⟩
    · cases q
    · exact own_type h.du.own h1 (by decide) k hk2 (Option.some.inj q)
  · rcases hnew k hk2 with h1 | h1
    · exact h.sT k h1 hs
    · have := C.foot h.du.inv k hs; omega
end
set_option maxRecDepth 100000 in
theorem wpList_appAt {α : Type} (E : Lay α) (T : TypeId) (hT : Tryd.prog.underlying T = some (.slice E.ty)) {by_ : Nat} (hk : E.known by_) (hz : 0 < E.sz) (hby : by_ ≤ 10000) {ops : Array Oper} {rest : List Oper} {o : Oper} {a : Act} {w : World} {Q : Exit → Act → World → Prop}
    (hgd : o.guard = none) (s x : Operand) (ho : o.op = .call { callee := .builtin .append, args := #[s, x], argTypes := #[T, T] }) (base : Nat) {v : Value} {xs : List α} (y : α) (b : Nat)
    (hs : a.eval s = v) (hx : a.eval x = .slice (some ⟨b, 0, none⟩) 1 1) (hown : OwnS E base w v xs) (hsrc : SV E w (.slice (some ⟨b, 0, none⟩) 1 1) [y]) (h63 : xs.length ≤ 10000) (hbase : base ≤ w.heap.size)
    (h : ∀ v' w', OwnS E base w' v' (xs ++ [y]) → w.grownBy w' v.ownBlock → (∀ k, v'.ownBlock = some k → v.ownBlock = some k ∨ w.heap.size ≤ k) → wpList Tryd.prog ops Q rest (a.put o.dst v') w') : wpList Tryd.prog ops Q (o :: rest) a w := by
  obtain ⟨i, z, hi, hzz, hsz, hb, hzs⟩ := hk
  obtain ⟨a', cap', h1, h2, h3, h4, b', off', h5, h6⟩ := hsrc
  obtain ⟨rfl, -, -⟩ := Value.slice.inj h1
  have e := h5 (by simp) _ rfl
  obtain ⟨rfl, rfl⟩ : b = b' ∧ 0 = off' := by simpa using e
  have hbb : (xs.length + 1) * by_ ≤ 10001 * 10000 := Nat.mul_le_mul (by omega) hby
  refine wpList_append_own_at w hgd s x T ho base E.ty i z E.sz by_ hT hi hzz hsz hb hzs hz v xs.length (E.flat xs) hs hown ⟨b, 0, none⟩ 1 1 (E.flat [y]) hx (by rw [E.flat_len]; rfl) (fun j u hu => by rw [Addr.add_lit]; exact h6 j u hu) (E.flat_one [y]) (by simp [maxLen]; omega) (by omega) hbase ?_
  intro v' w' r1 r2 _ r4
  refine h v' w' ?_ r2 (fun k hk => r4.imp (fun e => by rw [← e]; exact hk) (fun e => by rw [e] at hk; exact Nat.le_of_eq (Option.some.inj hk)))
  unfold OwnS
  rw [E.flat_app, List.length_append]
  exact r1
end Go.Proofs.YtndlpmdgegodpaaDoor
