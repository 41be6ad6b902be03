/- A clock and the document's own in a variable's block, side by side in memory. -/
import Derived.Test.YtocigedgicgonaaDoorEpStep
import Derived.Test.YtocigedgicgonaaDoorEpLaidD
namespace Go.Proofs.YtocigedgicgonaaDoor
open Go.RowKit

structure Pair (w : World) (cb mb rb : Nat) (c r : Ck) : Prop where
  clk : ClkAt w cb mb c
  rok : r.ok
  ref : ∃ a m, OwnS lInt 0 w (.slice a r.L.length m) r.L ∧ w.heap[rb]? = some (refO r.n r.l (.slice a r.L.length m))
theorem ClkAt.other {w : World} {cb mb rb : Nat} {c : Ck} (h : ClkAt w cb mb c) {cs : Array Value} {T : TypeId} (hb : w.heap[rb]? = some (.cells cs T (0, 0))) (hT : T ≠ 61) : ¬ CS cb mb rb := fun e => by
  rcases e with rfl | rfl
  · rw [h.blk] at hb
    simp only [Option.some.injEq, Obj.cells.injEq] at hb
    exact hT hb.2.1.symm
  · obtain ⟨D, m⟩ := h.map
    obtain ⟨es, clock, e, -⟩ := m.own
    rw [e] at hb
    cases hb
theorem Pair.low {w w' : World} {cb mb rb : Nat} {c r : Ck} (h : Pair w cb mb rb c r) (hb : Below w.heap.size w w') : Pair w' cb mb rb c r :=
  let ⟨a, m, h1, h2⟩ := h.ref
  ⟨h.clk.low hb, h.rok, a, m, h1.below hb, blk_step h2 hb⟩
/-- the document's variable is written anew -/
theorem Pair.write {w : World} {cb mb rb N m : Nat} {c r : Ck} {x0 x1 x2 : Value} {a : Option Addr} (hT : ClkAt w cb mb c) (hO : OwnS lInt 0 w (.slice a N m) r.L) (hN : r.L.length = N) (hr : r.ok) (hb : w.heap[rb]? = some (.cells #[x0, x1, x2] 28 (0, 0))) :
    Pair (((w.setCell ⟨rb, 0, none⟩ (.int .i64 r.n)).setCell ⟨rb, 1, none⟩ (.int .i64 r.l)).setCell ⟨rb, 2, none⟩ (.slice a N m)) cb mb rb c r := by
  subst hN
  obtain ⟨-, -, -, -, -, -, q6⟩ := three_facts hb (.int .i64 r.n) (.int .i64 r.l) (.slice a r.L.length m)
  have kk := (((Kept.refl (fun k => k = rb) w).setCell 0 (.int .i64 r.n)).setCell 1 (.int .i64 r.l)).setCell 2 (.slice a r.L.length m)
  have hne : ∀ k, (Value.slice a r.L.length m).ownBlock = some k → k ≠ rb := hO.neBlk hb (by decide)
  have hx := hT.other hb (by decide)
  exact ⟨hT.keep kk (fun e => hx (.inl e.symm)) (fun e => hx (.inr e.symm)), hr, a, m, ((hO.setOther hne).setOther hne).setOther hne, q6⟩
theorem Pair.keep {w w' : World} {cb mb rb : Nat} {c r : Ck} (h : Pair w cb mb rb c r) {S : Nat → Prop} (hk : Kept S w w') (h1 : ¬ S cb) (h2 : ¬ S mb) (h3 : ¬ S rb) (h4 : ∀ k cs, w.heap[k]? = some (.cells cs 3 (0, 0)) → ¬ S k) : Pair w' cb mb rb c r := by
  obtain ⟨a, m, e1, e2⟩ := h.ref
  refine ⟨h.clk.keep hk h1 h2, h.rok, a, m, e1.kept hk (fun a' n' m' hv hs => ?_), blk_keep e2 hk h3⟩
  obtain ⟨_, h⟩ := e1
  rcases h with ⟨e, -⟩ | ⟨g2, c2, u2, e, -, hg, -⟩
  · rw [e] at hv; cases hv
  · rw [hv] at e
    obtain ⟨e1, -, -⟩ := Value.slice.inj e
    obtain rfl := Option.some.inj e1
    exact h4 _ _ hg hs
theorem Glob.at {w w' : World} (h : Ea.Glob w) (hb : Below w.heap.size w w') : Ea.Glob w' := Ea.Glob.below hb h
theorem cs_glob {w : World} {cb mb : Nat} (h : Ea.Glob w) (h1 : w.heap.size ≤ cb) (h2 : w.heap.size ≤ mb) : ¬ CS cb mb 0 := fun e => by
  have := lt_of_cell h
  rcases e with e | e <;> omega
end Go.Proofs.YtocigedgicgonaaDoor
