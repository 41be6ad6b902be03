/- A table and the document's own, side by side in memory. -/
import Derived.Test.YtfdgfonffocenaaDoorMpSteps
namespace Go.Proofs.YtfdgfonffocenaaDoor
open Go.RowKit

/-- a table, and the document's in a variable's block, both with the pages L -/
structure Pair (w : World) (ab pb n rb : Nat) (L : List Pg) (us : List Up) (k : Nat) : Prop where
  tab : TabAt w ab pb n L
  ref : ∃ a c, OwnS lUp 0 w (.slice a us.length c) us ∧ w.heap[rb]? = some (.cells #[.int .i64 n, .slice a us.length c] 28 (0, 0))
  ok : RefOk us L
  small : us.length ≤ k
theorem Pair.low {w w' : World} {ab pb n rb : Nat} {L : List Pg} {us : List Up} {k : Nat} (h : Pair w ab pb n rb L us k) (hb : Below w.heap.size w w') : Pair w' ab pb n rb L us k := by
  obtain ⟨a, c, h1, h2⟩ := h.ref
  exact ⟨h.tab.low hb, ⟨a, c, h1.below hb, blk_step h2 hb⟩, h.ok, h.small⟩
theorem Pair.keep {w w' : World} {ab pb n rb g : Nat} {L : List Pg} {us : List Up} {k : Nat} {cs : Array Value} {T : TypeId} (h : Pair w ab pb n rb L us k) (hk : Kept (fun k => k = g) w w') (hg : w.heap[g]? = some (.cells cs T (0, 0))) (hT : lUp.ty ≠ T) (h1 : ¬ ab = g) (h2 : ¬ pb = g) (h3 : ¬ rb = g) : Pair w' ab pb n rb L us k := by
  obtain ⟨a, c, e1, e2⟩ := h.ref
  exact ⟨h.tab.keep hk h1 h2, ⟨a, c, e1.kept hk (fun a' m' c' hv hs => e1.neBlk hg hT a'.block (by rw [hv]; rfl) hs), blk_keep e2 hk h3⟩, h.ok, h.small⟩
theorem TabAt.blkP {w : World} {ab pb n : Nat} {L : List Pg} (h : TabAt w ab pb n L) : ∃ cs, w.heap[pb]? = some (.cells cs 66 (0, 0)) := by
  obtain ⟨cur, h1, -⟩ := h.own.block
  exact ⟨cur, h1⟩
theorem Pair.mono {w : World} {ab pb n rb : Nat} {L : List Pg} {us : List Up} {k k' : Nat} (h : Pair w ab pb n rb L us k) (hk : k ≤ k') : Pair w ab pb n rb L us k' := ⟨h.tab, h.ref, h.ok, Nat.le_trans h.small hk⟩
/-- the document's variable is written anew -/
theorem Pair.write {w : World} {ab pb n rb N : Nat} {L : List Pg} {us : List Up} {k : Nat} {x0 x1 : Value} {a : Option Addr} {c : Nat} (hT : TabAt w ab pb n L) (hO : OwnS lUp 0 w (.slice a N c) us) (hN : us.length = N) (hr : RefOk us L) (hs : N ≤ k) (hb : w.heap[rb]? = some (.cells #[x0, x1] 28 (0, 0))) (h1 : ¬ ab = rb) (h2 : ¬ pb = rb) :
    Pair ((w.setCell ⟨rb, 0, none⟩ (.int .i64 n)).setCell ⟨rb, 1, none⟩ (.slice a N c)) ab pb n rb L us k := by
  subst hN
  obtain ⟨-, -, -, -, q4⟩ := two_facts hb (.int .i64 n) (.slice a us.length c)
  have kk := ((Kept.refl (fun k => k = rb) w).setCell 0 (.int .i64 n)).setCell 1 (.slice a us.length c)
  exact ⟨hT.keep kk h1 h2, ⟨a, c, (hO.setOther (fun k hk => hO.neBlk hb (by decide) k hk)).setOther (fun k hk => hO.neBlk hb (by decide) k hk), q4⟩, hr, hs⟩
end Go.Proofs.YtfdgfonffocenaaDoor
