/- A clock, the document's own, and a bin, side by side in memory. -/
import Derived.Test.YtocigedgicgonaaDoorEpPair
import Derived.Test.YtocigedgicgonaaDoorEpRipe
namespace Go.Proofs.YtocigedgicgonaaDoor
open Go.RowKit

theorem BinAt.blkB {w : World} {bb : Nat} {xs : List It} (h : BinAt w bb xs) : ∃ cs, w.heap[bb]? = some (.cells cs 42 (0, 0)) := let ⟨_, h1, _⟩ := h.blk; ⟨_, h1⟩
theorem BinAt.clk {w w' : World} {bb cb mb : Nat} {xs : List It} {c : Ck} (h : BinAt w bb xs) (hc : ClkAt w cb mb c) (hk : Kept (CS cb mb) w w') : BinAt w' bb xs := by
  obtain ⟨cs, hb⟩ := h.blkB
  exact h.keep hk hc.no (hc.other hb (by decide))
theorem BinAt.wr {w : World} {bb rb : Nat} {xs : List It} {x0 x1 x2 : Value} (h : BinAt w bb xs) (hb : w.heap[rb]? = some (.cells #[x0, x1, x2] 28 (0, 0))) (y0 y1 y2 : Value) :
    BinAt (((w.setCell ⟨rb, 0, none⟩ y0).setCell ⟨rb, 1, none⟩ y1).setCell ⟨rb, 2, none⟩ y2) bb xs := by
  have kk := (((Kept.refl (fun k => k = rb) w).setCell 0 y0).setCell 1 y1).setCell 2 y2
  refine h.keep kk (fun b cs fr e he => ?_) (fun e => ?_)
  · subst e
    rw [hb] at he
    simp only [Option.some.injEq, Obj.cells.injEq] at he
    exact absurd he.2.1 (by decide)
  · obtain ⟨cs, hc⟩ := h.blkB
    subst e
    rw [hb] at hc
    simp only [Option.some.injEq, Obj.cells.injEq] at hc
    exact absurd hc.2.1 (by decide)
theorem ClkAt.bin {w w' : World} {bb cb mb : Nat} {xs : List It} {c : Ck} (hc : ClkAt w cb mb c) (h : BinAt w bb xs) (hk : Kept (fun k => k = bb) w w') : ClkAt w' cb mb c := by
  obtain ⟨cs, hb⟩ := h.blkB
  have hx := hc.other hb (by decide)
  exact hc.keep hk (fun e => hx (.inl e.symm)) (fun e => hx (.inr e.symm))
theorem Pair.bin {w w' : World} {bb cb mb rb : Nat} {xs : List It} {c r : Ck} (hp : Pair w cb mb rb c r) (h : BinAt w bb xs) (hk : Kept (fun k => k = bb) w w') : Pair w' cb mb rb c r := by
  obtain ⟨cs, hb⟩ := h.blkB
  have hx := hp.clk.other hb (by decide)
  obtain ⟨a, m, -, h2⟩ := hp.ref
  refine hp.keep hk (fun e => hx (.inl e.symm)) (fun e => hx (.inr e.symm)) (fun e => ?_) (fun k cs he e => ?_)
  · subst e
    rw [h2] at hb
    simp only [refO, Option.some.injEq, Obj.cells.injEq] at hb
    exact absurd hb.2.1 (by decide)
  · subst e
    rw [he] at hb
    simp only [Option.some.injEq, Obj.cells.injEq] at hb
    exact absurd hb.2.1 (by decide)
theorem Ck.step_n {c : Ck} (v t a : Int) : c.n ≤ (c.step v t a).n := by
  unfold Ck.step Ck.bump Ck.enter Ck.leave
  split
  · split
    · exact Int.le_refl _
    · show c.n ≤ c.n + 1; omega
  · split
    · split <;> exact Int.le_refl _
    · split
      · split <;> exact Int.le_refl _
      · exact Int.le_refl _
end Go.Proofs.YtocigedgicgonaaDoor
