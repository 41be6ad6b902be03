/- The laws' own 'own' of a chain (layer 8), by a contract: the same chain in memory of its own. -/
import Derived.Test.YtkkmfacngmginaaDoorLfChain
namespace Go.Proofs.YtkkmfacngmginaaDoor
open Go.RowKit

theorem there_new (w : World) (zs : Array Value) (ty : TypeId) : (w.alloc (.cells zs ty)).there w.heap.size 0 zs.size := fun j hj => by
  refine ⟨?_, World.frozen?_alloc_at _ _ _ _ rfl⟩
  rw [World.cell?_alloc_at _ _ _ _ rfl, Nat.zero_add]
  simp [hj]
/-- a struct laid into a new block of its own -/
theorem put_new (w : World) (zs : Array Value) (ty : TypeId) (cs : List Value) (hn : zs.size = cs.length) :
    Below w.heap.size w ((w.alloc (.cells zs ty)).setCells w.heap.size 0 cs) ∧ ((w.alloc (.cells zs ty)).setCells w.heap.size 0 cs).rangeAt w.heap.size 0 cs :=
  ⟨below_setCells (Nat.le_refl _) cs 0 _ (alloc_below0 w _), World.rangeAt_setCells_same _ _ _ _ (hn ▸ there_new w zs ty)⟩
/-- one more record behind a chain of the call's own -/
theorem ChO.app {base : Nat} {w w' : World} {v v' : Value} {ds : List RcD} {d : RcD} (h : ChO base w v ds) (hd : RcO base w d) (ho : OwnS lRec base w' v' (ds ++ [d])) (hg : w.grownBy w' v.ownBlock) : ChO base w' v' (ds ++ [d]) := by
  have hk : Kept (fun k => v.ownBlock = some k) w w' := (Kept.of_grown hg).wide fun _ _ h => h.symm
  have one : ∀ x, RcO base w x → RcO base w' x := fun x hx => hx.kept hk (OwnS.neB h.own hx.rows (show lRec.ty ≠ lRow.ty by decide)) (OwnS.neB h.own hx.ents (show lRec.ty ≠ lEnt.ty by decide))
  refine ⟨ho, fun x hx => ?_⟩
  rcases List.mem_append.1 hx with hx | hx
  · exact one x (h.all x hx)
  · obtain rfl : x = d := by simpa using hx
    exact one x hd
theorem readC_app (a b : List RcD) : readC (a ++ b) = readC a ++ readC b := by simp [readC]
/-- a record that is laid into a block of its own, as a slice of one -/
theorem one_sv {w : World} {n : Nat} (hn : w.heap.size = n) (d : RcD) : SV lRec (w.alloc (.cells d.cells.toArray 32)) (.slice (some ⟨n, 0, none⟩) 1 1) [d] := by
  have h := OwnS.lit lRec n w n hn [d] (Nat.le_refl _) (show 1 ≤ maxLen by decide)
  have e : lRec.flat [d] = d.cells := by simp [Lay.flat, lRec]
  rw [e] at h
  exact h.sv
end Go.Proofs.YtkkmfacngmginaaDoor
