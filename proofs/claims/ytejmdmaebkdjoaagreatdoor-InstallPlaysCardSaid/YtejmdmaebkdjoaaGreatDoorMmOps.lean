/- Package mem's accesses, by contracts: the clock's. -/
import Derived.Test.YtejmdmaebkdjoaaGreatDoorMmChain
namespace Go.Proofs.YtejmdmaebkdjoaaGreatDoor
set_option linter.unusedVariables false
set_option linter.unusedSimpArgs false
open Go.RowKit
def CM (m : MB) : Nat → Prop := fun k => k = m.mb ∨ k = m.cb ∨ k = m.kb
theorem CM.ms {m : MB} {S : Nat → Prop} : ∀ k, CM m k → MS m S k := fun _ h => h.elim .inl (fun h => h.elim (fun e => .inr (.inr (.inr (.inr (.inl e))))) (fun e => .inr (.inr (.inr (.inr (.inr e))))))
theorem MemAt.offC {w : World} {m : MB} {S : Nat → Prop} {l : LimN} {k : Int} {ps : List Pt} {L : List Pg} {c : Ck} (h : MemAt w m S l k ps L c) {b : Nat} {cs : Array Value} {T : TypeId} (hb : w.heap[b]? = some (.cells cs T (0, 0))) (h1 : T ≠ 94) (h2 : T ≠ 150) : ¬ CM m b := by
 rintro (e | e | e)
 ·exact blk_ne hb h.blk h1 e
 ·exact blk_ne hb h.ck.blk h2 e
 ·exact map_ne hb h.ck.mapB e
end Go.Proofs.YtejmdmaebkdjoaaGreatDoor
