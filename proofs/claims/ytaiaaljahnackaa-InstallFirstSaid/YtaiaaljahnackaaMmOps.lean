/- Package mem's accesses, by contracts: the clock's. -/
import Derived.Test.YtaiaaljahnackaaMmChain
namespace Go.Proofs.Ytaiaaljahnackaa
open Go.RowKit

/-- what an access to the clock may turn -/
def CM (m : MB) : Nat → Prop := fun k => k = m.mb ∨ k = m.cb ∨ k = m.kb
theorem CM.ck {m : MB} {w w' : World} (hk : Kept (CS m.cb m.kb) w w') : Kept (CM m) w w' := hk.wide fun _ _ h => .inr h
theorem CM.ms {m : MB} {S : Nat → Prop} : ∀ k, CM m k → MS m S k := fun _ h => h.elim .inl (fun h => h.elim (fun e => .inr (.inr (.inr (.inr (.inl e))))) (fun e => .inr (.inr (.inr (.inr (.inr e))))))
theorem MemAt.offC {w : World} {m : MB} {S : Nat → Prop} {l : LimN} {k : Int} {ps : List Pt} {L : List Pg} {c : Ck} (h : MemAt w m S l k ps L c) {b : Nat} {cs : Array Value} {T : TypeId} (hb : w.heap[b]? = some (.cells cs T (0, 0))) (h1 : T ≠ 82) (h2 : T ≠ 113) : ¬ CM m b := by
  rintro (e | e | e)
  · exact blk_ne hb h.blk h1 e
  · exact blk_ne hb h.ck.blk h2 e
  · exact map_ne hb h.ck.mapB e
theorem MemAt.offO {w : World} {m : MB} {S : Nat → Prop} {l : LimN} {k : Int} {ps : List Pt} {L : List Pg} {c : Ck} (h : MemAt w m S l k ps L c) {α : Type} {E : Lay α} {b : Nat} {v : Value} {xs : List α} (ho : OwnS E b w v xs) (h1 : E.ty ≠ 82) (h2 : E.ty ≠ 113) : Out (CM m) v := by
  intro a n c' hv hs
  subst hv
  obtain ⟨_, h'⟩ := ho
  rcases h' with ⟨e, -⟩ | ⟨g, cap, cur, e, -, hg, -⟩
  · cases e
  · obtain ⟨e1, -, -⟩ := Value.slice.inj e
    obtain rfl := Option.some.inj e1
    exact h.offC hg h1 h2 hs

set_option maxRecDepth 100000 in
set_option maxHeartbeats 4000000 in
theorem access_any (w : World) (m : MB) (S : Nat → Prop) (l : LimN) (k : Int) (ps : List Pt) (L : List Pg) (c : Ck) (h : MemAt w m S l k ps L c) :
    Calls Try.prog 30 #[.pointer (some ⟨m.mb, 0, none⟩)] w fun ev w' => ev = .returned (.tuple #[]) ∧ (∃ k', MemAt w' m S l k' ps L c) ∧ Kept (CM m) w w' := by
  have x0 := h.cN
  have M := Lib.hid h
  have fz := blk_free h.blk 0
  clear h
  go_enter Try.func30, Try.ntmps30
  go_wp2
  go_end0
  exact ⟨rfl, ⟨_, M.out.count _⟩, ((Kept.refl (fun k => k = m.mb) w).setCell _ _).wide fun _ _ h => .inl h⟩
end Go.Proofs.Ytaiaaljahnackaa
