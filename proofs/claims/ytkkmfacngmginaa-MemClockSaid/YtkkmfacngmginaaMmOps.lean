/- Package mem's accesses, by contracts: the clock's. -/
import Derived.Test.YtkkmfacngmginaaMmChain
namespace Go.Proofs.Ytkkmfacngmginaa
open Go.RowKit

/-- what an access to the clock may turn -/
def CM (m : MB) : Nat → Prop := fun k => k = m.mb ∨ k = m.cb ∨ k = m.kb
theorem CM.ck {m : MB} {w w' : World} (hk : Kept (CS m.cb m.kb) w w') : Kept (CM m) w w' := hk.wide fun _ _ h => .inr h
theorem CM.ms {m : MB} {S : Nat → Prop} : ∀ k, CM m k → MS m S k := fun _ h => h.elim .inl (fun h => h.elim (fun e => .inr (.inr (.inr (.inr (.inl e))))) (fun e => .inr (.inr (.inr (.inr (.inr e))))))
theorem MemAt.offC {w : World} {m : MB} {S : Nat → Prop} {l : LimN} {k : Int} {ps : List Pt} {L : List Pg} {c : Ck} (h : MemAt w m S l k ps L c) {b : Nat} {cs : Array Value} {T : TypeId} (hb : w.heap[b]? = some (.cells cs T (0, 0))) (h1 : T ≠ 115) (h2 : T ≠ 164) : ¬ CM m b := by
  rintro (e | e | e)
  · exact blk_ne hb h.blk h1 e
  · exact blk_ne hb h.ck.blk h2 e
  · exact map_ne hb h.ck.mapB e
theorem MemAt.offO {w : World} {m : MB} {S : Nat → Prop} {l : LimN} {k : Int} {ps : List Pt} {L : List Pg} {c : Ck} (h : MemAt w m S l k ps L c) {α : Type} {E : Lay α} {b : Nat} {v : Value} {xs : List α} (ho : OwnS E b w v xs) (h1 : E.ty ≠ 115) (h2 : E.ty ≠ 164) : Out (CM m) v := by
  intro a n c' hv hs
  subst hv
  obtain ⟨_, h'⟩ := ho
  rcases h' with ⟨e, -⟩ | ⟨g, cap, cur, e, -, hg, -⟩
  · cases e
  · obtain ⟨e1, -, -⟩ := Value.slice.inj e
    obtain rfl := Option.some.inj e1
    exact h.offC hg h1 h2 hs

set_option maxRecDepth 100000 in
set_option maxHeartbeats 4000000 in
theorem access_any (w : World) (m : MB) (S : Nat → Prop) (l : LimN) (k : Int) (ps : List Pt) (L : List Pg) (c : Ck) (h : MemAt w m S l k ps L c) :
    Calls Try.prog 52 #[.pointer (some ⟨m.mb, 0, none⟩)] w fun ev w' => ev = .returned (.tuple #[]) ∧ (∃ k', MemAt w' m S l k' ps L c) ∧ Kept (CM m) w w' := by
  have x0 := h.cN
  have M := Lib.hid h
  have fz := blk_free h.blk 0
  clear h
  go_enter Try.func52, Try.ntmps52
  go_wp2
  go_end0
  exact ⟨rfl, ⟨_, M.out.count _⟩, ((Kept.refl (fun k => k = m.mb) w).setCell _ _).wide fun _ _ h => .inl h⟩
set_option maxRecDepth 100000 in
set_option maxHeartbeats 4000000 in
theorem mBump_any (w : World) (m : MB) (S : Nat → Prop) (l : LimN) (k : Int) (ps : List Pt) (L : List Pg) (c : Ck) (h : MemAt w m S l k ps L c) :
    Calls Try.prog 21 #[.pointer (some ⟨m.mb, 0, none⟩)] w fun ev w' => ∃ v, ev = .returned (.tuple #[.int .i64 c.bump.n, v]) ∧ (∃ k', MemAt w' m S l k' ps L c.bump) ∧ Kept (CM m) w w' := by
  have M0 := Lib.hid h
  clear h
  go_enter Try.func21, Try.ntmps21
  go_wp2_with fail
  refine (access_any _ m S l k ps L c M0.out).mono ?_
  rintro ev w1 ⟨rfl, ⟨k1, hM⟩, hk⟩
  have M1 := Lib.hid hM
  have K1 := Lib.hid hk
  have x1 := hM.cC
  clear hM hk
  go_wp2_with fail
  refine (bump_any _ m.cb m.kb c M1.out.ck).mono ?_
  rintro ev w2 ⟨rfl, hC, hk⟩
  have M2 := Lib.hid (M1.out.clock hC hk)
  have K2 := Lib.hid (K1.out.trans (CM.ck hk))
  clear hC hk x1
  have fa := fun w => fAt_any ⟨#[99, 108, 111, 99, 107]⟩ 0 c.bumpE w
  go_wp2_with fail
  refine (fa _).mono ?_
  rintro ev w3 ⟨v, rfl, -, hs⟩
  have M3 := Lib.hid (M2.out.low hs)
  have K3 := Lib.hid (K2.out.trans (Kept.of_below hs))
  clear hs fa
  go_wp2
  go_ret2
  exact ⟨v, rfl, ⟨_, M3.out⟩, K3.out⟩
set_option maxRecDepth 100000 in
set_option maxHeartbeats 4000000 in
theorem mEnter_any (w : World) (m : MB) (S : Nat → Prop) (l : LimN) (k : Int) (ps : List Pt) (L : List Pg) (c : Ck) (x a : Int) (h : MemAt w m S l k ps L c) :
    Calls Try.prog 26 #[.pointer (some ⟨m.mb, 0, none⟩), .int .i64 x, .int .i64 a] w fun ev w' => ∃ v, ev = .returned v ∧ (∃ k', MemAt w' m S l k' ps L (c.enter x a)) ∧ Kept (CM m) w w' := by
  have M0 := Lib.hid h
  clear h
  go_enter Try.func26, Try.ntmps26
  go_wp2_with fail
  refine (access_any _ m S l k ps L c M0.out).mono ?_
  rintro ev w1 ⟨rfl, ⟨k1, hM⟩, hk⟩
  have M1 := Lib.hid hM
  have K1 := Lib.hid hk
  have x1 := hM.cC
  clear hM hk
  go_wp2_with fail
  refine (enter_any _ m.cb m.kb c M1.out.ck x a).mono ?_
  rintro ev w2 ⟨rfl, hC, hk⟩
  have M2 := Lib.hid (M1.out.clock hC hk)
  have K2 := Lib.hid (K1.out.trans (CM.ck hk))
  clear hC hk x1
  have fa := fun w => fAt_any ⟨#[99, 108, 111, 99, 107]⟩ x (c.enterE x a) w
  go_wp2_with fail
  refine (fa _).mono ?_
  rintro ev w3 ⟨v, rfl, -, hs⟩
  have M3 := Lib.hid (M2.out.low hs)
  have K3 := Lib.hid (K2.out.trans (Kept.of_below hs))
  clear hs fa
  go_wp2
  go_ret
  exact ⟨v, rfl, ⟨_, M3.out⟩, K3.out⟩
set_option maxRecDepth 100000 in
set_option maxHeartbeats 4000000 in
theorem mLeave_any (w : World) (m : MB) (S : Nat → Prop) (l : LimN) (k : Int) (ps : List Pt) (L : List Pg) (c : Ck) (x : Int) (h : MemAt w m S l k ps L c) :
    Calls Try.prog 27 #[.pointer (some ⟨m.mb, 0, none⟩), .int .i64 x] w fun ev w' => ∃ v, ev = .returned v ∧ (∃ k', MemAt w' m S l k' ps L (c.leave x)) ∧ Kept (CM m) w w' := by
  have M0 := Lib.hid h
  clear h
  go_enter Try.func27, Try.ntmps27
  go_wp2_with fail
  refine (access_any _ m S l k ps L c M0.out).mono ?_
  rintro ev w1 ⟨rfl, ⟨k1, hM⟩, hk⟩
  have M1 := Lib.hid hM
  have K1 := Lib.hid hk
  have x1 := hM.cC
  clear hM hk
  go_wp2_with fail
  refine (leave_any _ m.cb m.kb c M1.out.ck x).mono ?_
  rintro ev w2 ⟨rfl, hC, hk⟩
  have M2 := Lib.hid (M1.out.clock hC hk)
  have K2 := Lib.hid (K1.out.trans (CM.ck hk))
  clear hC hk x1
  have fa := fun w => fAt_any ⟨#[99, 108, 111, 99, 107]⟩ x (c.leaveE x) w
  go_wp2_with fail
  refine (fa _).mono ?_
  rintro ev w3 ⟨v, rfl, -, hs⟩
  have M3 := Lib.hid (M2.out.low hs)
  have K3 := Lib.hid (K2.out.trans (Kept.of_below hs))
  clear hs fa
  go_wp2
  go_ret
  exact ⟨v, rfl, ⟨_, M3.out⟩, K3.out⟩
set_option maxRecDepth 100000 in
set_option maxHeartbeats 4000000 in
theorem mNow_any (w : World) (m : MB) (S : Nat → Prop) (l : LimN) (k : Int) (ps : List Pt) (L : List Pg) (c : Ck) (h : MemAt w m S l k ps L c) :
    Calls Try.prog 29 #[.pointer (some ⟨m.mb, 0, none⟩)] w fun ev w' => ev = .returned (.int .i64 c.n) ∧ (∃ k', MemAt w' m S l k' ps L c) ∧ Kept (CM m) w w' := by
  have M0 := Lib.hid h
  clear h
  go_enter Try.func29, Try.ntmps29
  go_wp2_with fail
  refine (access_any _ m S l k ps L c M0.out).mono ?_
  rintro ev w1 ⟨rfl, ⟨k1, hM⟩, hk⟩
  have M1 := Lib.hid hM
  have K1 := Lib.hid hk
  have x1 := hM.cC
  clear hM hk
  go_wp2_with fail
  refine (now_any _ m.cb m.kb c M1.out.ck).mono ?_
  rintro ev w2 ⟨rfl, hs⟩
  have M2 := Lib.hid (M1.out.low hs)
  have K2 := Lib.hid (K1.out.trans (Kept.of_below hs))
  clear hs x1
  go_wp2
  go_ret
  exact ⟨rfl, ⟨_, M2.out⟩, K2.out⟩
set_option maxRecDepth 100000 in
set_option maxHeartbeats 4000000 in
theorem mAt_any (w : World) (m : MB) (S : Nat → Prop) (l : LimN) (k : Int) (ps : List Pt) (L : List Pg) (c : Ck) (x : Int) (h : MemAt w m S l k ps L c) :
    Calls Try.prog 22 #[.pointer (some ⟨m.mb, 0, none⟩), .int .i64 x] w fun ev w' => ∃ v, ev = .returned (.tuple #[.int .i64 (atL c.L x), .bool (decide (0 < atL c.L x)), v]) ∧ ErrF w' v (c.atE x) ∧ (∃ k', MemAt w' m S l k' ps L c) ∧ Kept (CM m) w w' := by
  have M0 := Lib.hid h
  clear h
  go_enter Try.func22, Try.ntmps22
  go_wp2_with fail
  refine (access_any _ m S l k ps L c M0.out).mono ?_
  rintro ev w1 ⟨rfl, ⟨k1, hM⟩, hk⟩
  have M1 := Lib.hid hM
  have K1 := Lib.hid hk
  have x1 := hM.cC
  clear hM hk
  go_wp2_with fail
  refine (at_any _ m.cb m.kb c M1.out.ck x).mono ?_
  rintro ev w2 ⟨rfl, hs⟩
  have M2 := Lib.hid (M1.out.low hs)
  have K2 := Lib.hid (K1.out.trans (Kept.of_below hs))
  clear hs x1
  have fa := fun w => fAt_any ⟨#[99, 108, 111, 99, 107]⟩ x (c.atE x) w
  go_wp2_with fail
  refine (fa _).mono ?_
  rintro ev w3 ⟨v, rfl, he, hs⟩
  have M3 := Lib.hid (M2.out.low hs)
  have K3 := Lib.hid (K2.out.trans (Kept.of_below hs))
  have E3 := Lib.hid he
  clear hs fa he
  go_wp2
  refine bodyPost_ret (results_tmp3 rfl _ _ _) rfl ?_
  exact ⟨v, rfl, E3.out, ⟨_, M3.out⟩, K3.out⟩
end Go.Proofs.Ytkkmfacngmginaa
