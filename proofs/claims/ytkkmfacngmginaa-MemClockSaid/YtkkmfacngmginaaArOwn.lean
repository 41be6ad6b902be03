/- Package arena's own 'own', by a contract; what a slot holds. -/
import Derived.Test.YtkkmfacngmginaaMm
import Derived.Test.YtkkmfacngmginaaArMem
namespace Go.Proofs.Ytkkmfacngmginaa
open Go.RowKit

/-- block g holds a record of its own: what is in it reads as d -/
def RecAt (w : World) (g : Nat) (base : Nat) (d : RecD) : Prop := ∃ rv en, w.heap[g]? = some (recObj d.sc rv en) ∧ OwnS lRow base w rv d.rows ∧ OwnS lEnt base w en d.ents
theorem rec_arr (s : Sc) (rv ev : Value) : recObj s rv ev = .cells (recCells s rv ev).toArray 39 (0, 0) := rfl
theorem rec_laid {w : World} {b : Nat} {cs : Array Value} {s : Sc} {rv ev : Value} (h : w.heap[b]? = some (.cells cs 39 (0, 0))) (hn : cs.size = 15) : (w.setCells b 0 (recCells s rv ev)).heap[b]? = some (recObj s rv ev) := by
  rw [rec_arr]; exact list_laid _ h hn
set_option maxRecDepth 100000 in
set_option maxHeartbeats 4000000 in
theorem own_any (v : Value) (d : RecD) (w : World) (hv : RecV w v d) (h1 : d.rows.length ≤ 1000) (h2 : d.ents.length ≤ 1000) :
    Calls Try.prog 100 #[v] w fun ev w' => ∃ g, ev = .returned (.pointer (some ⟨g, 0, none⟩)) ∧ w.heap.size ≤ g ∧ RecAt w' g w.heap.size d ∧ Below w.heap.size w w' := by
  obtain ⟨s, rows, ents⟩ := d
  obtain ⟨rv, en, rfl, hr, he⟩ := hv
  simp only at hr he h1 h2
  have L := Lib.hid (show rows.length ≤ 1000 ∧ ents.length ≤ 1000 from ⟨h1, h2⟩)
  obtain ⟨W, hW⟩ : ∃ W, W = w.alloc (recObj s rv en) := ⟨_, rfl⟩
  have B := Lib.hid (show Below w.heap.size w W by rw [hW]; exact alloc_below0 w _)
  have K0 := Lib.hid (show W.heap[w.heap.size]? = some (recObj s rv en) by rw [hW]; exact blk_new _ _)
  have R := Lib.hid (hr.below B.out)
  have E := Lib.hid (he.below B.out)
  have Z := Lib.hid (show W.heap.size = w.heap.size + 1 by rw [hW]; simp)
  have hrng : W.rangeAt w.heap.size 0 (recCells s rv en) := rec_range K0.out
  clear hr he h1 h2
  unfold recVal
  unfold recObj at hW
  go_enter Try.func100, Try.ntmps100
  go_wp2_with (refine wpList_load_mid rfl 39 (.tmp 1) rfl w.heap.size 0 rfl (recCells s rv en) _ (by rw [← hW]; exact hrng) Try.underlying39 rfl (by kernel_rfl) ?_)
  rw [← hW]
  refine (ar_clone_any (.agg (recCells s rv en).toArray) ⟨s, rows, ents⟩ _ ⟨rv, en, rfl, R.out, E.out⟩ L.out.1 L.out.2).mono ?_
  rintro ev w1 ⟨rv1, en1, rfl, o1, o2, hs⟩
  obtain ⟨a1, q1, rfl, -, -⟩ := o1.sv.lenform
  obtain ⟨a2, q2, rfl, -, -⟩ := o2.sv.lenform
  obtain ⟨n, hn⟩ : ∃ n, rows.length = n := ⟨_, rfl⟩
  obtain ⟨m, hm⟩ : ∃ m, ents.length = m := ⟨_, rfl⟩
  simp only at o1 o2
  rw [hn] at o1 ⊢
  rw [hm] at o2 ⊢
  have B1 := Lib.hid (B.out.trans (hs.mono B.out.size))
  have K1 := Lib.hid (blk_step K0.out hs)
  have P1 := Lib.hid (show ∀ k, (Value.slice a1 n q1).ownBlock = some k → w.heap.size + 1 ≤ k from fun k hk => by have := (o1.bounds k hk).1; have := Z.out; omega)
  have P2 := Lib.hid (show ∀ k, (Value.slice a2 m q2).ownBlock = some k → w.heap.size + 1 ≤ k from fun k hk => by have := (o2.bounds k hk).1; have := Z.out; omega)
  have O1 := Lib.hid o1
  have O2 := Lib.hid o2
  clear hs hW hn hm o1 o2 hrng
  unfold recVal
  go_wp2_with (refine wpList_store_mid rfl 39 (.tmp 1) (.tmp 4) rfl w.heap.size 0 (recCells s (.slice a1 n q1) (.slice a2 m q2)).toArray rfl rfl (blk_there K1.out 15 (Nat.le_refl _)) (by kernel_rfl) (rec_one ..) ?_)
  have kp := Kept.setCells (b := w.heap.size) (recCells s (.slice a1 n q1) (.slice a2 m q2)) 0 _ (Kept.refl _ w1)
  have Y1 := OwnS.kept O1.out kp (fun a k c hv hs => by have := P1.out a.block (by rw [hv]; rfl); omega)
  have Y2 := OwnS.kept O2.out kp (fun a k c hv hs => by have := P2.out a.block (by rw [hv]; rfl); omega)
  have B5 := B1.out.trans (kp.below (n := w.heap.size) (fun k h => by omega) B1.out.size)
  have X := rec_laid (s := s) (rv := .slice a1 n q1) (ev := .slice a2 m q2) K1.out rfl
  go_ret
  exact ⟨_, rfl, Nat.le_refl _, ⟨_, _, X, Y1.mono (by have := Z.out; omega), Y2.mono (by have := Z.out; omega)⟩, B5⟩
end Go.Proofs.Ytkkmfacngmginaa
