/- Layer 9's laws' own 'few', the document's Right, by contracts; steps that came in. -/
import Derived.Test.YtkkmfacngmginaaMmDo
import Derived.Test.YtkkmfacngmginaaMmOps
namespace Go.Proofs.Ytkkmfacngmginaa
open Go.RowKit

theorem DM.cells_one (d : DM) : ∀ u ∈ d.cells, u.oneCell' = true := fun u h => by
  simp only [DM.cells, List.mem_cons] at h
  rcases h with h | h | h | h | h | h | h | h | h
  iterate 8 (first | (subst h; rfl) | skip)
  all_goals first | exact d.r.cells_one u h | (subst h; rfl)
def lDm : Lay DM := ⟨52, 23, DM.cells, fun _ => rfl, DM.cells_one⟩
theorem okB_no {l : Lim} (h : l.s < 4 ∨ 4096 < l.s ∨ l.p < 3 ∨ 256 < l.p ∨ l.t < 1 ∨ 64 < l.t ∨ l.r < 2 ∨ 64 < l.r ∨ l.h < 2 ∨ 64 < l.h ∨ l.c < 8 ∨ 1099511627776 < l.c) : false = l.okB := by
  symm
  rw [Bool.eq_false_iff]
  intro e
  unfold Lim.okB inB at e
  simp only [Bool.and_eq_true, decide_eq_true_eq] at e
  omega
theorem okB_last {l : Lim} (h1 : 4 ≤ l.s) (h2 : l.s ≤ 4096) (h3 : 3 ≤ l.p) (h4 : l.p ≤ 256) (h5 : 1 ≤ l.t) (h6 : l.t ≤ 64) (h7 : 2 ≤ l.r) (h8 : l.r ≤ 64) (h9 : 2 ≤ l.h) (h10 : l.h ≤ 64) (h11 : 8 ≤ l.c) : decide (l.c ≤ 1099511627776) = l.okB := by
  unfold Lim.okB inB
  rw [decide_eq_true h1, decide_eq_true h2, decide_eq_true h3, decide_eq_true h4, decide_eq_true h5, decide_eq_true h6, decide_eq_true h7, decide_eq_true h8, decide_eq_true h9, decide_eq_true h10, decide_eq_true h11]
  rfl
/-- it answers some bool -/
def SomeB (w : World) (e : Ending) (w' : World) : Prop := ∃ b : Bool, e = .returned (.bool b) ∧ Below w.heap.size w w'
theorem SomeB.of {w w' : World} {b : Bool} (h : Below w.heap.size w w') : SomeB w (.returned (.bool b)) w' := ⟨b, rfl, h⟩
set_option maxRecDepth 100000 in
set_option maxHeartbeats 4000000 in
theorem rRight_any (l : Lim) (w : World) : Calls Try.prog 36 #[limV l] w fun ev w' => ev = .returned (.bool l.okB) ∧ Below w.heap.size w w' := by
  have B0 := Lib.hid (alloc_below0 w (limObj l))
  have L0 := Lib.hid (LimAt.new w l)
  have x0 := L0.out.c0
  have x1 := L0.out.c1
  have x2 := L0.out.c2
  have x3 := L0.out.c3
  have x4 := L0.out.c4
  have x5 := L0.out.c5
  unfold limV
  unfold limObj at B0 L0 x0 x1 x2 x3 x4 x5
  go_enter Try.func36, Try.ntmps36
  go_wp2
  all_goals (go_ret; refine ⟨congrArg (fun b => Ending.returned (Value.bool b)) ?_, B0.out⟩; first | exact okB_no (by omega) | exact okB_last (by omega) (by omega) (by omega) (by omega) (by omega) (by omega) (by omega) (by omega) (by omega) (by omega) (by omega))
theorem there_new (w : World) (zs : Array Value) (ty : TypeId) : (w.alloc (.cells zs ty)).there w.heap.size 0 zs.size := fun j hj => by
  refine ⟨?_, World.frozen?_alloc_at _ _ _ _ rfl⟩
  rw [World.cell?_alloc_at _ _ _ _ rfl, Nat.zero_add]
  simp [hj]
/-- a struct laid into a new block of its own -/
theorem put_new (w : World) (zs : Array Value) (ty : TypeId) (cs : List Value) (hn : zs.size = cs.length) :
    Below w.heap.size w ((w.alloc (.cells zs ty)).setCells w.heap.size 0 cs) ∧ ((w.alloc (.cells zs ty)).setCells w.heap.size 0 cs).rangeAt w.heap.size 0 cs :=
  ⟨below_setCells (Nat.le_refl _) cs 0 _ (alloc_below0 w _), World.rangeAt_setCells_same _ _ _ _ (hn ▸ there_new w zs ty)⟩
theorem dm_obj (d : DM) : dmObj d = .cells d.cells.toArray 52 := rfl
/-- a step laid into a new block -/
theorem dm_put (w : World) (zs : Array Value) (d : DM) (hz : zs.size = d.cells.length) :
    Below w.heap.size w ((w.alloc (.cells zs 52)).setCells w.heap.size 0 d.cells) ∧ ((w.alloc (.cells zs 52)).setCells w.heap.size 0 d.cells).heap[w.heap.size]? = some (dmObj d) :=
  ⟨(put_new w zs 52 d.cells hz).1, by rw [dm_obj]; exact list_laid d.cells (blk_new w (.cells zs 52)) hz⟩
set_option maxRecDepth 100000 in
set_option maxHeartbeats 4000000 in
theorem few_any (l : Lim) (v : Value) (ds : List DM) (w : World) (hv : SV lDm w v ds) : Calls Try.prog 35 #[limV l, v] w (SomeB w) := by
  have V := Lib.hid (hv.below (alloc_below0 w (limObj l)))
  have B0 := Lib.hid (alloc_below0 w (limObj l))
  have L0 := Lib.hid (LimAt.new w l)
  have fr := fun w => rRight_any l w
  obtain ⟨a, c, rfl, hlc, hcm⟩ := hv.lenform
  obtain ⟨n, hn⟩ : ∃ n, ds.length = n := ⟨_, rfl⟩
  have LN := Lib.hid hn
  rw [hn] at V hlc ⊢
  unfold maxLen at hcm
  clear hv hn
  unfold limV at fr ⊢
  unfold limObj at B0 L0 V
  go_enter Try.func35, Try.ntmps35
  go_wp2
  go_loopg [9] n (fun r i wz => ∃ k : Nat, k + r = n ∧ i = .int .i64 k ∧ Below (w.heap.size + 1) (w.alloc (.cells #[.int .i64 l.s, .int .i64 l.p, .int .i64 l.t, .int .i64 l.r, .int .i64 l.h, .int .i64 l.c] 80)) wz)
  case atStart => exact ⟨0, by omega, rfl, Below.refl _ _⟩
  case round =>
    obtain ⟨k, hk, rfl, hB⟩ := hrel
    have A := Lib.hid (show Below (w.heap.size + 1) (w.alloc (.cells #[.int .i64 l.s, .int .i64 l.p, .int .i64 l.t, .int .i64 l.r, .int .i64 l.h, .int .i64 l.c] 80)) wr ∧ k + gk = n from ⟨hB, hk⟩)
    have BA := Lib.hid (B0.out.trans (hB.mono (by omega)))
    have sz : (w.alloc (.cells #[.int .i64 l.s, .int .i64 l.p, .int .i64 l.t, .int .i64 l.r, .int .i64 l.h, .int .i64 l.c] 80)).heap.size = w.heap.size + 1 := by simp
    have VA := Lib.hid (V.out.below (hB.mono (by omega)))
    have LA := Lib.hid (L0.out.step (hB.mono (by omega)))
    clear hB sz
    by_cases hlt : k < n
    · obtain ⟨b, off, ha⟩ := VA.out.addr (by rw [LN.out]; omega)
      subst ha
      obtain ⟨d, hx⟩ : ∃ d, ds[k]? = some d := ⟨_, List.getElem?_eq_getElem (by rw [LN.out]; exact hlt)⟩
      have hrng : wr.rangeAt b (off + k * 23) d.cells := fun j v hj => VA.out.cellAt (j := j) hx hj
      have i1 : IntKind.i64.wrap ((k : Int) + 1) = (k : Int) + 1 := Go.IntWalk.i64_in _ (by omega)
      clear hx
      go_wp2_with (first
        | (refine wpList_load_mid rfl 52 (.tmp 11) rfl b (off + k * 23) rfl d.cells _ hrng Try.underlying52 rfl (by kernel_rfl) ?_)
        | (refine wpList_store_mid rfl 52 (.tmp 6) (.tmp 12) rfl wr.heap.size 0 d.cells.toArray rfl rfl (there_new wr _ _) (by kernel_rfl) (all_oneCell_toArray d.cells_one) ?_
           generalize hw2 : World.setCells _ _ _ _ = w2
           have hq := Lib.hid (show Below wr.heap.size wr w2 ∧ w2.rangeAt wr.heap.size 0 d.cells by rw [← hw2]; exact put_new wr _ _ d.cells rfl)
           have z6 : w2.cell? ⟨wr.heap.size, 13, none⟩ = some (.slice d.r.ra d.r.rn d.r.rc) := hq.out.2 13 _ rfl
           have z7 : w2.cell? ⟨wr.heap.size, 14, none⟩ = some (.slice d.r.ea d.r.en d.r.ec) := hq.out.2 14 _ rfl
           have BB := Lib.hid (A.out.1.trans (hq.out.1.mono (by have := A.out.1.size; simpa using this)))
           have BC := Lib.hid (BA.out.trans (hq.out.1.mono BA.out.size))
           clear hw2))
      all_goals first
        | (go_roundg (n - (k + 1))
           case measure => have := A.out.2; omega
           case rel => exact ⟨k + 1, by omega, by go_num, BB.out⟩)
        | (go_ret
           exact SomeB.of BC.out)
    · have x0 := LA.out.c0
      have x1 := LA.out.c1
      have x2 := LA.out.c2
      have x3 := LA.out.c3
      have x4 := LA.out.c4
      have x5 := LA.out.c5
      go_wp2_with (go_at_call 36; refine (fr _).mono ?_; rintro ev wq ⟨rfl, hq⟩)
      all_goals (go_ret; first | exact SomeB.of BA.out | exact SomeB.of (BA.out.trans (hq.mono BA.out.size)))
end Go.Proofs.Ytkkmfacngmginaa
