/- The document's own New (layer 9), by a contract. -/
import Derived.Test.YtkkmfacngmginaaDoorMmOpsB
import Derived.Test.YtkkmfacngmginaaDoorArRj
import Derived.Test.YtkkmfacngmginaaDoorMpRj
import Derived.Test.YtkkmfacngmginaaDoorEpRf
namespace Go.Proofs.YtkkmfacngmginaaDoor
open Go.RowKit

theorem OwnS.offT {α : Type} {E : Lay α} {b : Nat} {w : World} {v : Value} {xs : List α} (h : OwnS E b w v xs) {g : Nat} {cs : Array Value} {T : TypeId} (hb : w.heap[g]? = some (.cells cs T (0, 0))) (hne : E.ty ≠ T) : Out (fun x => x = g) v := fun a m d hv hs => by
  obtain ⟨_, h⟩ := h
  rcases h with ⟨rfl, -⟩ | ⟨q, cap, cur, rfl, -, hg, -⟩
  · cases hv
  · obtain ⟨e, -, -⟩ := Value.slice.inj hv
    obtain rfl := Option.some.inj e
    obtain rfl : q = g := hs
    have h1 := Option.some.inj (hg.symm.trans hb)
    exact hne (Obj.cells.inj h1).2.1
theorem blk_thereAt {w : World} {b : Nat} {cs : Array Value} {T : TypeId} (h : w.heap[b]? = some (.cells cs T (0, 0))) (o n : Nat) (hn : o + n ≤ cs.size) : w.there b o n := fun j hj => by
  refine ⟨?_, blk_free h _⟩
  rw [blk_cell h, Array.getElem?_eq_getElem (by omega)]
  rfl
theorem blk_set2 {w : World} {b : Nat} {cs : Array Value} {T : TypeId} (h : w.heap[b]? = some (.cells cs T (0, 0))) (o : Nat) (x y : Value) : (w.setCells b o ([x, y] : List Value).toArray.toList).heap[b]? = some (.cells ((cs.setIfInBounds o x).setIfInBounds (o + 1) y) T (0, 0)) := blk_set (blk_set h o x) (o + 1) y
theorem blk_set3 {w : World} {b : Nat} {cs : Array Value} {T : TypeId} (h : w.heap[b]? = some (.cells cs T (0, 0))) (o : Nat) (x y z : Value) : (w.setCells b o ([x, y, z] : List Value).toArray.toList).heap[b]? = some (.cells (((cs.setIfInBounds o x).setIfInBounds (o + 1) y).setIfInBounds (o + 1 + 1) z) T (0, 0)) := blk_set (blk_set (blk_set h o x) (o + 1) y) (o + 1 + 1) z
/-- puts whose records have no rows and entries -/
def Bare (us : List PuD) : Prop := ∀ d ∈ us, d.rv = .slice none 0 0 ∧ d.en = .slice none 0 0
theorem Bare.puts {b : Nat} {w : World} {v : Value} {us : List PuD} (h : Bare us) (ho : OwnS lPut b w v us) : PutsV w v us := by
  refine ⟨ho.sv, fun d hd => ?_⟩
  obtain ⟨h1, h2⟩ := h d hd
  have e1 : d.rows = [] := by
    unfold PuD.rv at h1
    obtain ⟨-, h, -⟩ := Value.slice.inj h1
    exact List.eq_nil_of_length_eq_zero h
  have e2 : d.ents = [] := by
    unfold PuD.en at h2
    obtain ⟨-, h, -⟩ := Value.slice.inj h2
    exact List.eq_nil_of_length_eq_zero h
  rw [h1, h2, e1, e2]
  exact ⟨SV.nil _ _, SV.nil _ _⟩
theorem Bare.next {us us' : List PuD} {sc : Sc} {d : RecD} (h : Bare us) (hh : ∀ e ∈ us', (∃ e0 ∈ us, Heir e e0) ∨ (recVal sc (.slice none 0 0) (.slice none 0 0) = recVal e.sc e.rv e.en ∧ e.rows = d.rows ∧ e.ents = d.ents)) : Bare us' := fun e he => by
  rcases hh e he with ⟨e0, h0, h1⟩ | ⟨h1, -⟩
  · rw [h1.1, h1.2.1]; exact h e0 h0
  · unfold recVal at h1
    simp only [Value.agg.injEq, Array.mk.injEq, List.cons.injEq] at h1
    exact ⟨h1.2.2.2.2.2.1.symm, h1.2.2.2.2.2.2.1.symm⟩
theorem NewP.own {w w' : World} {v v' : Value} {us us' : List PuD} (h : NewP w w' v v' us us') (hne : us' ≠ us) : OwnS lPut w.heap.size w' v' us' := h.elim id (fun h => absurd h.2 hne)
/-- the document's memory -/
def memR (l : LimN) (pv tv cv : Value) (c : Ck) : Value := .agg #[.int .i64 (l.s : Int), .int .i64 (l.p : Int), .int .i64 (l.t : Int), .int .i64 (l.r : Int), .int .i64 (l.h : Int), .int .i64 (l.c : Int), .int .i64 (l.s : Int), .int .i64 (l.c : Int), pv, .int .i64 (l.p : Int), tv, .int .i64 c.n, .int .i64 c.l, cv, .int .i64 0]
def mrObj (l : LimN) (x0 x1 pv y0 tv z0 z1 cv : Value) : Obj := .cells #[.int .i64 (l.s : Int), .int .i64 (l.p : Int), .int .i64 (l.t : Int), .int .i64 (l.r : Int), .int .i64 (l.h : Int), .int .i64 (l.c : Int), x0, x1, pv, y0, tv, z0, z1, cv, .int .i64 0] 90
def mrZ : Obj := .cells #[.int .i64 0, .int .i64 0, .int .i64 0, .int .i64 0, .int .i64 0, .int .i64 0, .int .i64 0, .int .i64 0, .slice none 0 0, .int .i64 0, .slice none 0 0, .int .i64 0, .int .i64 0, .slice none 0 0, .int .i64 0] 90
set_option maxRecDepth 100000 in
set_option maxHeartbeats 8000000 in
theorem rNew_any (l : LimN) (h : l.ok) (w : World) :
    Calls Tryd.prog 32 #[limV l.z] w fun ev w' => ∃ pv us tv ups cv, ev = .returned (memR l pv tv cv (Ck.new l.t l.c)) ∧ OwnS lPut 0 w' pv us ∧ Bare us ∧ us.map PuD.pt = psB ∧ OwnS lUp 0 w' tv ups ∧ RefOk ups (pgs1 l.p) ∧ ups.length ≤ 1 ∧ (∃ a n c, cv = Value.slice a n c) ∧ Below w.heap.size w w' := by
  have OK := Lib.hid h
  have OKN := Lib.hid (show okN (l.s : Int) (l.c : Int) = true by
    have := h.s1; have := h.s2; have := h.c1; have := h.c2
    unfold okN
    rw [decide_eq_true (show (1 : Int) ≤ l.s by omega), decide_eq_true (show (l.s : Int) ≤ 4096 by omega), decide_eq_true (show (1 : Int) ≤ l.c by omega), decide_eq_true (show (l.c : Int) ≤ 1099511627776 by omega)]; rfl)
  have OKT := Lib.hid (show Ck.may (l.t : Int) (l.c : Int) by have := h.t1; have := h.t2; have := h.c1; have := h.c2; unfold Ck.may; omega)
  obtain ⟨t1, t2, t3⟩ := take0 (p := l.p) (by have := h.p1; omega)
  obtain ⟨sw1, sw2, sw3⟩ := swap0 l.p
  have TK := Lib.hid (show _ ∧ _ ∧ _ from ⟨t1, t2, t3⟩)
  have SW := Lib.hid (show _ ∧ _ ∧ _ from ⟨sw1, sw2, sw3⟩)
  have AL := Lib.hid (show allocM l.s l.c [] = (1, 1, 0) ∧ putM l.s l.c [] baseD = psB from ⟨allocM0 (by have := h.s1; omega) (by have := h.c1; omega), putM0 (by have := h.s1; omega) (by have := h.c1; omega)⟩)
  clear t1 t2 t3 sw1 sw2 sw3 h
  have L0 := limObj l.z
  clear L0
  obtain ⟨W0, hW0⟩ : ∃ W, W = ((w.alloc (limObj l.z)).alloc mrZ).alloc (mrObj l (.int .i64 0) (.int .i64 0) (.slice none 0 0) (.int .i64 0) (.slice none 0 0) (.int .i64 0) (.int .i64 0) (.slice none 0 0)) := ⟨_, rfl⟩
  have b0 : Below w.heap.size w W0 := by rw [hW0]; exact ((alloc_below0 _ _).trans ((alloc_below0 _ _).mono (alloc_below0 w _).size)).trans ((alloc_below0 _ _).mono (by simp; omega))
  have B0 := Lib.hid b0
  have LM_0 := Lib.hid (show W0.heap[w.heap.size]? = some (limObj l.z) from by rw [hW0]; exact blk_step (blk_step (blk_new w _) (alloc_below0 _ _)) (alloc_below0 _ _))
  have R_0 := Lib.hid (show W0.heap[w.heap.size + 1]? = some mrZ from by rw [hW0, show w.heap.size + 1 = (w.alloc (limObj l.z)).heap.size by simp]; exact blk_step (blk_new _ _) (alloc_below0 _ _))
  have N_0 := Lib.hid (show W0.heap[w.heap.size + 1 + 1]? = some (mrObj l (.int .i64 0) (.int .i64 0) (.slice none 0 0) (.int .i64 0) (.slice none 0 0) (.int .i64 0) (.int .i64 0) (.slice none 0 0)) from by rw [hW0, show w.heap.size + 1 + 1 = ((w.alloc (limObj l.z)).alloc mrZ).heap.size by simp]; exact blk_new _ _)
  have Z0 := Lib.hid (show W0.heap.size = w.heap.size + 3 by rw [hW0]; simp)
  unfold limObj mrZ mrObj LimN.z at hW0
  unfold limObj LimN.z at LM_0
  clear b0
  unfold limV LimN.z
  go_enter Tryd.func32, Tryd.ntmps32
  go_wp2_with fail
  rw [← hW0]
  clear hW0
  refine (ar_rf_new l.s l.c _ OKN.out).mono ?_
  rintro ev w1 ⟨rfl, hs⟩
  have B1 := Lib.hid (B0.out.trans (hs.mono B0.out.size))
  have LM_1 := Lib.hid (blk_step LM_0.out hs)
  have R_1 := Lib.hid (blk_step R_0.out hs)
  have N_1 := Lib.hid (blk_step N_0.out hs)
  clear B0 LM_0 R_0 N_0
  clear hs
  unfold refA
  have ks : Kept (fun k => k = w.heap.size + 1 + 1) w1 (World.setCells w1 (w.heap.size + 1 + 1) 6 ([.int .i64 (l.s : Int), .int .i64 (l.c : Int), .slice none 0 0] : List Value).toArray.toList) := Kept.setCells _ 6 w1 (Kept.refl (fun k => k = w.heap.size + 1 + 1) w1)
  have B2 := Lib.hid (show Below w.heap.size w (World.setCells w1 (w.heap.size + 1 + 1) 6 ([.int .i64 (l.s : Int), .int .i64 (l.c : Int), .slice none 0 0] : List Value).toArray.toList) from below_setCells (b := w.heap.size + 1 + 1) (by first | omega | (have := S4.out; omega) | (have := S4.out; have := S5.out; omega)) _ 6 _ B1.out)
  have th := Lib.hid (blk_thereAt N_1.out 6 3 (by simp))
  have LM_2 := Lib.hid ((ks.block _ (Array.getElem?_eq_some_iff.1 LM_1.out).1 (by first | omega | (have := S4.out; omega) | (have := S4.out; have := S5.out; omega))).trans LM_1.out)
  have R_2 := Lib.hid ((ks.block _ (Array.getElem?_eq_some_iff.1 R_1.out).1 (by first | omega | (have := S4.out; omega) | (have := S4.out; have := S5.out; omega))).trans R_1.out)
  have N_2 := Lib.hid (show ((World.setCells w1 (w.heap.size + 1 + 1) 6 ([.int .i64 (l.s : Int), .int .i64 (l.c : Int), .slice none 0 0] : List Value).toArray.toList)).heap[w.heap.size + 1 + 1]? = some (mrObj l (.int .i64 (l.s : Int)) (.int .i64 (l.c : Int)) (.slice none 0 0) (.int .i64 0) (.slice none 0 0) (.int .i64 0) (.int .i64 0) (.slice none 0 0)) from blk_set3 N_1.out 6 (.int .i64 (l.s : Int)) (.int .i64 (l.c : Int)) (.slice none 0 0))
  clear ks B1 LM_1 R_1 N_1
  have l_1 := blk_cell LM_2.out 1
  simp at l_1
  go_wp2_with (refine wpList_store_mid rfl 82 (.tmp 20) (.tmp 18) rfl (w.heap.size + 1 + 1) 6 ([.int .i64 (l.s : Int), .int .i64 (l.c : Int), .slice none 0 0] : List Value).toArray rfl rfl ?_ (by kernel_rfl) ?one ?_; (case one => first | rfl | (kernel_rfl) | (exact all_oneCell_toArray (fun u h => by simp at h; rcases h with h | h | h <;> subst h <;> rfl))); exact th.out; clear th; generalize hG : World.setCells _ _ _ _ = x1 at *; clear hG)
  refine (mp_rf_new l.p _).mono ?_
  rintro ev w2 ⟨rfl, hs⟩
  clear l_1
  have B3 := Lib.hid (B2.out.trans (hs.mono B2.out.size))
  have LM_3 := Lib.hid (blk_step LM_2.out hs)
  have R_3 := Lib.hid (blk_step R_2.out hs)
  have N_3 := Lib.hid (blk_step N_2.out hs)
  clear B2 LM_2 R_2 N_2
  clear hs
  unfold refT
  have ks : Kept (fun k => k = w.heap.size + 1 + 1) w2 (World.setCells w2 (w.heap.size + 1 + 1) 9 ([.int .i64 (l.p : Int), .slice none 0 0] : List Value).toArray.toList) := Kept.setCells _ 9 w2 (Kept.refl (fun k => k = w.heap.size + 1 + 1) w2)
  have B4 := Lib.hid (show Below w.heap.size w (World.setCells w2 (w.heap.size + 1 + 1) 9 ([.int .i64 (l.p : Int), .slice none 0 0] : List Value).toArray.toList) from below_setCells (b := w.heap.size + 1 + 1) (by first | omega | (have := S4.out; omega) | (have := S4.out; have := S5.out; omega)) _ 9 _ B3.out)
  have th := Lib.hid (blk_thereAt N_3.out 9 2 (by simp))
  have LM_4 := Lib.hid ((ks.block _ (Array.getElem?_eq_some_iff.1 LM_3.out).1 (by first | omega | (have := S4.out; omega) | (have := S4.out; have := S5.out; omega))).trans LM_3.out)
  have R_4 := Lib.hid ((ks.block _ (Array.getElem?_eq_some_iff.1 R_3.out).1 (by first | omega | (have := S4.out; omega) | (have := S4.out; have := S5.out; omega))).trans R_3.out)
  have N_4 := Lib.hid (show ((World.setCells w2 (w.heap.size + 1 + 1) 9 ([.int .i64 (l.p : Int), .slice none 0 0] : List Value).toArray.toList)).heap[w.heap.size + 1 + 1]? = some (mrObj l (.int .i64 (l.s : Int)) (.int .i64 (l.c : Int)) (.slice none 0 0) (.int .i64 (l.p : Int)) (.slice none 0 0) (.int .i64 0) (.int .i64 0) (.slice none 0 0)) from blk_set2 N_3.out 9 (.int .i64 (l.p : Int)) (.slice none 0 0))
  clear ks B3 LM_3 R_3 N_3
  have l_2 := blk_cell LM_4.out 2
  have l_5 := blk_cell LM_4.out 5
  simp at l_2 l_5
  go_wp2_with (refine wpList_store_mid rfl 85 (.tmp 27) (.tmp 25) rfl (w.heap.size + 1 + 1) 9 ([.int .i64 (l.p : Int), .slice none 0 0] : List Value).toArray rfl rfl ?_ (by kernel_rfl) ?one ?_; (case one => first | rfl | (kernel_rfl) | (exact all_oneCell_toArray (fun u h => by simp at h; rcases h with h | h | h <;> subst h <;> rfl))); exact th.out; clear th; generalize hG : World.setCells _ _ _ _ = x2 at *; clear hG)
  refine (ep_rf_new l.t l.c _ OKT.out).mono ?_
  rintro ev w3 ⟨cv, rfl, hcv, hs⟩
  obtain ⟨ca, cc, rfl, -, -⟩ := hcv.sv.lenform
  clear l_2 l_5
  have B5 := Lib.hid (B4.out.trans (hs.mono B4.out.size))
  have LM_5 := Lib.hid (blk_step LM_4.out hs)
  have R_5 := Lib.hid (blk_step R_4.out hs)
  have N_5 := Lib.hid (blk_step N_4.out hs)
  clear B4 LM_4 R_4 N_4
  have CV_0 := Lib.hid (hcv.mono (Nat.zero_le _))
  clear hs hcv
  unfold refC
  have ks : Kept (fun k => k = w.heap.size + 1 + 1) w3 (World.setCells w3 (w.heap.size + 1 + 1) 11 ([.int .i64 (Ck.new l.t (l.c : Int)).n, .int .i64 (Ck.new l.t (l.c : Int)).l, .slice ca (Ck.new l.t l.c).L.length cc] : List Value).toArray.toList) := Kept.setCells _ 11 w3 (Kept.refl (fun k => k = w.heap.size + 1 + 1) w3)
  have B6 := Lib.hid (show Below w.heap.size w (World.setCells w3 (w.heap.size + 1 + 1) 11 ([.int .i64 (Ck.new l.t (l.c : Int)).n, .int .i64 (Ck.new l.t (l.c : Int)).l, .slice ca (Ck.new l.t l.c).L.length cc] : List Value).toArray.toList) from below_setCells (b := w.heap.size + 1 + 1) (by first | omega | (have := S4.out; omega) | (have := S4.out; have := S5.out; omega)) _ 11 _ B5.out)
  have th := Lib.hid (blk_thereAt N_5.out 11 3 (by simp))
  have LM_6 := Lib.hid ((ks.block _ (Array.getElem?_eq_some_iff.1 LM_5.out).1 (by first | omega | (have := S4.out; omega) | (have := S4.out; have := S5.out; omega))).trans LM_5.out)
  have R_6 := Lib.hid ((ks.block _ (Array.getElem?_eq_some_iff.1 R_5.out).1 (by first | omega | (have := S4.out; omega) | (have := S4.out; have := S5.out; omega))).trans R_5.out)
  have N_6 := Lib.hid (show ((World.setCells w3 (w.heap.size + 1 + 1) 11 ([.int .i64 (Ck.new l.t (l.c : Int)).n, .int .i64 (Ck.new l.t (l.c : Int)).l, .slice ca (Ck.new l.t l.c).L.length cc] : List Value).toArray.toList)).heap[w.heap.size + 1 + 1]? = some (mrObj l (.int .i64 (l.s : Int)) (.int .i64 (l.c : Int)) (.slice none 0 0) (.int .i64 (l.p : Int)) (.slice none 0 0) (.int .i64 (Ck.new l.t (l.c : Int)).n) (.int .i64 (Ck.new l.t (l.c : Int)).l) (.slice ca (Ck.new l.t l.c).L.length cc)) from blk_set3 N_5.out 11 (.int .i64 (Ck.new l.t (l.c : Int)).n) (.int .i64 (Ck.new l.t (l.c : Int)).l) (.slice ca (Ck.new l.t l.c).L.length cc))
  have CV_1 := Lib.hid (CV_0.out.kept ks (CV_0.out.offT N_5.out (by decide)))
  clear ks B5 LM_5 R_5 N_5 CV_0
  have fal := fun w => rf_alloc l.s l.c (.slice none 0 0) _ [] baseD w ((show Bare [] from fun _ h => by cases h).puts (OwnS.nil lPut 0 w)) (base_reads w) (by decide) OK.out.s2 OK.out.c2
  simp only [List.map_nil, AL.out.1, AL.out.2, refA] at fal
  have n_6 := blk_cell N_6.out 6
  have n_7 := blk_cell N_6.out 7
  have n_8 := blk_cell N_6.out 8
  simp at n_6 n_7 n_8
  go_wp2_with (refine wpList_store_mid rfl 88 (.tmp 36) (.tmp 34) rfl (w.heap.size + 1 + 1) 11 ([.int .i64 (Ck.new l.t (l.c : Int)).n, .int .i64 (Ck.new l.t (l.c : Int)).l, .slice ca (Ck.new l.t l.c).L.length cc] : List Value).toArray rfl rfl ?_ (by kernel_rfl) ?one ?_; (case one => first | rfl | (kernel_rfl) | (exact all_oneCell_toArray (fun u h => by simp at h; rcases h with h | h | h <;> subst h <;> rfl))); exact th.out; clear th; generalize hG : World.setCells _ _ _ _ = x3 at *; clear hG)
  refine (fal _).mono ?_
  rintro ev w4 ⟨pv, us, rfl, -, hpm, -, ⟨hnp, hbr⟩, hs⟩
  have hne : us ≠ [] := fun e => by rw [e] at hpm; cases hpm
  have ho := hnp.own hne
  have hbu := Bare.next (us := []) (fun _ h => by cases h) hbr
  clear hnp hbr hne fal n_6 n_7 n_8
  have B7 := Lib.hid (B6.out.trans (hs.mono B6.out.size))
  have LM_7 := Lib.hid (blk_step LM_6.out hs)
  have R_7 := Lib.hid (blk_step R_6.out hs)
  have N_7 := Lib.hid (blk_step N_6.out hs)
  have CV_2 := Lib.hid (CV_1.out.below hs)
  clear B6 LM_6 R_6 N_6 CV_1
  have PV_0 := Lib.hid (ho.mono (Nat.zero_le _))
  have PM := Lib.hid (And.intro hpm hbu)
  obtain ⟨pa, pc, rfl, -, -⟩ := ho.sv.lenform
  clear hs ho hpm hbu
  obtain ⟨un, hun⟩ : ∃ n, us.length = n := ⟨_, rfl⟩
  have UN := Lib.hid hun
  rw [hun] at PV_0 ⊢
  clear hun
  unfold refV
  have hs := (alloc_below0 w4 (.cells #[.int .i64 (l.s : Int), .int .i64 (l.c : Int), .slice pa un pc] 82)).trans ((alloc_below0 (World.alloc w4 (.cells #[.int .i64 (l.s : Int), .int .i64 (l.c : Int), .slice pa un pc] 82)) (.cells #[.int .i64 1, .int .i64 1] 30)).mono (alloc_below0 w4 (.cells #[.int .i64 (l.s : Int), .int .i64 (l.c : Int), .slice pa un pc] 82)).size)
  have S4 := Lib.hid (show w.heap.size + 1 + 1 < w4.heap.size from (Array.getElem?_eq_some_iff.1 N_7.out).1)
  have B8 := Lib.hid (B7.out.trans (hs.mono B7.out.size))
  have LM_8 := Lib.hid (blk_step LM_7.out hs)
  have R_8 := Lib.hid (blk_step R_7.out hs)
  have N_8 := Lib.hid (blk_step N_7.out hs)
  have CV_3 := Lib.hid (CV_2.out.below hs)
  have PV_1 := Lib.hid (PV_0.out.below hs)
  clear B7 LM_7 R_7 N_7 CV_2 PV_0
  clear hs
  have A4_0 := Lib.hid (blk_step (blk_new w4 (.cells #[.int .i64 (l.s : Int), .int .i64 (l.c : Int), .slice pa un pc] 82)) (alloc_below0 (World.alloc w4 (.cells #[.int .i64 (l.s : Int), .int .i64 (l.c : Int), .slice pa un pc] 82)) (.cells #[.int .i64 1, .int .i64 1] 30)))
  have R5_0 := Lib.hid (show (World.alloc (World.alloc w4 (.cells #[.int .i64 (l.s : Int), .int .i64 (l.c : Int), .slice pa un pc] 82)) (.cells #[.int .i64 1, .int .i64 1] 30)).heap[w4.heap.size + 1]? = some (.cells #[.int .i64 1, .int .i64 1] 30) from by rw [show w4.heap.size + 1 = (World.alloc w4 (.cells #[.int .i64 (l.s : Int), .int .i64 (l.c : Int), .slice pa un pc] 82)).heap.size by simp]; exact blk_new _ _)
  obtain ⟨gw, hgw⟩ : ∃ W, W = (World.alloc (World.alloc w4 (.cells #[.int .i64 (l.s : Int), .int .i64 (l.c : Int), .slice pa un pc] 82)) (.cells #[.int .i64 1, .int .i64 1] 30)) := ⟨_, rfl⟩
  rw [← hgw] at B8 LM_8 R_8 N_8 A4_0 R5_0 CV_3 PV_1
  have ks : Kept (fun k => k = w.heap.size + 1 + 1) gw (World.setCells gw (w.heap.size + 1 + 1) 6 ([.int .i64 (l.s : Int), .int .i64 (l.c : Int), .slice pa un pc] : List Value).toArray.toList) := Kept.setCells _ 6 gw (Kept.refl (fun k => k = w.heap.size + 1 + 1) gw)
  have B9 := Lib.hid (show Below w.heap.size w (World.setCells gw (w.heap.size + 1 + 1) 6 ([.int .i64 (l.s : Int), .int .i64 (l.c : Int), .slice pa un pc] : List Value).toArray.toList) from below_setCells (b := w.heap.size + 1 + 1) (by first | omega | (have := S4.out; omega) | (have := S4.out; have := S5.out; omega)) _ 6 _ B8.out)
  have th := Lib.hid (blk_thereAt N_8.out 6 3 (by simp))
  have LM_9 := Lib.hid ((ks.block _ (Array.getElem?_eq_some_iff.1 LM_8.out).1 (by first | omega | (have := S4.out; omega) | (have := S4.out; have := S5.out; omega))).trans LM_8.out)
  have R_9 := Lib.hid ((ks.block _ (Array.getElem?_eq_some_iff.1 R_8.out).1 (by first | omega | (have := S4.out; omega) | (have := S4.out; have := S5.out; omega))).trans R_8.out)
  have N_9 := Lib.hid (show ((World.setCells gw (w.heap.size + 1 + 1) 6 ([.int .i64 (l.s : Int), .int .i64 (l.c : Int), .slice pa un pc] : List Value).toArray.toList)).heap[w.heap.size + 1 + 1]? = some (mrObj l (.int .i64 (l.s : Int)) (.int .i64 (l.c : Int)) (.slice pa un pc) (.int .i64 (l.p : Int)) (.slice none 0 0) (.int .i64 (Ck.new l.t (l.c : Int)).n) (.int .i64 (Ck.new l.t (l.c : Int)).l) (.slice ca (Ck.new l.t l.c).L.length cc)) from blk_set3 N_8.out 6 (.int .i64 (l.s : Int)) (.int .i64 (l.c : Int)) (.slice pa un pc))
  have A4_1 := Lib.hid ((ks.block _ (Array.getElem?_eq_some_iff.1 A4_0.out).1 (by first | omega | (have := S4.out; omega) | (have := S4.out; have := S5.out; omega))).trans A4_0.out)
  have R5_1 := Lib.hid ((ks.block _ (Array.getElem?_eq_some_iff.1 R5_0.out).1 (by first | omega | (have := S4.out; omega) | (have := S4.out; have := S5.out; omega))).trans R5_0.out)
  have CV_4 := Lib.hid (CV_3.out.kept ks (CV_3.out.offT N_8.out (by decide)))
  have PV_2 := Lib.hid (PV_1.out.kept ks (PV_1.out.offT N_8.out (by decide)))
  clear ks B8 LM_8 R_8 N_8 A4_0 R5_0 CV_3 PV_1
  have n_9 := blk_cell N_9.out 9
  have n_10 := blk_cell N_9.out 10
  simp at n_9 n_10
  have fta := fun w => rf_take l.p (.slice none 0 0) [] (pages0 l.p) w (OwnS.nil lUp 0 w) (RefOk.nil l.p) (by simp [pages0]) OK.out.p2 (by simp)
  simp only [TK.out.1, TK.out.2.1, TK.out.2.2, refT] at fta
  go_wp2_with (rw [← hgw]; refine wpList_store_mid rfl 82 (.tmp 46) (.tmp 45) rfl (w.heap.size + 1 + 1) 6 ([.int .i64 (l.s : Int), .int .i64 (l.c : Int), .slice pa un pc] : List Value).toArray rfl rfl ?_ (by kernel_rfl) ?one ?_; (case one => first | rfl | (kernel_rfl) | (exact all_oneCell_toArray (fun u h => by simp at h; rcases h with h | h | h <;> subst h <;> rfl))); exact th.out; clear th; generalize hG : World.setCells _ _ _ _ = x4 at *; clear hG hgw)
  refine (fta _).mono ?_
  rintro ev w5 ⟨tv, us2, rfl, hto, hrk, hln, hs⟩
  clear n_9 n_10 fta
  have B10 := Lib.hid (B9.out.trans (hs.mono B9.out.size))
  have LM_10 := Lib.hid (blk_step LM_9.out hs)
  have R_10 := Lib.hid (blk_step R_9.out hs)
  have N_10 := Lib.hid (blk_step N_9.out hs)
  have A4_2 := Lib.hid (blk_step A4_1.out hs)
  have R5_2 := Lib.hid (blk_step R5_1.out hs)
  have CV_5 := Lib.hid (CV_4.out.below hs)
  have PV_3 := Lib.hid (PV_2.out.below hs)
  clear B9 LM_9 R_9 N_9 A4_1 R5_1 CV_4 PV_2
  have TV_0 := Lib.hid (hto)
  have RK := Lib.hid (And.intro hrk hln)
  obtain ⟨ta, tc, rfl, -, -⟩ := hto.sv.lenform
  clear hs hto hrk hln
  obtain ⟨tn, htn⟩ : ∃ n, us2.length = n := ⟨_, rfl⟩
  have TN := Lib.hid htn
  rw [htn] at TV_0 ⊢
  clear htn
  have hs := alloc_below0 w5 (.cells #[.int .i64 (l.p : Int), .slice ta tn tc] 85)
  have S5 := Lib.hid (show w4.heap.size + 1 < w5.heap.size from (Array.getElem?_eq_some_iff.1 R5_2.out).1)
  have B11 := Lib.hid (B10.out.trans (hs.mono B10.out.size))
  have LM_11 := Lib.hid (blk_step LM_10.out hs)
  have R_11 := Lib.hid (blk_step R_10.out hs)
  have N_11 := Lib.hid (blk_step N_10.out hs)
  have A4_3 := Lib.hid (blk_step A4_2.out hs)
  have R5_3 := Lib.hid (blk_step R5_2.out hs)
  have CV_6 := Lib.hid (CV_5.out.below hs)
  have PV_4 := Lib.hid (PV_3.out.below hs)
  have TV_1 := Lib.hid (TV_0.out.below hs)
  clear B10 LM_10 R_10 N_10 A4_2 R5_2 CV_5 PV_3 TV_0
  clear hs
  have T7_0 := Lib.hid (blk_new w5 (.cells #[.int .i64 (l.p : Int), .slice ta tn tc] 85))
  have fsw := fun w h => rf_swap l.p (.slice ta tn tc) us2 (pgs0 l.p) 0 0 0 1 1 w h RK.out.1 (by rw [show (pgs0 l.p).length = l.p from by have := OK.out.p1; simp [pgs0, pages0]; omega]) (by have := RK.out.2; simp at this; omega)
  simp only [SW.out.1, SW.out.2.1, SW.out.2.2, refT, refV] at fsw
  have r_0 := blk_cell R5_3.out 0
  have r_1 := blk_cell R5_3.out 1
  simp at r_0 r_1
  go_wp2_with fail
  refine (fsw _ TV_1.out).mono ?_
  rintro ev w6 ⟨tv3, us3, rfl, hto, hrk, hln, hs⟩
  clear r_0 r_1 fsw
  have B12 := Lib.hid (B11.out.trans (hs.mono B11.out.size))
  have LM_12 := Lib.hid (blk_step LM_11.out hs)
  have R_12 := Lib.hid (blk_step R_11.out hs)
  have N_12 := Lib.hid (blk_step N_11.out hs)
  have A4_4 := Lib.hid (blk_step A4_3.out hs)
  have R5_4 := Lib.hid (blk_step R5_3.out hs)
  have T7_1 := Lib.hid (blk_step T7_0.out hs)
  have CV_7 := Lib.hid (CV_6.out.below hs)
  have PV_5 := Lib.hid (PV_4.out.below hs)
  have TV_2 := Lib.hid (TV_1.out.below hs)
  clear B11 LM_11 R_11 N_11 A4_3 R5_3 T7_0 CV_6 PV_4 TV_1
  clear TV_2
  have TU_0 := Lib.hid (hto)
  have RQ := Lib.hid (And.intro hrk (Nat.le_trans hln (by have := RK.out.2; simpa using this)))
  obtain ⟨ta3, tc3, rfl, -, -⟩ := hto.sv.lenform
  clear hs hto hrk hln RK TN
  obtain ⟨tn3, htn3⟩ : ∃ n, us3.length = n := ⟨_, rfl⟩
  have TN3 := Lib.hid htn3
  rw [htn3] at TU_0 ⊢
  clear htn3
  have ks : Kept (fun k => k = w5.heap.size) w6 (World.setCells w6 (w5.heap.size) 0 ([.int .i64 (l.p : Int), .slice ta3 tn3 tc3] : List Value).toArray.toList) := Kept.setCells _ 0 w6 (Kept.refl (fun k => k = w5.heap.size) w6)
  have B13 := Lib.hid (show Below w.heap.size w (World.setCells w6 (w5.heap.size) 0 ([.int .i64 (l.p : Int), .slice ta3 tn3 tc3] : List Value).toArray.toList) from below_setCells (b := w5.heap.size) (by first | omega | (have := S4.out; omega) | (have := S4.out; have := S5.out; omega)) _ 0 _ B12.out)
  have th := Lib.hid (blk_thereAt T7_1.out 0 2 (by simp))
  have LM_13 := Lib.hid ((ks.block _ (Array.getElem?_eq_some_iff.1 LM_12.out).1 (by first | omega | (have := S4.out; omega) | (have := S4.out; have := S5.out; omega))).trans LM_12.out)
  have R_13 := Lib.hid ((ks.block _ (Array.getElem?_eq_some_iff.1 R_12.out).1 (by first | omega | (have := S4.out; omega) | (have := S4.out; have := S5.out; omega))).trans R_12.out)
  have N_13 := Lib.hid ((ks.block _ (Array.getElem?_eq_some_iff.1 N_12.out).1 (by first | omega | (have := S4.out; omega) | (have := S4.out; have := S5.out; omega))).trans N_12.out)
  have A4_5 := Lib.hid ((ks.block _ (Array.getElem?_eq_some_iff.1 A4_4.out).1 (by first | omega | (have := S4.out; omega) | (have := S4.out; have := S5.out; omega))).trans A4_4.out)
  have R5_5 := Lib.hid ((ks.block _ (Array.getElem?_eq_some_iff.1 R5_4.out).1 (by first | omega | (have := S4.out; omega) | (have := S4.out; have := S5.out; omega))).trans R5_4.out)
  have T7_2 := Lib.hid (show ((World.setCells w6 (w5.heap.size) 0 ([.int .i64 (l.p : Int), .slice ta3 tn3 tc3] : List Value).toArray.toList)).heap[w5.heap.size]? = some (.cells #[.int .i64 (l.p : Int), .slice ta3 tn3 tc3] 85) from blk_set2 T7_1.out 0 (.int .i64 (l.p : Int)) (.slice ta3 tn3 tc3))
  have CV_8 := Lib.hid (CV_7.out.kept ks (CV_7.out.offT T7_1.out (by decide)))
  have PV_6 := Lib.hid (PV_5.out.kept ks (PV_5.out.offT T7_1.out (by decide)))
  have TU_1 := Lib.hid (TU_0.out.kept ks (TU_0.out.offT T7_1.out (by decide)))
  clear ks B12 LM_12 R_12 N_12 A4_4 R5_4 T7_1 CV_7 PV_5 TU_0
  go_upto_region 9 with (refine wpList_store_mid rfl 85 (.tmp 7) (.tmp 59) rfl (w5.heap.size) 0 ([.int .i64 (l.p : Int), .slice ta3 tn3 tc3] : List Value).toArray rfl rfl ?_ (by kernel_rfl) ?one ?_; (case one => first | rfl | (kernel_rfl) | (exact all_oneCell_toArray (fun u h => by simp at h; rcases h with h | h | h <;> subst h <;> rfl))); exact th.out; clear th; generalize hG : World.setCells _ _ _ _ = x5 at *; clear hG)
  have t_0 := blk_cell T7_2.out 0
  have t_1 := blk_cell T7_2.out 1
  simp at t_0 t_1
  have ks : Kept (fun k => k = w.heap.size + 1 + 1) x5 (World.setCells x5 (w.heap.size + 1 + 1) 9 ([.int .i64 (l.p : Int), .slice ta3 tn3 tc3] : List Value).toArray.toList) := Kept.setCells _ 9 x5 (Kept.refl (fun k => k = w.heap.size + 1 + 1) x5)
  have B14 := Lib.hid (show Below w.heap.size w (World.setCells x5 (w.heap.size + 1 + 1) 9 ([.int .i64 (l.p : Int), .slice ta3 tn3 tc3] : List Value).toArray.toList) from below_setCells (b := w.heap.size + 1 + 1) (by first | omega | (have := S4.out; omega) | (have := S4.out; have := S5.out; omega)) _ 9 _ B13.out)
  have th := Lib.hid (blk_thereAt N_13.out 9 2 (by simp))
  have LM_14 := Lib.hid ((ks.block _ (Array.getElem?_eq_some_iff.1 LM_13.out).1 (by first | omega | (have := S4.out; omega) | (have := S4.out; have := S5.out; omega))).trans LM_13.out)
  have R_14 := Lib.hid ((ks.block _ (Array.getElem?_eq_some_iff.1 R_13.out).1 (by first | omega | (have := S4.out; omega) | (have := S4.out; have := S5.out; omega))).trans R_13.out)
  have N_14 := Lib.hid (show ((World.setCells x5 (w.heap.size + 1 + 1) 9 ([.int .i64 (l.p : Int), .slice ta3 tn3 tc3] : List Value).toArray.toList)).heap[w.heap.size + 1 + 1]? = some (mrObj l (.int .i64 (l.s : Int)) (.int .i64 (l.c : Int)) (.slice pa un pc) (.int .i64 (l.p : Int)) (.slice ta3 tn3 tc3) (.int .i64 (Ck.new l.t (l.c : Int)).n) (.int .i64 (Ck.new l.t (l.c : Int)).l) (.slice ca (Ck.new l.t l.c).L.length cc)) from blk_set2 N_13.out 9 (.int .i64 (l.p : Int)) (.slice ta3 tn3 tc3))
  have A4_6 := Lib.hid ((ks.block _ (Array.getElem?_eq_some_iff.1 A4_5.out).1 (by first | omega | (have := S4.out; omega) | (have := S4.out; have := S5.out; omega))).trans A4_5.out)
  have R5_6 := Lib.hid ((ks.block _ (Array.getElem?_eq_some_iff.1 R5_5.out).1 (by first | omega | (have := S4.out; omega) | (have := S4.out; have := S5.out; omega))).trans R5_5.out)
  have T7_3 := Lib.hid ((ks.block _ (Array.getElem?_eq_some_iff.1 T7_2.out).1 (by first | omega | (have := S4.out; omega) | (have := S4.out; have := S5.out; omega))).trans T7_2.out)
  have CV_9 := Lib.hid (CV_8.out.kept ks (CV_8.out.offT N_13.out (by decide)))
  have PV_7 := Lib.hid (PV_6.out.kept ks (PV_6.out.offT N_13.out (by decide)))
  have TU_2 := Lib.hid (TU_1.out.kept ks (TU_1.out.offT N_13.out (by decide)))
  clear ks B13 LM_13 R_13 N_13 A4_5 R5_5 T7_2 CV_8 PV_6 TU_1
  go_upto_region 10 with (refine wpList_store_mid rfl 85 (.tmp 63) (.tmp 62) rfl (w.heap.size + 1 + 1) 9 ([.int .i64 (l.p : Int), .slice ta3 tn3 tc3] : List Value).toArray rfl rfl ?_ (by kernel_rfl) ?one ?_; (case one => first | rfl | (kernel_rfl) | (exact all_oneCell_toArray (fun u h => by simp at h; rcases h with h | h | h <;> subst h <;> rfl))); exact th.out; clear th; generalize hG : World.setCells _ _ _ _ = x6 at *; clear hG)
  have n_0 := blk_cell N_14.out 0
  have n_1 := blk_cell N_14.out 1
  have n_2 := blk_cell N_14.out 2
  have n_3 := blk_cell N_14.out 3
  have n_4 := blk_cell N_14.out 4
  have n_5 := blk_cell N_14.out 5
  have n_6 := blk_cell N_14.out 6
  have n_7 := blk_cell N_14.out 7
  have n_8 := blk_cell N_14.out 8
  have n_9 := blk_cell N_14.out 9
  have n_10 := blk_cell N_14.out 10
  have n_11 := blk_cell N_14.out 11
  have n_12 := blk_cell N_14.out 12
  have n_13 := blk_cell N_14.out 13
  have n_14 := blk_cell N_14.out 14
  simp at n_0 n_1 n_2 n_3 n_4 n_5 n_6 n_7 n_8 n_9 n_10 n_11 n_12 n_13 n_14
  have ks : Kept (fun k => k = w.heap.size + 1) x6 (World.setCells x6 (w.heap.size + 1) 0 ([.int .i64 (l.s : Int), .int .i64 (l.p : Int), .int .i64 (l.t : Int), .int .i64 (l.r : Int), .int .i64 (l.h : Int), .int .i64 (l.c : Int), .int .i64 (l.s : Int), .int .i64 (l.c : Int), .slice pa un pc, .int .i64 (l.p : Int), .slice ta3 tn3 tc3, .int .i64 (Ck.new l.t (l.c : Int)).n, .int .i64 (Ck.new l.t (l.c : Int)).l, .slice ca (Ck.new l.t l.c).L.length cc, .int .i64 0] : List Value).toArray.toList) := Kept.setCells _ 0 x6 (Kept.refl (fun k => k = w.heap.size + 1) x6)
  have B15 := Lib.hid (show Below w.heap.size w (World.setCells x6 (w.heap.size + 1) 0 ([.int .i64 (l.s : Int), .int .i64 (l.p : Int), .int .i64 (l.t : Int), .int .i64 (l.r : Int), .int .i64 (l.h : Int), .int .i64 (l.c : Int), .int .i64 (l.s : Int), .int .i64 (l.c : Int), .slice pa un pc, .int .i64 (l.p : Int), .slice ta3 tn3 tc3, .int .i64 (Ck.new l.t (l.c : Int)).n, .int .i64 (Ck.new l.t (l.c : Int)).l, .slice ca (Ck.new l.t l.c).L.length cc, .int .i64 0] : List Value).toArray.toList) from below_setCells (b := w.heap.size + 1) (by first | omega | (have := S4.out; omega) | (have := S4.out; have := S5.out; omega)) _ 0 _ B14.out)
  have th := Lib.hid (blk_thereAt R_14.out 0 15 (by simp))
  have LM_15 := Lib.hid ((ks.block _ (Array.getElem?_eq_some_iff.1 LM_14.out).1 (by first | omega | (have := S4.out; omega) | (have := S4.out; have := S5.out; omega))).trans LM_14.out)
  have R_15 := Lib.hid (show ((World.setCells x6 (w.heap.size + 1) 0 ([.int .i64 (l.s : Int), .int .i64 (l.p : Int), .int .i64 (l.t : Int), .int .i64 (l.r : Int), .int .i64 (l.h : Int), .int .i64 (l.c : Int), .int .i64 (l.s : Int), .int .i64 (l.c : Int), .slice pa un pc, .int .i64 (l.p : Int), .slice ta3 tn3 tc3, .int .i64 (Ck.new l.t (l.c : Int)).n, .int .i64 (Ck.new l.t (l.c : Int)).l, .slice ca (Ck.new l.t l.c).L.length cc, .int .i64 0] : List Value).toArray.toList)).heap[w.heap.size + 1]? = some (.cells (([.int .i64 (l.s : Int), .int .i64 (l.p : Int), .int .i64 (l.t : Int), .int .i64 (l.r : Int), .int .i64 (l.h : Int), .int .i64 (l.c : Int), .int .i64 (l.s : Int), .int .i64 (l.c : Int), .slice pa un pc, .int .i64 (l.p : Int), .slice ta3 tn3 tc3, .int .i64 (Ck.new l.t (l.c : Int)).n, .int .i64 (Ck.new l.t (l.c : Int)).l, .slice ca (Ck.new l.t l.c).L.length cc, .int .i64 0] : List Value)).toArray 90) from list_laid ([.int .i64 (l.s : Int), .int .i64 (l.p : Int), .int .i64 (l.t : Int), .int .i64 (l.r : Int), .int .i64 (l.h : Int), .int .i64 (l.c : Int), .int .i64 (l.s : Int), .int .i64 (l.c : Int), .slice pa un pc, .int .i64 (l.p : Int), .slice ta3 tn3 tc3, .int .i64 (Ck.new l.t (l.c : Int)).n, .int .i64 (Ck.new l.t (l.c : Int)).l, .slice ca (Ck.new l.t l.c).L.length cc, .int .i64 0] : List Value) R_14.out rfl)
  have N_15 := Lib.hid ((ks.block _ (Array.getElem?_eq_some_iff.1 N_14.out).1 (by first | omega | (have := S4.out; omega) | (have := S4.out; have := S5.out; omega))).trans N_14.out)
  have A4_7 := Lib.hid ((ks.block _ (Array.getElem?_eq_some_iff.1 A4_6.out).1 (by first | omega | (have := S4.out; omega) | (have := S4.out; have := S5.out; omega))).trans A4_6.out)
  have R5_7 := Lib.hid ((ks.block _ (Array.getElem?_eq_some_iff.1 R5_6.out).1 (by first | omega | (have := S4.out; omega) | (have := S4.out; have := S5.out; omega))).trans R5_6.out)
  have T7_4 := Lib.hid ((ks.block _ (Array.getElem?_eq_some_iff.1 T7_3.out).1 (by first | omega | (have := S4.out; omega) | (have := S4.out; have := S5.out; omega))).trans T7_3.out)
  have CV_10 := Lib.hid (CV_9.out.kept ks (CV_9.out.offT R_14.out (by decide)))
  have PV_8 := Lib.hid (PV_7.out.kept ks (PV_7.out.offT R_14.out (by decide)))
  have TU_3 := Lib.hid (TU_2.out.kept ks (TU_2.out.offT R_14.out (by decide)))
  clear ks B14 LM_14 R_14 N_14 A4_6 R5_6 T7_3 CV_9 PV_7 TU_2
  go_wp2_with (refine wpList_store_mid rfl 90 (.tmp 2) (.tmp 64) rfl (w.heap.size + 1) 0 ([.int .i64 (l.s : Int), .int .i64 (l.p : Int), .int .i64 (l.t : Int), .int .i64 (l.r : Int), .int .i64 (l.h : Int), .int .i64 (l.c : Int), .int .i64 (l.s : Int), .int .i64 (l.c : Int), .slice pa un pc, .int .i64 (l.p : Int), .slice ta3 tn3 tc3, .int .i64 (Ck.new l.t (l.c : Int)).n, .int .i64 (Ck.new l.t (l.c : Int)).l, .slice ca (Ck.new l.t l.c).L.length cc, .int .i64 0] : List Value).toArray rfl rfl ?_ (by kernel_rfl) ?one ?_; (case one => first | rfl | (kernel_rfl) | (exact all_oneCell_toArray (fun u h => by simp only [List.mem_cons, List.not_mem_nil, or_false] at h; rcases h with h | h | h | h | h | h | h | h | h | h | h | h | h | h | h <;> subst h <;> rfl))); exact th.out; clear th; generalize hG : World.setCells _ _ _ _ = x7 at *; clear hG)
  refine bodyPost_ret (v := .agg ([.int .i64 (l.s : Int), .int .i64 (l.p : Int), .int .i64 (l.t : Int), .int .i64 (l.r : Int), .int .i64 (l.h : Int), .int .i64 (l.c : Int), .int .i64 (l.s : Int), .int .i64 (l.c : Int), .slice pa un pc, .int .i64 (l.p : Int), .slice ta3 tn3 tc3, .int .i64 (Ck.new l.t (l.c : Int)).n, .int .i64 (Ck.new l.t (l.c : Int)).l, .slice ca (Ck.new l.t l.c).L.length cc, .int .i64 0] : List Value).toArray) (results_cell1 rfl _ _ (w.heap.size + 1) _ _ rfl (blk_rng R_15.out) Tryd.underlying90 rfl (by kernel_rfl)) rfl ?_
  exact ⟨_, us, _, us3, _, rfl, PV_8.out, PM.out.2, PM.out.1, TU_3.out, RQ.out.1, RQ.out.2, ⟨_, _, _, rfl⟩, B15.out⟩
end Go.Proofs.YtkkmfacngmginaaDoor
