/- Package arena's Alloc, by contracts. -/
import Derived.Test.YtejmdmaebkdjoaaGreatDoorMm
import Derived.Test.YtejmdmaebkdjoaaGreatDoorArFree
namespace Go.Proofs.YtejmdmaebkdjoaaGreatDoor
set_option linter.unusedVariables false
set_option linter.unusedSimpArgs false
set_option maxRecDepth 100000
set_option maxHeartbeats 4000000
open Go.RowKit
theorem allocGo_step1 {l : Nat} {ps : List Pt} {m f : Nat} {e : Int} (h : (stOf ps m).2.isSome = true) : allocGo l ps (f + 1) m e = allocGo l ps f (m + 1) e := by
 have hs : slotOf ps m = ((stOf ps m).1, true) := by rw [slot_st, h]
 exact allocGo_used hs
theorem allocGo_step2 {l : Nat} {ps : List Pt} {m f : Nat} {e : Int} (h : (stOf ps m).2 = none) (hg : l ≤ (stOf ps m).1) : allocGo l ps (f + 1) m e = allocGo l ps f (m + 1) 5 := by
 have hs : slotOf ps m = ((stOf ps m).1, false) := by rw [slot_st, h]; rfl
 exact allocGo_worn hs (by omega)
theorem allocGo_hit {l : Nat} {ps : List Pt} {m f : Nat} {e : Int} (h : (stOf ps m).2 = none) (hg : (stOf ps m).1 < l) : allocGo l ps (f + 1) m e = (m, (stOf ps m).1 + 1, 0) := by
 have hs : slotOf ps m = ((stOf ps m).1, false) := by rw [slot_st, h]; rfl
 exact allocGo_free hs hg
theorem alloc_end {w1 : World} {b : Nat} {cs0 : Array Value} {x y ev : Value} {a : Act} {Q : Ending → World → Prop} (h : w1.heap[b]? = some (.cells cs0 48 (0, 0))) (hev : a.tmps.getD 5 undef = ev) (hp : a.tmps.getD 4 undef = .pointer (some ⟨b, 0, none⟩)) (hd : a.defers = []) (hc : cs0 = #[x, y])
  (hq : Q (.returned (.tuple #[.agg #[x, y], ev])) w1) : bodyPost Tryz.prog Tryz.f70 Q Exit.ret a w1 :=
 bodyPost_ret (v := .tuple #[.agg #[x, y], ev]) (results_cellT rfl _ _ b [x, y] _ ev hp hev (fun j u hj => by rw [Nat.zero_add, blk_cell h, hc, ← hj, ← Array.getElem?_toList]) Tryz.underlying48 rfl (by kernel_rfl)) hd hq
theorem alloc_any (a : Addr) (v : Value) (S : Nat → Prop) (n l : Nat) (ps : List Pt) (d : RecD) (w : World) (h : ArInv w a S n l ps) (hv : RecV w v d) (h1 : d.rows.length ≤ 1000) (h2 : d.ents.length ≤ 1000) :
  Calls Tryz.prog 70 #[.pointer (some a), v] w fun ev w' => ∃ S', ev = .returned (.tuple #[refV ((allocM n l ps).1 : Int) ((allocM n l ps).2.1 : Int), errV (allocM n l ps).2.2]) ∧ ArInv w' a S' n l (putM n l ps d) ∧ Kept S w w' ∧ (∀ k, S' k → S k ∨ w.heap.size ≤ k) := by
 obtain ⟨ab, sb, ss, rfl, I0⟩ := h
 obtain ⟨sc, rows, ents⟩ := d
 obtain ⟨rv, en, rfl, hr, he⟩ := hv
 simp only at hr he h1 h2
 have L := Lib.hid (show rows.length ≤ 1000 ∧ ents.length ≤ 1000 from ⟨h1, h2⟩)
 obtain ⟨W, hW⟩ : ∃ W, W = (w.alloc (recObj sc rv en)).alloc (.cells #[.int .i64 0, .int .i64 0] 48) := ⟨_, rfl⟩
 have z1 : (w.alloc (recObj sc rv en)).heap.size = w.heap.size + 1 := by simp
 have b1 := alloc_below0 w (recObj sc rv en)
 have b2 := alloc_below0 (w.alloc (recObj sc rv en)) (.cells #[.int .i64 0, .int .i64 0] 48)
 have B := Lib.hid (show Below w.heap.size w W by rw [hW]; exact b1.trans (b2.mono b1.size))
 have Z := Lib.hid (show W.heap.size = w.heap.size + 2 by rw [hW]; simp)
 have K0 := Lib.hid (show W.heap[w.heap.size]? = some (recObj sc rv en) by rw [hW]; exact blk_step (blk_new w (recObj sc rv en)) b2)
 have K1 := Lib.hid (show W.heap[w.heap.size + 1]? = some (.cells #[.int .i64 0, .int .i64 0] 48 (0, 0)) by rw [hW, ← z1]; exact blk_new _ _)
 have R := Lib.hid (hr.below B.out)
 have E := Lib.hid (he.below B.out)
 have I := Lib.hid (I0.low B.out)
 have SL := Lib.hid (show ∀ k, S k → k < w.heap.size from I0.foot)
 have a0 : W.cell? ⟨ab, 0, none⟩ = some (.slice (some ⟨sb, 0, none⟩) n n) := blk_cell I.out.blkA 0
 have hn := okN_of I0.ok
 unfold recObj at hW
 rw [hW] at a0
 clear hr he h1 h2 b1 b2 z1 I0
 unfold recVal
 go_enter Tryz.func70, Tryz.ntmps70
 go_wp2
 rw [← hW]
 go_loopg [6, 18] n (fun r y i wr => ∃ (k : Nat) (e : Int), k + r = n ∧ i = .int .i64 k ∧ y = .int .i64 e ∧ (e = 3 ∨ e = 5) ∧ allocM n l ps = allocGo l ps (n - k) (k + 1) e ∧ Below W.heap.size W wr)
 case atStart => exact ⟨0, 3, by omega, rfl, rfl, .inl rfl, rfl, Below.refl _ _⟩
 case round =>
  obtain ⟨k, e, hk, rfl, rfl, he, hal, hB⟩ := hrel
  have A := Lib.hid (show (e = 3 ∨ e = 5) ∧ allocM n l ps = allocGo l ps (n - k) (k + 1) e ∧ Below W.heap.size W wr ∧ k + gk = n from ⟨he, hal, hB, hk⟩)
  have I1 := Lib.hid (I.out.low hB)
  have K2 := Lib.hid (blk_step K1.out hB)
  clear he hal hB hW a0
  by_cases hlt : k < n
  ·obtain ⟨p, g1, g2, g3⟩ := I1.out.slot hlt
   have X := Lib.hid g3
   have x0 := g3.c0
   have x1 := g3.c1
   have x2 := g3.c2
   have a0 := g3.a0
   have a1 := g3.a1
   have j3 : (0 : Int) ≤ (k : Int) := by omega
   have j4 : (k : Int) < (n : Int) := by omega
   have hnk : n - k = (n - (k + 1)) + 1 := by omega
   cases hst : (stOf ps (k + 1)).2 with
   | some d =>
    rw [hst] at g2
    obtain ⟨q, rfl, -⟩ := g2
    have T := Lib.hid (show allocM n l ps = allocGo l ps (n - (k + 1)) (k + 1 + 1) e by rw [A.out.2.1, hnk]; exact allocGo_step1 (by rw [hst]; rfl))
    clear hst g1 g3 hnk
    go_wp2
    go_roundg (n - (k + 1))
    case measure => have := A.out.2.2.2; omega
    case rel => exact ⟨k + 1, e, by omega, by go_num, rfl, A.out.1, T.out, A.out.2.2.1⟩
   | none =>
    rw [hst] at g2
    obtain rfl : p = none := g2
    have SLF := Lib.hid (show (slotOf ps (k + 1)).2 = false by rw [slot_st, hst]; rfl)
    by_cases hg : (stOf ps (k + 1)).1 < l
    ·have T := Lib.hid (show allocM n l ps = (k + 1, (stOf ps (k + 1)).1 + 1, 0) by rw [A.out.2.1, hnk]; exact allocGo_hit hst hg)
     have SNO := Lib.hid (show ∀ m, stOf (ps ++ [⟨k + 1, (stOf ps (k + 1)).1 + 1, ⟨sc, rows, ents⟩, true⟩]) m = if m = k + 1 then ((stOf ps (k + 1)).1 + 1, some ⟨sc, rows, ents⟩) else stOf ps m from fun m => by
      rw [stOf_snoc]
      by_cases e : m = k + 1
      ·rw [if_pos e, if_pos e.symm]; rfl
      ·rw [if_neg e, if_neg (fun h => e h.symm)])
     obtain ⟨g, hgg⟩ : ∃ g, (stOf ps (k + 1)).1 = g := ⟨_, rfl⟩
     rw [hgg] at g1 X x1 T SNO hg
     have HI := Lib.hid (show ss[k]? = some ((k : Int) + 1, (g : Int), none) from g1)
     have e1 : decide ((l : Int) ≤ (g : Int)) = false := decide_eq_false (by omega)
     have GL := Lib.hid hg
     have K3 := Lib.hid (show wr.heap[w.heap.size]? = some (recObj sc rv en) from blk_step K0.out A.out.2.2.1)
     have R1 := Lib.hid (R.out.below A.out.2.2.1)
     have E1 := Lib.hid (E.out.below A.out.2.2.1)
     clear hst hgg hnk g1 g3 hg
     go_wp2_with fail
     refine (worn_any _ ab l _ g none X.out.a1).mono ?_
     rintro ev w2 ⟨rfl, hs⟩
     rw [e1]
     have hrng : w2.rangeAt w.heap.size 0 (recCells sc rv en) := rec_range (blk_step K3.out hs)
     have I2 := Lib.hid (I1.out.low hs)
     have K4 := Lib.hid (blk_step K2.out hs)
     have R2 := Lib.hid (R1.out.below hs)
     have E2 := Lib.hid (E1.out.below hs)
     have B2 := Lib.hid (B.out.trans ((A.out.2.2.1.trans (hs.mono A.out.2.2.1.size)).mono B.out.size))
     have X2 := Lib.hid (X.out.step hs)
     clear hs e1 x0 x1 x2 a0 a1
     go_wp2_with (refine wpList_load_mid rfl 55 (.tmp 3) rfl w.heap.size 0 rfl (recCells sc rv en) _ hrng Tryz.underlying55 rfl (by kernel_rfl) ?_)
     refine (put_any w2 ab sb n k l g ss _ ⟨sc, rows, ents⟩ ⟨rv, en, rfl, R2.out, E2.out⟩ L.out.1 L.out.2 HI.out (by have := GL.out; omega) X2.out I2.out.own).mono ?_
     rintro ev w3 ⟨q, rfl, hq, hrec, hown, hkept⟩
     have SB := Lib.hid (show sb < w.heap.size from SL.out _ I2.out.sB)
     have n1 : ¬ sb = w.heap.size + 1 := by have := SB.out; omega
     have K5 := Lib.hid (show w3.heap[w.heap.size + 1]? = some (.cells #[.int .i64 0, .int .i64 0] 48 (0, 0)) from (hkept.block _ (Array.getElem?_eq_some_iff.1 K4.out).1 (fun h => n1 h.symm)).trans K4.out)
     have k1 := blk_cell K5.out 0
     have k2 := blk_cell K5.out 1
     have k3 := blk_free K5.out 0
     have k4 := blk_free K5.out 1
     have SZ := Lib.hid (show w.heap.size + 2 ≤ w2.heap.size by have := (Array.getElem?_eq_some_iff.1 K4.out).1; omega)
     have HH := Lib.hid (show _ ∧ _ ∧ _ ∧ _ from ⟨hq, hrec, hown, hkept⟩)
     unfold refV
     clear hq hrec hown hkept hrng
     go_wp2
     have hput : putM n l ps ⟨sc, rows, ents⟩ = ps ++ [⟨k + 1, g + 1, ⟨sc, rows, ents⟩, true⟩] := by unfold putM; rw [T.out]; rfl
     obtain ⟨hq, hrec, hown, hkept⟩ := HH.out
     have hpt : PtrAt w3 (fun j => S j ∨ (w2.heap.size ≤ j ∧ j < w3.heap.size)) (some ⟨q, 0, none⟩) (some ⟨sc, rows, ents⟩) := by
      obtain ⟨rv3, en3, r1, r2, r3⟩ := hrec
      exact ⟨q, rfl, .inr ⟨hq, (Array.getElem?_eq_some_iff.1 r1).1⟩, L.out.1, L.out.2, rv3, en3, r1, r2.mono (Nat.zero_le _), r3.mono (Nat.zero_le _), fun j hj => .inr (r2.bounds j hj), fun j hj => .inr (r3.bounds j hj)⟩
     have IC := InvAt.change (S' := fun j => S j ∨ (w2.heap.size ≤ j ∧ j < w3.heap.size)) I2.out hkept (fun _ h => .inl h) (fun j hj => hj.elim (fun h => Nat.lt_of_lt_of_le (I2.out.foot j h) hkept.size) (fun h => h.2)) (g := g + 1) (by omega) hown SNO.out hpt (I2.out.val.put (by omega) SLF.out) (by have := GL.out; omega)
     have kp := (((Kept.refl (fun j => j = w.heap.size + 1) w3).setCell 0 (.int .i64 ((k : Int) + 1))).setCell 1 (.int .i64 ((g : Int) + 1)))
     have IF := IC.keep (kp.wide (T := fun j => ¬ (S j ∨ (w2.heap.size ≤ j ∧ j < w3.heap.size))) (fun j _ hj h => by
      subst hj
      rcases h with h | h
      ·have := SL.out _ h; omega
      ·have := SZ.out; omega))
     refine alloc_end (blk_set (blk_set K5.out 0 _) 1 _) rfl rfl rfl rfl ⟨_, ?_, ⟨_, _, _, rfl, hput ▸ IF⟩, ?_, ?_⟩
     ·rw [T.out]; rfl
     ·have t1 := (Kept.of_below (S := S) B2.out).trans2 hkept (fun _ h => h) (fun j h => h ▸ I2.out.sB)
      exact (t1.setNew (b := w.heap.size + 1) (by omega) 0 _).setNew (b := w.heap.size + 1) (by omega) 1 _
     ·exact fun j hj => hj.imp id (fun h => by have := SZ.out; omega)
    ·have T := Lib.hid (show allocM n l ps = allocGo l ps (n - (k + 1)) (k + 1 + 1) 5 by rw [A.out.2.1, hnk]; exact allocGo_step2 hst (by omega))
     obtain ⟨g, hgg⟩ : ∃ g, (stOf ps (k + 1)).1 = g := ⟨_, rfl⟩
     rw [hgg] at X x1 hg
     have e1 : decide ((l : Int) ≤ (g : Int)) = true := decide_eq_true (by omega)
     clear hst hgg hnk g1 g3 hg
     go_wp2_with fail
     refine (worn_any _ ab l _ g none X.out.a1).mono ?_
     rintro ev w2 ⟨rfl, hs⟩
     rw [e1]
     have B2 := Lib.hid (A.out.2.2.1.trans (hs.mono A.out.2.2.1.size))
     clear hs e1 x0 x1 x2 a0 a1
     go_wp2
     go_roundg (n - (k + 1))
     case measure => have := A.out.2.2.2; omega
     case rel => exact ⟨k + 1, 5, by omega, by go_num, rfl, .inr rfl, T.out, B2.out⟩
  ·have T := Lib.hid (show allocM n l ps = (0, 0, e) by rw [A.out.2.1, show n - k = 0 by omega]; rfl)
   have k1 := blk_cell K2.out 0
   have k2 := blk_cell K2.out 1
   have k3 := blk_free K2.out 0
   have k4 := blk_free K2.out 1
   go_wp2
   have B3 := B.out.trans (A.out.2.2.1.mono B.out.size)
   refine alloc_end (blk_set (blk_set K2.out 0 _) 1 _) rfl rfl rfl rfl ⟨S, ?_, ?_, ?_, fun j hj => .inl hj⟩
   ·rw [T.out]; unfold errV; rw [if_neg (by rcases A.out.1 with rfl | rfl <;> decide)]; rfl
   ·have hput : putM n l ps ⟨sc, rows, ents⟩ = ps := by unfold putM; rw [T.out, if_neg (by rcases A.out.1 with rfl | rfl <;> decide)]
    rw [hput]
    refine ⟨_, _, _, rfl, I1.out.keep (((Kept.refl (fun j => j = w.heap.size + 1) wr).setCell 0 _).setCell 1 _ |>.wide (fun j _ hj h => ?_))⟩
    subst hj
    have := SL.out _ h; omega
   ·exact (Kept.of_below (S := S) B3).setNew (b := w.heap.size + 1) (by omega) 0 _ |>.setNew (b := w.heap.size + 1) (by omega) 1 _
end Go.Proofs.YtejmdmaebkdjoaaGreatDoor
