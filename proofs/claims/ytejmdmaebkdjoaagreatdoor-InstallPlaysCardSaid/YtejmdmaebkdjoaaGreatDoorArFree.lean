/- Package arena's Free and Load, by contracts. -/
import Derived.Test.YtejmdmaebkdjoaaGreatDoorMm
import Derived.Test.YtejmdmaebkdjoaaGreatDoorArNew
namespace Go.Proofs.YtejmdmaebkdjoaaGreatDoor
set_option linter.unusedVariables false
set_option linter.unusedSimpArgs false
set_option maxRecDepth 100000
set_option maxHeartbeats 4000000
open Go.RowKit
theorem InvAt.change {w w' : World} {ab sb : Nat} {ss : List Sl} {S S' : Nat → Prop} {n l : Nat} {ps ps' : List Pt} (I : InvAt w ab sb ss S n l ps) (hk : Kept (fun k => k = sb) w w') (hS : ∀ k, S k → S' k) (hf : ∀ k, S' k → k < w'.heap.size) {i g : Nat} {p : Option Addr} {o : Option RecD} (hi : i < n)
  (ho : OwnS lSlot 0 w' (.slice (some ⟨sb, 0, none⟩) n n) (ss.set i ((i : Int) + 1, (g : Int), p))) (hst : ∀ m, stOf ps' m = if m = i + 1 then (g, o) else stOf ps m) (hp : PtrAt w' S' p o) (hv : Valid n ps') (hg : g ≤ l) : InvAt w' ab sb (ss.set i ((i : Int) + 1, (g : Int), p)) S' n l ps' := by
 have hne : ab ≠ sb := fun e => by
  obtain ⟨cur, hc, -⟩ := I.own.block
  have := I.blkA
  rw [e, hc] at this
  simp only [Option.some.injEq, Obj.cells.injEq] at this
  exact absurd this.2.1 (by decide)
 refine ⟨I.ok, hv, fun m => ?_, hf, hS _ I.sA, hS _ I.sB, (hk.block ab (I.foot _ I.sA) hne).trans I.blkA, ho, by rw [List.length_set]; exact I.len, fun j hj => ?_⟩
 ·rw [hst]
  split
  ·exact hg
  ·exact I.gen m
 ·rw [hst]
  by_cases e : j = i
  ·subst e
   rw [if_pos rfl]
   exact ⟨p, by rw [List.getElem?_set, if_pos rfl, if_pos (by rw [I.len]; exact hi)]; rfl, hp⟩
  ·obtain ⟨p', h1, h2⟩ := I.each j hj
   rw [if_neg (by omega)]
   refine ⟨p', by rw [List.getElem?_set, if_neg (fun h => e h.symm)]; exact h1, (h2.keep hk fun k hs => ?_).mono hS⟩
   by_cases hk : k = sb
   ·subst hk
    obtain ⟨cur, hc, -⟩ := I.own.block
    exact .inr ⟨cur, _, hc, by decide, by decide, by decide⟩
   ·exact .inl hk
theorem ar_free_any (a : Addr) (S : Nat → Prop) (n l : Nat) (ps : List Pt) (x y : Int) (w : World) (h : ArInv w a S n l ps) :
  Calls Tryz.prog 84 #[.pointer (some a), refV x y] w fun ev w' => ∃ S', ev = .returned (errV (codeM n ps x y)) ∧ ArInv w' a S' n l (freeM n ps x y) ∧ Kept S w w' ∧ (∀ k, S' k → S k ∨ w.heap.size ≤ k) := by
 obtain ⟨ab, sb, ss, rfl, I0⟩ := h
 have b0 := alloc_below0 w (.cells #[.int .i64 x, .int .i64 y] 48)
 have I := I0.low b0
 have SL := Lib.hid (show ∀ k, S k → k < w.heap.size from I0.foot)
 have B0 := Lib.hid b0
 clear b0 I0
 rcases ar_find_cases I x y with ⟨i, q, d, j, p, h1, h2, h3, h4, h5, h6, h7, h8, h9, h10, h11, h12, hc⟩ | ⟨e, he, h5, hc⟩
 ·have F := Lib.hid (show _ ∧ _ ∧ _ ∧ _ ∧ _ from ⟨I, h1, h3, h11, h12⟩)
  have X := Lib.hid h10
  have HC := Lib.hid (show codeM n ps x y = 0 from h5)
  rw [h5]
  clear I h1 h2 h3 h4 h5 h6 h7 h8 h9 h10 h11 h12
  unfold refV at hc ⊢
  go_enter Tryz.func84, Tryz.ntmps84
  go_wp2_with fail
  refine hc.mono ?_
  rintro ev w1 ⟨rfl, hs⟩
  have I1 := Lib.hid (F.out.1.low hs)
  have B := Lib.hid (B0.out.trans (hs.mono B0.out.size))
  have X1 := Lib.hid (X.out.step hs)
  have c2 := X1.out.c2
  have f2 := I1.out.own.free (i * 3 + 2)
  clear hs hc
  go_wp2
  go_ret
  have s1 := I1.out.own.set (y := ((i : Int) + 1, y, none)) (u := .pointer none) F.out.2.2.2.1 (j := 2) (by decide) rfl
  have kk := (Kept.refl (fun k => k = sb) w1).setCell (i * 3 + 2) (.pointer none)
  have hv := (free_some I1.out.val HC.out)
  obtain ⟨-, -, -, -, -, -, -, hv, -⟩ := hv
  have hy := F.out.2.2.1
  rw [hy] at s1
  have IC := InvAt.change (S' := S) I1.out kk (fun _ h => h) (fun k hk => Nat.lt_of_lt_of_le (I1.out.foot k hk) kk.size) F.out.2.1 s1 F.out.2.2.2.2 (p := none) rfl hv (I1.out.gen _)
  exact ⟨S, rfl, ⟨_, _, _, rfl, IC⟩, (Kept.of_below (S := S) B.out).trans2 kk (fun _ h => h) (fun k h => h ▸ I1.out.sB), fun k h => .inl h⟩
 ·have F := Lib.hid I
  have HC := Lib.hid (show freeM n ps x y = ps from free_none (by rw [h5]; rcases he with rfl | rfl <;> decide))
  have HE := Lib.hid (show errV e = .iface 65 (.int .i64 e) by rcases he with rfl | rfl <;> rfl)
  rw [h5, HC.out]
  clear h5 he I
  unfold refV at hc ⊢
  go_enter Tryz.func84, Tryz.ntmps84
  go_wp2_with fail
  refine hc.mono ?_
  rintro ev w1 ⟨rfl, hs⟩
  have I1 := Lib.hid (F.out.low hs)
  have B := Lib.hid (B0.out.trans (hs.mono B0.out.size))
  clear hs hc
  go_wp2
  go_ret
  exact ⟨S, by rw [HE.out]; rfl, ⟨_, _, _, rfl, I1.out⟩, Kept.of_below B.out, fun k h => .inl h⟩
theorem load_end {w1 : World} {b : Nat} {cs0 : Array Value} {cs : List Value} {ev : Value} {a : Act} {Q : Ending → World → Prop} (h : w1.heap[b]? = some (.cells cs0 55 (0, 0))) (hev : a.tmps.getD 5 undef = ev) (hp : a.tmps.getD 4 undef = .pointer (some ⟨b, 0, none⟩)) (hd : a.defers = []) (hn : cs.length ≤ cs0.size)
  (hi : (Tryz.prog.info? 55).map (·.size) = some cs.length) (hq : Q (.returned (.tuple #[.agg cs.toArray, ev])) (w1.setCells b 0 cs)) : bodyPost Tryz.prog Tryz.f67 Q Exit.ret a (w1.setCells b 0 cs) :=
 bodyPost_ret (v := .tuple #[.agg cs.toArray, ev]) (results_cellT rfl _ _ b cs _ ev hp hev (World.rangeAt_setCells_same w1 b 0 cs (blk_there h cs.length hn)) Tryz.underlying55 rfl hi) hd hq
theorem load_any (a : Addr) (S : Nat → Prop) (n l : Nat) (ps : List Pt) (x y : Int) (w : World) (h : ArInv w a S n l ps) :
  Calls Tryz.prog 67 #[.pointer (some a), refV x y] w fun ev w' => ∃ rv en, ev = .returned (.tuple #[recVal (loadM n ps x y).sc rv en, errV (codeM n ps x y)]) ∧ OwnS lRow w.heap.size w' rv (loadM n ps x y).rows ∧ OwnS lEnt w.heap.size w' en (loadM n ps x y).ents ∧ Below w.heap.size w w' := by
 obtain ⟨ab, sb, ss, rfl, I0⟩ := h
 obtain ⟨W, hW⟩ : ∃ W, W = (w.alloc (.cells #[.int .i64 x, .int .i64 y] 48)).alloc (recObj Sc.zero (.slice none 0 0) (.slice none 0 0)) := ⟨_, rfl⟩
 have z1 : (w.alloc (.cells #[.int .i64 x, .int .i64 y] 48)).heap.size = w.heap.size + 1 := by simp
 have b1 := alloc_below0 w (.cells #[.int .i64 x, .int .i64 y] 48)
 have b2 := alloc_below0 (w.alloc (.cells #[.int .i64 x, .int .i64 y] 48)) (recObj Sc.zero (.slice none 0 0) (.slice none 0 0))
 have B0 := Lib.hid (show Below w.heap.size w W by rw [hW]; exact b1.trans (b2.mono b1.size))
 have I := I0.low B0.out
 have Z := Lib.hid (show W.heap.size = w.heap.size + 2 by rw [hW]; simp)
 have K1 := Lib.hid (show W.heap[w.heap.size + 1]? = some (recObj Sc.zero (.slice none 0 0) (.slice none 0 0)) by rw [hW, ← z1]; exact blk_new _ _)
 simp only [recObj, Sc.zero] at hW
 clear b1 b2 z1 I0
 rcases ar_find_cases I x y with ⟨i, q, d, j, p, h1, h2, h3, h4, h5, h6, h7, h8, h9, h10, h11, h12, hc⟩ | ⟨e, he, h5, hc⟩
 ·have hl : loadM n ps x y = d := by unfold loadM; rw [if_pos h5, h6]; simp only [Option.bind_some, h7]; exact h8
  rw [hl, h5]
  have X := Lib.hid h10
  have RS := Lib.hid h9
  clear I h1 h2 h3 h4 h5 h6 h7 h8 h9 h10 h11 h12 hl
  unfold refV at hc ⊢
  go_enter Tryz.func67, Tryz.ntmps67
  go_wp2_with fail
  rw [← hW]
  refine hc.mono ?_
  rintro ev w1 ⟨rfl, hs⟩
  obtain ⟨rv, en, m1, m2, m3, -⟩ := RS.out.mem
  have M1 := Lib.hid (show _ ∧ _ ∧ _ from ⟨blk_step m1 hs, m2.below hs, m3.below hs⟩)
  have B := Lib.hid (B0.out.trans (hs.mono B0.out.size))
  have X1 := Lib.hid (X.out.step hs)
  have c2 := X1.out.c2
  have K2 := Lib.hid (blk_step K1.out hs)
  clear hs hc m1 m2 m3 hW
  obtain ⟨sc, rows, ents⟩ := d
  have hrng : w1.rangeAt q 0 (recCells sc rv en) := rec_range M1.out.1
  go_wp2_with (refine wpList_load_mid rfl 55 (.tmp 22) rfl q 0 rfl (recCells sc rv en) _ hrng Tryz.underlying55 rfl (by kernel_rfl) ?_)
  refine (ar_clone_any (.agg (recCells sc rv en).toArray) ⟨sc, rows, ents⟩ _ ⟨rv, en, rfl, M1.out.2.1.sv, M1.out.2.2.sv⟩ RS.out.len1 RS.out.len2).mono ?_
  rintro ev w2 ⟨rv1, en1, rfl, o1, o2, hs⟩
  obtain ⟨a1, q1, rfl, -, -⟩ := o1.sv.lenform
  obtain ⟨a2, q2, rfl, -, -⟩ := o2.sv.lenform
  obtain ⟨nr, hnr⟩ : ∃ n, rows.length = n := ⟨_, rfl⟩
  obtain ⟨m, hm⟩ : ∃ m, ents.length = m := ⟨_, rfl⟩
  simp only at o1 o2
  rw [hnr] at o1 ⊢
  rw [hm] at o2 ⊢
  have K3 := Lib.hid (blk_step K2.out hs)
  have B2 := Lib.hid (B.out.trans (hs.mono B.out.size))
  have SZ := Lib.hid (show w.heap.size + 2 ≤ w1.heap.size by have := (Array.getElem?_eq_some_iff.1 K2.out).1; omega)
  have O1 := Lib.hid o1
  have O2 := Lib.hid o2
  clear hs hnr hm o1 o2 hrng c2
  unfold recVal
  go_wp2_with (refine wpList_store_mid rfl 55 (.tmp 4) (.tmp 24) rfl (w.heap.size + 1) 0 (recCells sc (.slice a1 nr q1) (.slice a2 m q2)).toArray rfl rfl (blk_there K3.out 15 (Nat.le_refl _)) (by kernel_rfl) (rec_one ..) ?_)
  have kp := Kept.setCells (b := w.heap.size + 1) (recCells sc (.slice a1 nr q1) (.slice a2 m q2)) 0 _ (Kept.refl _ w2)
  have Y1 := OwnS.kept O1.out kp (fun a k c hv hs => by have := (O1.out.bounds a.block (by rw [hv]; rfl)).1; have := SZ.out; omega)
  have Y2 := OwnS.kept O2.out kp (fun a k c hv hs => by have := (O2.out.bounds a.block (by rw [hv]; rfl)).1; have := SZ.out; omega)
  exact load_end K3.out rfl rfl rfl (Nat.le_refl 15) (by kernel_rfl) ⟨_, _, rfl, Y1.mono (by have := SZ.out; omega), Y2.mono (by have := SZ.out; omega), B2.out.trans (kp.below (n := w.heap.size) (fun k h => by omega) B2.out.size)⟩
 ·have hl : loadM n ps x y = RecD.zero := by unfold loadM; rw [if_neg (by rw [h5]; rcases he with rfl | rfl <;> decide)]
  have HE := Lib.hid (show errV e = .iface 65 (.int .i64 e) by rcases he with rfl | rfl <;> rfl)
  rw [hl, h5]
  clear h5 he I hl
  unfold refV at hc ⊢
  go_enter Tryz.func67, Tryz.ntmps67
  go_wp2_with fail
  rw [← hW]
  refine hc.mono ?_
  rintro ev w1 ⟨rfl, hs⟩
  have B := Lib.hid (B0.out.trans (hs.mono B0.out.size))
  have K2 := Lib.hid (blk_step K1.out hs)
  clear hs hc hW
  go_wp2_with (refine wpList_store_mid rfl 55 (.tmp 4) (.tmp 16) rfl (w.heap.size + 1) 0 (recCells Sc.zero (.slice none 0 0) (.slice none 0 0)).toArray rfl rfl (blk_there K2.out 15 (Nat.le_refl _)) (by kernel_rfl) (rec_one ..) ?_)
  exact load_end K2.out rfl rfl rfl (Nat.le_refl 15) (by kernel_rfl) ⟨_, _, by rw [HE.out]; rfl, OwnS.nil _ _ _, OwnS.nil _ _ _, B.out.trans ((Kept.setCells (b := w.heap.size + 1) (recCells Sc.zero (.slice none 0 0) (.slice none 0 0)) 0 _ (Kept.refl _ w1)).below (n := w.heap.size) (fun k h => by omega) B.out.size)⟩
end Go.Proofs.YtejmdmaebkdjoaaGreatDoor
