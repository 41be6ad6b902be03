/- Package mem's Alloc and Swap, by contracts. -/
import Derived.Test.YtaiaaljahnackaaMmChain
import Derived.Test.YtaiaaljahnackaaMmNew
import Derived.Deep.CutRange
namespace Go.Proofs.Ytaiaaljahnackaa
open Go.RowKit

/-- what an access to the clock may turn -/
def CM (m : MB) : Nat → Prop := fun k => k = m.mb ∨ k = m.cb ∨ k = m.kb
theorem CM.ck {m : MB} {w w' : World} (hk : Kept (CS m.cb m.kb) w w') : Kept (CM m) w w' := hk.wide fun _ _ h => .inr h
theorem CM.ms {m : MB} {S : Nat → Prop} : ∀ k, CM m k → MS m S k := fun _ h => h.elim .inl (fun h => h.elim (fun e => .inr (.inr (.inr (.inr (.inl e))))) (fun e => .inr (.inr (.inr (.inr (.inr e))))))
theorem MemAt.offC {w : World} {m : MB} {S : Nat → Prop} {l : LimN} {k : Int} {ps : List Pt} {L : List Pg} {c : Ck} (h : MemAt w m S l k ps L c) {b : Nat} {cs : Array Value} {T : TypeId} (hb : w.heap[b]? = some (.cells cs T (0, 0))) (h1 : T ≠ 82) (h2 : T ≠ 113) : ¬ CM m b := by
  rintro (e | e | e)
  · exact blk_ne hb h.blk h1 e
  · exact blk_ne hb h.ck.blk h2 e
  · exact map_ne hb h.ck.mapB e
theorem MemAt.offO {w : World} {m : MB} {S : Nat → Prop} {l : LimN} {k : Int} {ps : List Pt} {L : List Pg} {c : Ck} (h : MemAt w m S l k ps L c) {α : Type} {E : Lay α} {b : Nat} {v : Value} {xs : List α} (ho : OwnS E b w v xs) (h1 : E.ty ≠ 82) (h2 : E.ty ≠ 113) : Out (CM m) v := by
  intro a n c' hv hs
  subst hv
  obtain ⟨_, h'⟩ := ho
  rcases h' with ⟨e, -⟩ | ⟨g, cap, cur, e, -, hg, -⟩
  · cases e
  · obtain ⟨e1, -, -⟩ := Value.slice.inj e
    obtain rfl := Option.some.inj e1
    exact h.offC hg h1 h2 hs

set_option maxRecDepth 100000 in
set_option maxHeartbeats 4000000 in
theorem access_any (w : World) (m : MB) (S : Nat → Prop) (l : LimN) (k : Int) (ps : List Pt) (L : List Pg) (c : Ck) (h : MemAt w m S l k ps L c) :
    Calls Try.prog 30 #[.pointer (some ⟨m.mb, 0, none⟩)] w fun ev w' => ev = .returned (.tuple #[]) ∧ (∃ k', MemAt w' m S l k' ps L c) ∧ Kept (CM m) w w' := by
  have x0 := h.cN
  have M := Lib.hid h
  have fz := blk_free h.blk 0
  clear h
  go_enter Try.func30, Try.ntmps30
  go_wp2
  go_end0
  exact ⟨rfl, ⟨_, M.out.count _⟩, ((Kept.refl (fun k => k = m.mb) w).setCell _ _).wide fun _ _ h => .inl h⟩
open Go.RowKit

section
variable {P : Program} {ops : Array Oper} {Q : Exit → Act → World → Prop} {md : Region.Mode} {S : World → Prop}
/-- one operation comes up; S holds behind it, too -/
theorem anyH_one {i : Nat} {o : Oper} {f : Nat} {listed : Array Bool} {a : Act} {w : World} (hr : Region.ready md ops listed = [i]) (ho : ops[i]? = some o)
    (h : ∀ K' : Act → World → Prop, Shut (∀ a w, S w → wpAnyH P md ops Q S f (listed.setIfInBounds i true) a w → K' a w) → if Region.wanted o (yielded ops a.tmps) = true then Oper.wp P o a w K' Q else K' (a.put o.dst undef) w) :
    wpAnyH P md ops Q S (f + 1) listed a w := by
  refine ⟨fun h0 => (by rw [hr] at h0; cases h0), fun j hj => ?_⟩
  rw [hr, List.mem_singleton] at hj
  subst hj
  exact wpOp_step ho (fun K' hK => h K' (fun a w hS hW => hK a w ⟨hS, hW⟩))
theorem anyH_region {id : Nat} {a : Act} {w : World} (S : World → Prop) (hm : P.follows .mixedOrders = true)
    (h : wpAnyH P .any ops Q S ops.size (Array.replicate ops.size false) a w.drew) : (Code.region id ops true).wp P Q a w :=
  wp_region_any hm (wpAny_of_held _ _ _ _ h)
theorem anyH_two {i j : Nat} {o u : Oper} {f : Nat} {listed : Array Bool} {a : Act} {w : World} (hr : Region.ready md ops listed = [i, j]) (ho : ops[i]? = some o) (hu : ops[j]? = some u)
    (h : ∀ K' : Act → World → Prop, Shut (∀ a w, S w → wpAnyH P md ops Q S f (listed.setIfInBounds i true) a w → K' a w) → if Region.wanted o (yielded ops a.tmps) = true then Oper.wp P o a w K' Q else K' (a.put o.dst undef) w)
    (h2 : ∀ K' : Act → World → Prop, Shut (∀ a w, S w → wpAnyH P md ops Q S f (listed.setIfInBounds j true) a w → K' a w) → if Region.wanted u (yielded ops a.tmps) = true then Oper.wp P u a w K' Q else K' (a.put u.dst undef) w) :
    wpAnyH P md ops Q S (f + 1) listed a w := by
  refine ⟨fun h0 => (by rw [hr] at h0; cases h0), fun q hq => ?_⟩
  rw [hr] at hq
  simp only [List.mem_cons, List.not_mem_nil, or_false] at hq
  rcases hq with rfl | rfl
  · exact wpOp_step ho (fun K' hK => h K' (fun a w hS hW => hK a w ⟨hS, hW⟩))
  · exact wpOp_step hu (fun K' hK => h2 K' (fun a w hS hW => hK a w ⟨hS, hW⟩))
end
theorem blk_rng {w : World} {b : Nat} {cs : List Value} {T : TypeId} (h : w.heap[b]? = some (.cells cs.toArray T (0, 0))) : w.rangeAt b 0 cs := fun j u hj => by
  rw [Nat.zero_add, blk_cell h, ← hj]; simp
theorem MemAt.offB {w : World} {m : MB} {S : Nat → Prop} {l : LimN} {k : Int} {ps : List Pt} {L : List Pg} {c : Ck} (h : MemAt w m S l k ps L c) {b : Nat} (hb : w.heap.size ≤ b) : ¬ MS m S b := fun hm => by have := h.lt b hm; omega
theorem ErrF.keepF {w w' : World} {v : Value} {e : Int} (h : ErrF w v e) {b : Nat} (hk : Kept (fun x => x = b) w w') {cs : Array Value} {T : TypeId} (hb : w.heap[b]? = some (.cells cs T (0, 0))) (hT : T ≠ 126) : ErrF w' v e := by
  rcases h with h | ⟨h0, h | ⟨b', pl, x, h1, h2⟩⟩
  · exact .inl h
  · exact .inr ⟨h0, .inl h⟩
  · refine .inr ⟨h0, .inr ⟨b', pl, x, h1, (hk.block b' (Array.getElem?_eq_some_iff.1 h2).1 (fun e => ?_)).trans h2⟩⟩
    exact blk_ne h2 hb (Ne.symm hT) e
theorem RecV.bare (sc : Sc) (w : World) : RecV w (recVal sc (.slice none 0 0) (.slice none 0 0)) ⟨sc, [], []⟩ := ⟨_, _, rfl, SV.nil _ _, SV.nil _ _⟩
set_option maxRecDepth 100000 in
set_option maxHeartbeats 4000000 in
theorem mAlloc_any (w : World) (m : MB) (S : Nat → Prop) (l : LimN) (k : Int) (ps : List Pt) (L : List Pg) (c : Ck) (sc : Sc) (h : MemAt w m S l k ps L c) :
    Calls Try.prog 62 #[.pointer (some ⟨m.mb, 0, none⟩), recVal sc (.slice none 0 0) (.slice none 0 0)] w fun ev w' => ∃ S' v, ev = .returned (.tuple #[refV ((allocM l.s l.c ps).1 : Int) ((allocM l.s l.c ps).2.1 : Int), v]) ∧ ErrF w' v (allocM l.s l.c ps).2.2 ∧ (∃ k', MemAt w' m S' l k' (putM l.s l.c ps ⟨sc, [], []⟩) L c) ∧ Kept (MS m S) w w' ∧ (∀ j, MS m S' j → MS m S j ∨ w.heap.size ≤ j) := by
  obtain ⟨W0, hW0⟩ : ∃ W, W = (w.alloc (recObj sc (.slice none 0 0) (.slice none 0 0))).alloc (.cells #[.int .i64 0, .int .i64 0] 34) := ⟨_, rfl⟩
  have b0 : Below w.heap.size w W0 := by rw [hW0]; exact (alloc_below0 _ _).trans ((alloc_below0 _ _).mono (alloc_below0 w _).size)
  have M0 := Lib.hid (h.low b0)
  have hr0 : W0.heap[w.heap.size]? = some (recObj sc (.slice none 0 0) (.slice none 0 0)) := by rw [hW0]; exact blk_step (blk_new w _) (alloc_below0 _ _)
  have hz0 : W0.heap[w.heap.size + 1]? = some (.cells #[.int .i64 0, .int .i64 0] 34) := by rw [hW0, show w.heap.size + 1 = (w.alloc (recObj sc (.slice none 0 0) (.slice none 0 0))).heap.size by simp]; exact blk_new _ _
  have B0 := Lib.hid b0
  have LTW := Lib.hid (show ∀ j, MS m S j → j < w.heap.size from h.lt)
  have Z0 := Lib.hid (show W0.heap.size = w.heap.size + 2 by rw [hW0]; simp)
  have R0 := Lib.hid hr0
  have T0 := Lib.hid hz0
  clear h b0 hr0 hz0
  unfold recVal
  unfold recObj at hW0
  go_enter Try.func62, Try.ntmps62
  go_wp2_with fail
  rw [← hW0]
  clear hW0
  refine (access_any _ m S l k ps L c M0.out).mono ?_
  rintro ev w1 ⟨rfl, ⟨k1, hM⟩, hk⟩
  have M1 := Lib.hid hM
  have K1 := Lib.hid ((Kept.of_below B0.out).trans (hk.wide fun _ _ h => CM.ms (S := S) _ h))
  have S1 := Lib.hid hk.size
  have R1 := Lib.hid ((hk.block _ (Array.getElem?_eq_some_iff.1 R0.out).1 (M0.out.offC R0.out (by decide) (by decide))).trans R0.out)
  have T1 := Lib.hid ((hk.block _ (Array.getElem?_eq_some_iff.1 T0.out).1 (M0.out.offC T0.out (by decide) (by decide))).trans T0.out)
  clear hM hk
  go_upto_region 4 with (fail)
  go_cut [6, 7] from 17 to 25 (fun s6 s7 wc => ∃ (b : Nat) (S' : Nat → Prop), s6 = .pointer (some ⟨b, 0, none⟩) ∧ s7 = errV (allocM l.s l.c ps).2.2 ∧ RfB wc b ((allocM l.s l.c ps).1 : Int) ((allocM l.s l.c ps).2.1 : Int) ∧ w1.heap.size ≤ b ∧ MemAt wc m S' l k1 (putM l.s l.c ps ⟨sc, [], []⟩) L c ∧ (∀ j, S' j → S j ∨ w1.heap.size ≤ j) ∧ Kept S w1 wc)
  case first =>
    go_wp2_with fail
    have HS := Lib.hid (show ∀ w', Kept S w1 w' → (fun w' => w'.cell? ⟨m.mb, 7, none⟩ = some (.pointer (some m.aa)) ∧ w'.rangeAt w.heap.size 0 (recCells sc (.slice none 0 0) (.slice none 0 0))) w' from fun w' hk => ⟨by rw [World.cell?_of_block (a := ⟨m.mb, 7, none⟩) (hk.block m.mb (Array.getElem?_eq_some_iff.1 M1.out.blk).1 M1.out.oM)]; exact M1.out.cA, blk_rng ((hk.block _ (Array.getElem?_eq_some_iff.1 R1.out).1 (fun hs => Nat.lt_irrefl _ (LTW.out _ (.inr (.inl hs))))).trans R1.out)⟩)
    have KD := Lib.hid (Kept.refl S w1).drew
    have SD := Lib.hid (HS.out _ KD.out)
    have MD := Lib.hid (M1.out.low (Below.refl _ _).drew)
    refine anyH_region (fun w' => w'.cell? ⟨m.mb, 7, none⟩ = some (.pointer (some m.aa)) ∧ w'.rangeAt w.heap.size 0 (recCells sc (.slice none 0 0) (.slice none 0 0))) (by kernel_rfl) ?_
    refine wpAnyH_take (i := 0) (oi := ⟨some 17, _, _, _, _, _⟩) (v := ?va0) rfl (by kernel_rfl) (by kernel_rfl) (by kernel_rfl) (fun _ _ _ h => h) (Or.inl ⟨by rfl, ?hya0⟩) SD.out ?resta0
    case hya0 => (intro w hSw; go_simp; try (with_reducible rfl))
    simp only [Act.put, List.setIfInBounds_toArray, List.set_cons_zero, List.set_cons_succ]
    refine wpAnyH_take (i := 1) (oi := ⟨some 18, _, _, _, _, _⟩) (v := ?va1) rfl (by kernel_rfl) (by kernel_rfl) (by kernel_rfl) (fun _ _ _ h => h) (Or.inl ⟨by rfl, ?hya1⟩) SD.out ?resta1
    case hya1 => (intro w hSw; go_simp; try (with_reducible rfl))
    simp only [Act.put, List.setIfInBounds_toArray, List.set_cons_zero, List.set_cons_succ]
    refine wpAnyH_take (i := 2) (oi := ⟨some 19, _, _, _, _, _⟩) (v := ?va2) rfl (by kernel_rfl) (by kernel_rfl) (by kernel_rfl) (fun _ _ _ h => h) (Or.inl ⟨by rfl, ?hya2⟩) SD.out ?resta2
    case hya2 => (intro w hSw; go_simp; try (with_reducible rfl))
    simp only [Act.put, List.setIfInBounds_toArray, List.set_cons_zero, List.set_cons_succ]
    refine wpAnyH_take (i := 3) (oi := ⟨some 20, _, _, _, _, _⟩) (v := ?va3) rfl (by kernel_rfl) (by kernel_rfl) (by kernel_rfl) (fun _ _ _ h => h) (Or.inl ⟨by rfl, ?hya3⟩) SD.out ?resta3
    case hya3 => (intro w hSw; go_simp; try (with_reducible rfl))
    simp only [Act.put, List.setIfInBounds_toArray, List.set_cons_zero, List.set_cons_succ]
    refine wpAnyH_take (i := 4) (oi := ⟨some 21, _, _, _, _, _⟩) (v := .agg (recCells sc (.slice none 0 0) (.slice none 0 0)).toArray) rfl (by kernel_rfl) (by kernel_rfl) (by kernel_rfl) (fun _ _ _ h => h) (yieldsIf_load_mid (by rfl) 44 (.tmp 3) rfl w.heap.size 0 rfl (recCells sc (.slice none 0 0) (.slice none 0 0)) _ (fun w h => h.2) Try.underlying44 rfl recInfoS) SD.out ?resta4
    simp only [Act.put, List.setIfInBounds_toArray, List.set_cons_zero, List.set_cons_succ]
    refine anyH_two (i := 5) (j := 9) (o := ⟨some 22, _, _, _, _, _⟩) (u := ⟨some 6, _, _, _, _, _⟩) (by kernel_rfl) rfl rfl (fun K hK => ?_) (fun K hK => ?_)
    · rw [if_pos (by rfl)]
      go_simp
      refine (alloc_any m.aa _ S l.s l.c ps ⟨sc, [], []⟩ _ MD.out.ar (RecV.bare sc _) (show 0 ≤ 1000 by decide) (show 0 ≤ 1000 by decide)).mono ?_
      rintro e2 w2 ⟨S', rfl, hI, hk, hS⟩
      have K2 := Lib.hid (KD.out.trans hk)
      have M2 := Lib.hid (MD.out.arena hI hk hS)
      have HS2 := Lib.hid (show ∀ j, S' j → S j ∨ w1.heap.size ≤ j from hS)
      clear hI hk hS
      unfold refV
      refine hK.out _ _ (HS.out _ K2.out) ?_
      clear hK K
      try simp only [Act.put, List.setIfInBounds_toArray, List.set_cons_zero, List.set_cons_succ]
      refine wpAnyH_take (i := 6) (oi := ⟨some 16, _, _, _, _, _⟩) (v := ?vb6) rfl (by kernel_rfl) (by kernel_rfl) (by kernel_rfl) (fun _ _ _ h => h) (Or.inl ⟨by rfl, ?hyb6⟩) (HS.out _ K2.out) ?restb6
      case hyb6 => (intro w hSw; go_simp; try (with_reducible rfl))
      simp only [Act.put, List.setIfInBounds_toArray, List.set_cons_zero, List.set_cons_succ]
      refine wpAnyH_take (i := 7) (oi := ⟨some 23, _, _, _, _, _⟩) (v := ?vb7) rfl (by kernel_rfl) (by kernel_rfl) (by kernel_rfl) (fun _ _ _ h => h) (Or.inl ⟨by rfl, ?hyb7⟩) (HS.out _ K2.out) ?restb7
      case hyb7 => (intro w hSw; go_simp; try (with_reducible rfl))
      simp only [Act.put, List.setIfInBounds_toArray, List.set_cons_zero, List.set_cons_succ]
      refine wpAnyH_take (i := 8) (oi := ⟨some 24, _, _, _, _, _⟩) (v := ?vb8) rfl (by kernel_rfl) (by kernel_rfl) (by kernel_rfl) (fun _ _ _ h => h) (Or.inl ⟨by rfl, ?hyb8⟩) (HS.out _ K2.out) ?restb8
      case hyb8 => (intro w hSw; go_simp; try (with_reducible rfl))
      simp only [Act.put, List.setIfInBounds_toArray, List.set_cons_zero, List.set_cons_succ]
      have b3 := Lib.hid (alloc_below0 w2 (.cells #[.int .i64 0, .int .i64 0] 34))
      have K3 := Lib.hid (K2.out.trans (Kept.of_below b3.out))
      have M3 := Lib.hid (M2.out.low b3.out)
      have z3 := Lib.hid (blk_new w2 (.cells #[.int .i64 0, .int .i64 0] 34))
      have o3 := Lib.hid (M2.out.offB (Nat.le_refl _))
      refine anyH_one (i := 9) (o := ⟨some 6, _, _, _, _, _⟩) (by kernel_rfl) rfl (fun K hK => ?_)
      rw [if_pos (by rfl)]
      go_simp
      refine hK.out _ _ (HS.out _ K3.out) ?_
      clear hK K
      try simp only [Act.put, List.setIfInBounds_toArray, List.set_cons_zero, List.set_cons_succ]
      refine anyH_one (i := 10) (o := ⟨none, _, _, _, _, _⟩) (by kernel_rfl) rfl (fun K hK => ?_)
      rw [if_pos (by rfl)]
      refine wp_store_mid 34 (.tmp 6) (.tmp 23) rfl w2.heap.size 0 ([.int .i64 ((allocM l.s l.c ps).1 : Int), .int .i64 ((allocM l.s l.c ps).2.1 : Int)] : List Value).toArray rfl rfl (blk_there z3.out 2 (Nat.le_refl _)) (by kernel_rfl) (by kernel_rfl) ?_
      have nb := Lib.hid (show w1.heap.size ≤ w2.heap.size by have := KD.out.size; have := K2.out.size; first | omega | exact Nat.le_refl _ | assumption)
      have K4 := Lib.hid ((K3.out.setNew nb.out 0 (.int .i64 ((allocM l.s l.c ps).1 : Int))).setNew nb.out 1 (.int .i64 ((allocM l.s l.c ps).2.1 : Int)))
      have M4 := Lib.hid (M3.out.keep (Kept.setCells [.int .i64 ((allocM l.s l.c ps).1 : Int), .int .i64 ((allocM l.s l.c ps).2.1 : Int)] 0 _ (Kept.refl (fun x => x = w2.heap.size) _)) (fun j hj e => o3.out (e ▸ hj)))
      have r4 := Lib.hid (list_laid [.int .i64 ((allocM l.s l.c ps).1 : Int), .int .i64 ((allocM l.s l.c ps).2.1 : Int)] z3.out rfl)
      refine hK.out _ _ (HS.out _ K4.out) ?_
      clear hK K
      try simp only [Act.put]
      refine anyH_one (i := 11) (o := ⟨some 7, _, _, _, _, _⟩) (by kernel_rfl) rfl (fun K hK => ?_)
      rw [if_pos (by rfl)]
      go_simp
      refine hK.out _ _ (HS.out _ K4.out) ?_
      clear hK K
      try simp only [Act.put, List.setIfInBounds_toArray, List.set_cons_zero, List.set_cons_succ]
      refine wpAnyH_done (by kernel_rfl) ?_ _
      go_wp2
      go_meet
      case rel => exact ⟨_, S', rfl, rfl, ⟨r4.out⟩, nb.out, M4.out, HS2.out, K4.out⟩
    · have b3 := Lib.hid (alloc_below0 w1.drew (.cells #[.int .i64 0, .int .i64 0] 34))
      have z2 := Lib.hid (blk_new w1.drew (.cells #[.int .i64 0, .int .i64 0] 34))
      have MB2 := Lib.hid (MD.out.low b3.out)
      have KB2 := Lib.hid (KD.out.trans (Kept.of_below b3.out))
      have o2 := Lib.hid (MD.out.offB (Nat.le_refl w1.drew.heap.size))
      have zs := Lib.hid (show (w1.drew.alloc (.cells #[.int .i64 0, .int .i64 0] 34)).heap.size = w1.heap.size + 1 from by show (w1.drew.heap.push _).size = _; rw [Array.size_push]; rfl)
      rw [if_pos (by rfl)]
      go_simp
      refine hK.out _ _ (HS.out _ KB2.out) ?_
      clear hK K
      try simp only [Act.put, List.setIfInBounds_toArray, List.set_cons_zero, List.set_cons_succ]
      refine anyH_one (i := 5) (o := ⟨some 22, _, _, _, _, _⟩) (by kernel_rfl) rfl (fun K hK => ?_)
      rw [if_pos (by rfl)]
      go_simp
      refine (alloc_any m.aa _ S l.s l.c ps ⟨sc, [], []⟩ _ MB2.out.ar (RecV.bare sc _) (show 0 ≤ 1000 by decide) (show 0 ≤ 1000 by decide)).mono ?_
      rintro e2 w2 ⟨S', rfl, hI, hk, hS⟩
      have K2 := Lib.hid (KB2.out.trans hk)
      have M2 := Lib.hid (MB2.out.arena hI hk hS)
      have HS2 := Lib.hid (show ∀ j, S' j → S j ∨ w1.heap.size ≤ j from fun j hj => (hS j hj).imp id (fun h => by have := zs.out; omega))
      have o3 := Lib.hid (show ¬ MS m S' w1.heap.size from fun hm => by
        rcases hm with e | hs | e
        · exact o2.out (.inl e)
        · rcases hS _ hs with h | h
          · exact o2.out (.inr (.inl h))
          · have := zs.out; omega
        · exact o2.out (.inr (.inr e)))
      have z3 := Lib.hid ((hk.block _ (by have := zs.out; show w1.heap.size < _; omega) (fun h => o2.out (.inr (.inl h)))).trans z2.out)
      clear hI hk hS
      unfold refV
      refine hK.out _ _ (HS.out _ K2.out) ?_
      clear hK K
      try simp only [Act.put, List.setIfInBounds_toArray, List.set_cons_zero, List.set_cons_succ]
      refine wpAnyH_take (i := 6) (oi := ⟨some 16, _, _, _, _, _⟩) (v := ?vc6) rfl (by kernel_rfl) (by kernel_rfl) (by kernel_rfl) (fun _ _ _ h => h) (Or.inl ⟨by rfl, ?hyc6⟩) (HS.out _ K2.out) ?restc6
      case hyc6 => (intro w hSw; go_simp; try (with_reducible rfl))
      simp only [Act.put, List.setIfInBounds_toArray, List.set_cons_zero, List.set_cons_succ]
      refine wpAnyH_take (i := 7) (oi := ⟨some 23, _, _, _, _, _⟩) (v := ?vc7) rfl (by kernel_rfl) (by kernel_rfl) (by kernel_rfl) (fun _ _ _ h => h) (Or.inl ⟨by rfl, ?hyc7⟩) (HS.out _ K2.out) ?restc7
      case hyc7 => (intro w hSw; go_simp; try (with_reducible rfl))
      simp only [Act.put, List.setIfInBounds_toArray, List.set_cons_zero, List.set_cons_succ]
      refine wpAnyH_take (i := 8) (oi := ⟨some 24, _, _, _, _, _⟩) (v := ?vc8) rfl (by kernel_rfl) (by kernel_rfl) (by kernel_rfl) (fun _ _ _ h => h) (Or.inl ⟨by rfl, ?hyc8⟩) (HS.out _ K2.out) ?restc8
      case hyc8 => (intro w hSw; go_simp; try (with_reducible rfl))
      simp only [Act.put, List.setIfInBounds_toArray, List.set_cons_zero, List.set_cons_succ]
      have K3 := Lib.hid K2.out
      have M3 := Lib.hid M2.out
      refine anyH_one (i := 10) (o := ⟨none, _, _, _, _, _⟩) (by kernel_rfl) rfl (fun K hK => ?_)
      rw [if_pos (by rfl)]
      refine wp_store_mid 34 (.tmp 6) (.tmp 23) rfl w1.heap.size 0 ([.int .i64 ((allocM l.s l.c ps).1 : Int), .int .i64 ((allocM l.s l.c ps).2.1 : Int)] : List Value).toArray rfl rfl (blk_there z3.out 2 (Nat.le_refl _)) (by kernel_rfl) (by kernel_rfl) ?_
      have nb := Lib.hid (show w1.heap.size ≤ w1.heap.size by have := KD.out.size; have := K2.out.size; first | omega | exact Nat.le_refl _ | assumption)
      have K4 := Lib.hid ((K3.out.setNew nb.out 0 (.int .i64 ((allocM l.s l.c ps).1 : Int))).setNew nb.out 1 (.int .i64 ((allocM l.s l.c ps).2.1 : Int)))
      have M4 := Lib.hid (M3.out.keep (Kept.setCells [.int .i64 ((allocM l.s l.c ps).1 : Int), .int .i64 ((allocM l.s l.c ps).2.1 : Int)] 0 _ (Kept.refl (fun x => x = w1.heap.size) _)) (fun j hj e => o3.out (e ▸ hj)))
      have r4 := Lib.hid (list_laid [.int .i64 ((allocM l.s l.c ps).1 : Int), .int .i64 ((allocM l.s l.c ps).2.1 : Int)] z3.out rfl)
      refine hK.out _ _ (HS.out _ K4.out) ?_
      clear hK K
      try simp only [Act.put]
      refine anyH_one (i := 11) (o := ⟨some 7, _, _, _, _, _⟩) (by kernel_rfl) rfl (fun K hK => ?_)
      rw [if_pos (by rfl)]
      go_simp
      refine hK.out _ _ (HS.out _ K4.out) ?_
      clear hK K
      try simp only [Act.put, List.setIfInBounds_toArray, List.set_cons_zero, List.set_cons_succ]
      refine wpAnyH_done (by kernel_rfl) ?_ _
      go_wp2
      go_meet
      case rel => exact ⟨_, S', rfl, rfl, ⟨r4.out⟩, nb.out, M4.out, HS2.out, K4.out⟩
  case rest =>
    obtain ⟨b, S', rfl, rfl, hR, hb, hM, hS, hk⟩ := hcut
    obtain ⟨wL, hwq⟩ : ∃ x, x = wc := ⟨_, rfl⟩
    subst hwq
    have M2 := Lib.hid hM
    have R2 := Lib.hid hR
    have K2 := Lib.hid (K1.out.trans (MS.ar (m := m) hk))
    have T2 := Lib.hid ((hk.block _ (Array.getElem?_eq_some_iff.1 T1.out).1 (fun h => by have := LTW.out _ (.inr (.inl h)); omega)).trans T1.out)
    have NB := Lib.hid (show w.heap.size + 2 ≤ b by have := Z0.out; have := S1.out; omega)
    have HS := Lib.hid (show ∀ j, S' j → S j ∨ w.heap.size + 2 ≤ j from fun j hj => (hS j hj).imp id (fun h => by have := Z0.out; have := S1.out; omega))
    clear hM hR hk hS hb
    have fa := fun w => fAt_any ⟨#[97, 114, 101, 110, 97]⟩ 0 (allocM l.s l.c ps).2.2 w
    go_wp2_with fail
    have BD := Lib.hid (Below.refl wL.heap.size wL).drew
    have HS5 := Lib.hid (show ∀ w', Below wL.heap.size wL w' → (fun w' => w'.cell? ⟨b, 0, none⟩ = some (.int .i64 ((allocM l.s l.c ps).1 : Int)) ∧ w'.cell? ⟨b, 1, none⟩ = some (.int .i64 ((allocM l.s l.c ps).2.1 : Int))) w' from fun w' hs => ⟨(R2.out.step hs).c0, (R2.out.step hs).c1⟩)
    have SD := Lib.hid (HS5.out _ BD.out)
    refine anyH_region (fun w' => w'.cell? ⟨b, 0, none⟩ = some (.int .i64 ((allocM l.s l.c ps).1 : Int)) ∧ w'.cell? ⟨b, 1, none⟩ = some (.int .i64 ((allocM l.s l.c ps).2.1 : Int))) (by kernel_rfl) ?_
    refine wpAnyH_take (i := 0) (oi := ⟨some 25, _, _, _, _, _⟩) (v := ?ve0) rfl (by kernel_rfl) (by kernel_rfl) (by kernel_rfl) (fun _ _ _ h => h) (Or.inl ⟨by rfl, ?hye0⟩) SD.out ?reste0
    case hye0 => (intro w hSw; go_simp; try (with_reducible rfl))
    simp only [Act.put, List.setIfInBounds_toArray, List.set_cons_zero, List.set_cons_succ]
    refine wpAnyH_take (i := 1) (oi := ⟨some 26, _, _, _, _, _⟩) (v := ?ve1) rfl (by kernel_rfl) (by kernel_rfl) (by kernel_rfl) (fun _ _ _ h => h) (Or.inl ⟨by rfl, ?hye1⟩) SD.out ?reste1
    case hye1 => (intro w hSw; go_simp; try (with_reducible rfl))
    simp only [Act.put, List.setIfInBounds_toArray, List.set_cons_zero, List.set_cons_succ]
    refine anyH_one (i := 2) (o := ⟨some 27, _, _, _, _, _⟩) (by kernel_rfl) rfl (fun K hK => ?_)
    rw [if_pos (by rfl)]
    go_simp
    refine (fa _).mono ?_
    rintro ev w3 ⟨v, rfl, he, hs⟩
    have B3 := Lib.hid (BD.out.trans hs)
    have E3 := Lib.hid he
    clear he hs
    refine hK.out _ _ (HS5.out _ B3.out) ?_
    clear hK K
    try simp only [Act.put, List.setIfInBounds_toArray, List.set_cons_zero, List.set_cons_succ]
    have T3 := Lib.hid (blk_step T2.out B3.out)
    have M3 := Lib.hid (M2.out.low B3.out)
    refine anyH_one (i := 3) (o := ⟨none, _, _, _, _, _⟩) (by kernel_rfl) rfl (fun K hK => ?_)
    rw [if_pos (by rfl)]
    refine wp_store_mid 34 (.tmp 4) (.tmp 25) rfl (w.heap.size + 1) 0 ([.int .i64 ((allocM l.s l.c ps).1 : Int), .int .i64 ((allocM l.s l.c ps).2.1 : Int)] : List Value).toArray rfl rfl (blk_there T3.out 2 (Nat.le_refl _)) (by kernel_rfl) (by kernel_rfl) ?_
    have ks := Lib.hid (Kept.setCells [.int .i64 ((allocM l.s l.c ps).1 : Int), .int .i64 ((allocM l.s l.c ps).2.1 : Int)] 0 w3 (Kept.refl (fun x => x = w.heap.size + 1) w3))
    have R4 := Lib.hid ((R2.out.step B3.out).keep ks.out (by have := NB.out; omega))
    skip
    have K4 := Lib.hid (((K2.out.trans (Kept.of_below B3.out)).setNew (b := w.heap.size + 1) (by omega) 0 (.int .i64 ((allocM l.s l.c ps).1 : Int))).setNew (b := w.heap.size + 1) (by omega) 1 (.int .i64 ((allocM l.s l.c ps).2.1 : Int)))
    have nT := Lib.hid (show ¬ MS m S' (w.heap.size + 1) from fun hm => by
      rcases hm with e | hs | e
      · have := LTW.out _ (.inl e); omega
      · rcases HS.out _ hs with h | h
        · have := LTW.out _ (.inr (.inl h)); omega
        · omega
      · have := LTW.out _ (.inr (.inr e)); omega)
    have M4 := Lib.hid (M3.out.keep ks.out (fun j hj e => nT.out (e ▸ hj)))
    have E4 := Lib.hid (E3.out.keepF ks.out T3.out (by decide))
    have r4 := Lib.hid (list_laid [.int .i64 ((allocM l.s l.c ps).1 : Int), .int .i64 ((allocM l.s l.c ps).2.1 : Int)] T3.out rfl)
    refine hK.out _ _ ⟨R4.out.c0, R4.out.c1⟩ ?_
    clear hK K
    try simp only [Act.put]
    refine anyH_one (i := 4) (o := ⟨some 5, _, _, _, _, _⟩) (by kernel_rfl) rfl (fun K hK => ?_)
    rw [if_pos (by rfl)]
    go_simp
    refine hK.out _ _ ⟨R4.out.c0, R4.out.c1⟩ ?_
    clear hK K
    try simp only [Act.put, List.setIfInBounds_toArray, List.set_cons_zero, List.set_cons_succ]
    refine wpAnyH_done (by kernel_rfl) ?_ _
    go_wp2
    refine bodyPost_ret (v := .tuple #[.agg ([.int .i64 ((allocM l.s l.c ps).1 : Int), .int .i64 ((allocM l.s l.c ps).2.1 : Int)] : List Value).toArray, v]) (results_cellT rfl _ _ (w.heap.size + 1) _ _ _ rfl rfl (blk_rng r4.out) Try.underlying34 rfl (by kernel_rfl)) rfl ?_
    refine ⟨S', v, rfl, E4.out, ⟨_, M4.out⟩, K4.out, fun j hj => ?_⟩
    rcases hj with h | h | h
    · exact .inl (.inl h)
    · exact (HS.out j h).imp (fun h => .inr (.inl h)) (fun h => by omega)
    · exact .inl (.inr (.inr h))
set_option maxRecDepth 100000 in
set_option maxHeartbeats 4000000 in
theorem mSwap_any (w : World) (m : MB) (S : Nat → Prop) (l : LimN) (k : Int) (ps : List Pt) (L : List Pg) (c : Ck) (x os og ns ng : Int) (h : MemAt w m S l k ps L c) :
    Calls Try.prog 63 #[.pointer (some ⟨m.mb, 0, none⟩), .int .i64 x, refV os og, refV ns ng] w fun ev w' => ∃ v, ev = .returned (.tuple #[.bool (swapB L x (os, og)), v]) ∧ ErrF w' v (codeT L x) ∧ (∃ k', MemAt w' m S l k' ps (swapL L x (os, og) (ns, ng)) c) ∧ Kept (MS m S) w w' := by
  obtain ⟨W0, hW0⟩ : ∃ W, W = (w.alloc (.cells #[.int .i64 os, .int .i64 og] 34)).alloc (.cells #[.int .i64 ns, .int .i64 ng] 34) := ⟨_, rfl⟩
  have b0 : Below w.heap.size w W0 := by rw [hW0]; exact (alloc_below0 _ _).trans ((alloc_below0 _ _).mono (alloc_below0 w _).size)
  have M0 := Lib.hid (h.low b0)
  have ho0 : W0.heap[w.heap.size]? = some (.cells #[.int .i64 os, .int .i64 og] 34) := by rw [hW0]; exact blk_step (blk_new w _) (alloc_below0 _ _)
  have hn0 : W0.heap[w.heap.size + 1]? = some (.cells #[.int .i64 ns, .int .i64 ng] 34) := by rw [hW0, show w.heap.size + 1 = (w.alloc (.cells #[.int .i64 os, .int .i64 og] 34)).heap.size by simp]; exact blk_new _ _
  have B0 := Lib.hid b0
  have LTW := Lib.hid (show ∀ j, MS m S j → j < w.heap.size from h.lt)
  have O0 := Lib.hid (RfB.mk ho0)
  have N0 := Lib.hid (RfB.mk hn0)
  clear h b0 ho0 hn0
  unfold refV
  go_enter Try.func63, Try.ntmps63
  go_wp2_with fail
  rw [← hW0]
  clear hW0
  refine (access_any _ m S l k ps L c M0.out).mono ?_
  rintro ev w1 ⟨rfl, ⟨k1, hM⟩, hk⟩
  have M1 := Lib.hid hM
  have K1 := Lib.hid ((Kept.of_below B0.out).trans (hk.wide fun _ _ h => CM.ms (S := S) _ h))
  have O1 := Lib.hid (O0.out.keep hk (M0.out.offC O0.out.blk (by decide) (by decide)))
  have N1 := Lib.hid (N0.out.keep hk (M0.out.offC N0.out.blk (by decide) (by decide)))
  clear hM hk
  go_wp2_with fail
  have MD := Lib.hid (M1.out.low (Below.refl _ _).drew)
  have OD := Lib.hid (O1.out.step (Below.refl _ _).drew)
  have ND := Lib.hid (N1.out.step (Below.refl _ _).drew)
  have SD := Lib.hid (show (fun w' => w'.cell? ⟨m.mb, 8, none⟩ = some (.pointer (some ⟨m.ab, 0, none⟩)) ∧ w'.cell? ⟨w.heap.size, 0, none⟩ = some (.int .i64 os) ∧ w'.cell? ⟨w.heap.size, 1, none⟩ = some (.int .i64 og) ∧ w'.cell? ⟨w.heap.size + 1, 0, none⟩ = some (.int .i64 ns) ∧ w'.cell? ⟨w.heap.size + 1, 1, none⟩ = some (.int .i64 ng)) w1.drew from ⟨MD.out.cT, OD.out.c0, OD.out.c1, ND.out.c0, ND.out.c1⟩)
  have fc := fun w' h => swap_any w' m.ab m.pb l.p L x os og ns ng h
  unfold refV at fc
  refine anyH_region (fun w' => w'.cell? ⟨m.mb, 8, none⟩ = some (.pointer (some ⟨m.ab, 0, none⟩)) ∧ w'.cell? ⟨w.heap.size, 0, none⟩ = some (.int .i64 os) ∧ w'.cell? ⟨w.heap.size, 1, none⟩ = some (.int .i64 og) ∧ w'.cell? ⟨w.heap.size + 1, 0, none⟩ = some (.int .i64 ns) ∧ w'.cell? ⟨w.heap.size + 1, 1, none⟩ = some (.int .i64 ng)) (by kernel_rfl) ?_
  refine wpAnyH_take (i := 0) (oi := ⟨some 20, _, _, _, _, _⟩) (v := ?va0) rfl (by kernel_rfl) (by kernel_rfl) (by kernel_rfl) (fun _ _ _ h => h) (Or.inl ⟨by rfl, ?hya0⟩) SD.out ?resta0
  case hya0 => (intro w hSw; go_simp; try (with_reducible rfl))
  simp only [Act.put, List.setIfInBounds_toArray, List.set_cons_zero, List.set_cons_succ]
  refine wpAnyH_take (i := 1) (oi := ⟨some 21, _, _, _, _, _⟩) (v := ?va1) rfl (by kernel_rfl) (by kernel_rfl) (by kernel_rfl) (fun _ _ _ h => h) (Or.inl ⟨by rfl, ?hya1⟩) SD.out ?resta1
  case hya1 => (intro w hSw; go_simp; try (with_reducible rfl))
  simp only [Act.put, List.setIfInBounds_toArray, List.set_cons_zero, List.set_cons_succ]
  refine wpAnyH_take (i := 2) (oi := ⟨some 22, _, _, _, _, _⟩) (v := ?va2) rfl (by kernel_rfl) (by kernel_rfl) (by kernel_rfl) (fun _ _ _ h => h) (Or.inl ⟨by rfl, ?hya2⟩) SD.out ?resta2
  case hya2 => (intro w hSw; go_simp; try (with_reducible rfl))
  simp only [Act.put, List.setIfInBounds_toArray, List.set_cons_zero, List.set_cons_succ]
  refine wpAnyH_take (i := 3) (oi := ⟨some 23, _, _, _, _, _⟩) (v := ?va3) rfl (by kernel_rfl) (by kernel_rfl) (by kernel_rfl) (fun _ _ _ h => h) (Or.inl ⟨by rfl, ?hya3⟩) SD.out ?resta3
  case hya3 => (intro w hSw; go_simp; try (with_reducible rfl))
  simp only [Act.put, List.setIfInBounds_toArray, List.set_cons_zero, List.set_cons_succ]
  refine wpAnyH_take (i := 4) (oi := ⟨some 24, _, _, _, _, _⟩) (v := ?va4) rfl (by kernel_rfl) (by kernel_rfl) (by kernel_rfl) (fun _ _ _ h => h) (Or.inl ⟨by rfl, ?hya4⟩) SD.out ?resta4
  case hya4 => (intro w hSw; go_simp; try (with_reducible rfl))
  simp only [Act.put, List.setIfInBounds_toArray, List.set_cons_zero, List.set_cons_succ]
  refine wpAnyH_take (i := 5) (oi := ⟨some 25, _, _, _, _, _⟩) (v := ?va5) rfl (by kernel_rfl) (by kernel_rfl) (by kernel_rfl) (fun _ _ _ h => h) (Or.inl ⟨by rfl, ?hya5⟩) SD.out ?resta5
  case hya5 => (intro w hSw; go_simp; try (with_reducible rfl))
  simp only [Act.put, List.setIfInBounds_toArray, List.set_cons_zero, List.set_cons_succ]
  refine wpAnyH_take (i := 6) (oi := ⟨some 26, _, _, _, _, _⟩) (v := ?va6) rfl (by kernel_rfl) (by kernel_rfl) (by kernel_rfl) (fun _ _ _ h => h) (Or.inl ⟨by rfl, ?hya6⟩) SD.out ?resta6
  case hya6 => (intro w hSw; go_simp; try (with_reducible rfl))
  simp only [Act.put, List.setIfInBounds_toArray, List.set_cons_zero, List.set_cons_succ]
  refine anyH_one (i := 7) (o := ⟨some 27, _, _, _, _, _⟩) (by kernel_rfl) rfl (fun K hK => ?_)
  rw [if_pos (by rfl)]
  go_simp
  refine (fc _ MD.out.tb).mono ?_
  rintro e2 w2 ⟨rfl, hT, hk⟩
  have M2 := Lib.hid (MD.out.table hT hk)
  have K2 := Lib.hid (K1.out.drew.trans (MS.tb (S := S) hk))
  have nP := LTW.out m.pb (.inr (.inr (.inr (.inl rfl))))
  have O2 := Lib.hid (OD.out.keep hk (by omega))
  have N2 := Lib.hid (ND.out.keep hk (by omega))
  have S2 := Lib.hid (show (fun w' => w'.cell? ⟨m.mb, 8, none⟩ = some (.pointer (some ⟨m.ab, 0, none⟩)) ∧ w'.cell? ⟨w.heap.size, 0, none⟩ = some (.int .i64 os) ∧ w'.cell? ⟨w.heap.size, 1, none⟩ = some (.int .i64 og) ∧ w'.cell? ⟨w.heap.size + 1, 0, none⟩ = some (.int .i64 ns) ∧ w'.cell? ⟨w.heap.size + 1, 1, none⟩ = some (.int .i64 ng)) w2 from ⟨M2.out.cT, O2.out.c0, O2.out.c1, N2.out.c0, N2.out.c1⟩)
  clear hT hk nP
  refine hK.out _ _ S2.out ?_
  clear hK K
  try simp only [Act.put, List.setIfInBounds_toArray, List.set_cons_zero, List.set_cons_succ]
  refine wpAnyH_take (i := 8) (oi := ⟨some 19, _, _, _, _, _⟩) (v := ?vb8) rfl (by kernel_rfl) (by kernel_rfl) (by kernel_rfl) (fun _ _ _ h => h) (Or.inl ⟨by rfl, ?hyb8⟩) S2.out ?restb8
  case hyb8 => (intro w hSw; go_simp; try (with_reducible rfl))
  simp only [Act.put, List.setIfInBounds_toArray, List.set_cons_zero, List.set_cons_succ]
  refine wpAnyH_take (i := 9) (oi := ⟨some 28, _, _, _, _, _⟩) (v := ?vb9) rfl (by kernel_rfl) (by kernel_rfl) (by kernel_rfl) (fun _ _ _ h => h) (Or.inl ⟨by rfl, ?hyb9⟩) S2.out ?restb9
  case hyb9 => (intro w hSw; go_simp; try (with_reducible rfl))
  simp only [Act.put, List.setIfInBounds_toArray, List.set_cons_zero, List.set_cons_succ]
  refine wpAnyH_take (i := 10) (oi := ⟨some 29, _, _, _, _, _⟩) (v := ?vb10) rfl (by kernel_rfl) (by kernel_rfl) (by kernel_rfl) (fun _ _ _ h => h) (Or.inl ⟨by rfl, ?hyb10⟩) S2.out ?restb10
  case hyb10 => (intro w hSw; go_simp; try (with_reducible rfl))
  simp only [Act.put, List.setIfInBounds_toArray, List.set_cons_zero, List.set_cons_succ]
  refine anyH_one (i := 11) (o := ⟨some 10, _, _, _, _, _⟩) (by kernel_rfl) rfl (fun K hK => ?_)
  rw [if_pos (by rfl)]
  go_simp
  refine hK.out _ _ S2.out ?_
  clear hK K
  try simp only [Act.put, List.setIfInBounds_toArray, List.set_cons_zero, List.set_cons_succ]
  refine anyH_one (i := 12) (o := ⟨some 11, _, _, _, _, _⟩) (by kernel_rfl) rfl (fun K hK => ?_)
  rw [if_pos (by rfl)]
  go_simp
  refine hK.out _ _ S2.out ?_
  clear hK K
  try simp only [Act.put, List.setIfInBounds_toArray, List.set_cons_zero, List.set_cons_succ]
  refine wpAnyH_done (by kernel_rfl) ?_ _
  have fa := fun w => fAt_any ⟨#[116, 97, 98, 108, 101]⟩ x (codeT L x) w
  go_wp2_with fail
  refine (fa _).mono ?_
  rintro ev w3 ⟨v, rfl, he, hs⟩
  have M3 := Lib.hid (M2.out.low hs)
  have K3 := Lib.hid (K2.out.trans (Kept.of_below hs))
  have E3 := Lib.hid he
  clear hs he fa
  go_wp2
  go_ret2
  exact ⟨v, rfl, E3.out, ⟨_, M3.out⟩, K3.out⟩
end Go.Proofs.Ytaiaaljahnackaa
