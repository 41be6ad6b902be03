/- Package mem's Alloc of any record and Swap, by contracts, with the count told. -/
import Derived.Test.YtaiaaljahnackaaMmOpsB
import Derived.Deep.CutRange
namespace Go.Proofs.Ytaiaaljahnackaa
open Go.RowKit

/-- the count behind an access -/
def inc (k : Int) : Int := wrap64 (k + 1)
theorem inc_at {k : Int} (h0 : 0 ≤ k) (h1 : k < 1000000000) : inc k = k + 1 := by unfold inc; exact Go.IntWalk.wrap64_in _ (by omega)
theorem RecV.kept {w w' : World} {sc : Sc} {rv en : Value} {d : RecD} {S : Nat → Prop} (h : RecV w (recVal sc rv en) d) (hk : Kept S w w') (o1 : Out S rv) (o2 : Out S en) : RecV w' (recVal sc rv en) d := by
  obtain ⟨rv', en', e, h1, h2⟩ := h
  have e' := e
  unfold recVal at e'
  simp only [Value.agg.injEq, Array.mk.injEq, List.cons.injEq] at e'
  obtain ⟨-, -, -, -, -, rfl, rfl, -⟩ := e'
  exact ⟨_, _, e, h1.kept hk o1, h2.kept hk o2⟩
theorem Out.sub {S T : Nat → Prop} {v : Value} (h : Out S v) (hs : ∀ k, T k → S k) : Out T v := fun a n c e ht => h a n c e (hs _ ht)
set_option maxRecDepth 100000 in
set_option maxHeartbeats 4000000 in
theorem access_inc (w : World) (m : MB) (S : Nat → Prop) (l : LimN) (k : Int) (ps : List Pt) (L : List Pg) (c : Ck) (h : MemAt w m S l k ps L c) :
    Calls Try.prog 30 #[.pointer (some ⟨m.mb, 0, none⟩)] w fun ev w' => ev = .returned (.tuple #[]) ∧ MemAt w' m S l (inc k) ps L c ∧ Kept (CM m) w w' := by
  have x0 := h.cN
  have M := Lib.hid h
  have fz := blk_free h.blk 0
  clear h
  go_enter Try.func30, Try.ntmps30
  go_wp2
  go_end0
  have hc := M.out.count (inc k)
  exact ⟨rfl, hc, ((Kept.refl (fun k => k = m.mb) w).setCell _ _).wide fun _ _ h => .inl h⟩
/-- it answers something -/
def SomeV (ev : Ending) : Prop := ∃ v, ev = .returned v
theorem SomeV.of (v : Value) : SomeV (.returned v) := ⟨v, rfl⟩
/-- what an access to the table may turn -/
def TM (m : MB) : Nat → Prop := fun k => k = m.mb ∨ k = m.cb ∨ k = m.kb ∨ k = m.pb
theorem TM.ms {m : MB} {S : Nat → Prop} : ∀ k, TM m k → MS m S k := fun _ h => h.elim .inl (fun h => h.elim (fun e => .inr (.inr (.inr (.inr (.inl e))))) (fun h => h.elim (fun e => .inr (.inr (.inr (.inr (.inr e))))) (fun e => .inr (.inr (.inr (.inl e))))))
set_option maxRecDepth 100000 in
set_option maxHeartbeats 4000000 in
theorem nTake_any (w : World) (m : MB) (S : Nat → Prop) (l : LimN) (k : Int) (ps : List Pt) (L : List Pg) (c : Ck) (h : MemAt w m S l k ps L c) :
    Calls Try.prog 61 #[.pointer (some ⟨m.mb, 0, none⟩)] w fun ev w' => ∃ v, ev = .returned (.tuple #[.int .i64 (takeN L : Int), v]) ∧ ErrF w' v (takeE L) ∧ MemAt w' m S l (inc k) ps (takeL L) c ∧ Kept (MS m S) w w' := by
  have M0 := Lib.hid h
  clear h
  go_enter Try.func61, Try.ntmps61
  go_wp2_with fail
  refine (access_inc _ m S l k ps L c M0.out).mono ?_
  rintro ev w1 ⟨rfl, hM, hk⟩
  have M1 := Lib.hid hM
  have K1 := Lib.hid (hk.wide fun _ _ h => CM.ms (S := S) _ h)
  have x1 := hM.cT
  clear hM hk
  go_wp2_with fail
  refine (take_any _ m.ab m.pb l.p L M1.out.tb).mono ?_
  rintro ev w2 ⟨rfl, hT, hk⟩
  have M2 := Lib.hid (M1.out.table hT hk)
  have K2 := Lib.hid (K1.out.trans (MS.tb hk))
  clear hT hk x1
  have fa := fun w => fAt_any ⟨#[116, 97, 98, 108, 101]⟩ 0 (takeE L) w
  go_wp2_with fail
  refine (fa _).mono ?_
  rintro ev w3 ⟨v, rfl, he, hs⟩
  have M3 := Lib.hid (M2.out.low hs)
  have K3 := Lib.hid (K2.out.trans (Kept.of_below hs))
  have E3 := Lib.hid he
  clear hs fa he
  go_wp2
  go_ret2
  exact ⟨v, rfl, E3.out, M3.out, K3.out⟩
set_option maxRecDepth 100000 in
set_option maxHeartbeats 4000000 in
theorem nGive_any (w : World) (m : MB) (S : Nat → Prop) (l : LimN) (k : Int) (ps : List Pt) (L : List Pg) (c : Ck) (x : Int) (h : MemAt w m S l k ps L c) :
    Calls Try.prog 44 #[.pointer (some ⟨m.mb, 0, none⟩), .int .i64 x] w fun ev w' => SomeV ev ∧ MemAt w' m S l (inc k) ps (giveL L x) c ∧ Kept (MS m S) w w' := by
  have M0 := Lib.hid h
  clear h
  go_enter Try.func44, Try.ntmps44
  go_wp2_with fail
  refine (access_inc _ m S l k ps L c M0.out).mono ?_
  rintro ev w1 ⟨rfl, hM, hk⟩
  have M1 := Lib.hid hM
  have K1 := Lib.hid (hk.wide fun _ _ h => CM.ms (S := S) _ h)
  have x1 := hM.cT
  clear hM hk
  go_wp2_with fail
  refine (give_any _ m.ab m.pb l.p L x M1.out.tb).mono ?_
  rintro ev w2 ⟨rfl, hT, hk⟩
  have M2 := Lib.hid (M1.out.table hT hk)
  have K2 := Lib.hid (K1.out.trans (MS.tb hk))
  clear hT hk x1
  have fa := fun w => fAt_any ⟨#[116, 97, 98, 108, 101]⟩ x (codeT L x) w
  go_wp2_with fail
  refine (fa _).mono ?_
  rintro ev w3 ⟨v, rfl, -, hs⟩
  have M3 := Lib.hid (M2.out.low hs)
  have K3 := Lib.hid (K2.out.trans (Kept.of_below hs))
  clear hs fa
  go_wp2
  go_ret
  exact ⟨SomeV.of _, M3.out, K3.out⟩
set_option maxRecDepth 100000 in
set_option maxHeartbeats 4000000 in
theorem nFree_any (w : World) (m : MB) (S : Nat → Prop) (l : LimN) (k : Int) (ps : List Pt) (L : List Pg) (c : Ck) (x y : Int) (h : MemAt w m S l k ps L c) :
    Calls Try.prog 43 #[.pointer (some ⟨m.mb, 0, none⟩), refV x y] w fun ev w' => SomeV ev ∧ ∃ S', MemAt w' m S' l (inc k) (freeM l.s ps x y) L c ∧ Kept (MS m S) w w' ∧ (∀ j, MS m S' j → MS m S j ∨ w.heap.size ≤ j) := by
  have b0 := alloc_below0 w (.cells #[.int .i64 x, .int .i64 y] 34)
  have M0 := Lib.hid (h.low b0)
  have B0 := Lib.hid b0
  have R0 := Lib.hid (RfB.mk (blk_new w (.cells #[.int .i64 x, .int .i64 y] 34)))
  have LTW := Lib.hid (show ∀ j, MS m S j → j < w.heap.size from h.lt)
  clear h b0
  have fc := fun w' h => ar_free_any m.aa S l.s l.c ps x y w' h
  unfold refV at fc ⊢
  go_enter Try.func43, Try.ntmps43
  go_wp2_with fail
  refine (access_inc _ m S l k ps L c M0.out).mono ?_
  rintro ev w1 ⟨rfl, hM, hk⟩
  have M1 := Lib.hid hM
  have K1 := Lib.hid ((Kept.of_below B0.out).trans (hk.wide fun _ _ h => CM.ms (S := S) _ h))
  have R1 := Lib.hid (R0.out.keep hk (M0.out.offC R0.out.blk (by decide) (by decide)))
  clear hM hk
  go_wp2_with fail
  have MD := Lib.hid (M1.out.low (Below.refl _ _).drew)
  have RD := Lib.hid (R1.out.step (Below.refl _ _).drew)
  have KD := Lib.hid K1.out.drew
  have SD := Lib.hid (show (fun w' => w'.cell? ⟨m.mb, 7, none⟩ = some (.pointer (some m.aa)) ∧ RfB w' w.heap.size x y) w1.drew from ⟨MD.out.cA, RD.out⟩)
  refine anyH_region (fun w' => w'.cell? ⟨m.mb, 7, none⟩ = some (.pointer (some m.aa)) ∧ RfB w' w.heap.size x y) (by kernel_rfl) ?_
  refine wpAnyH_take (i := 0) (oi := ⟨some 12, _, _, _, _, _⟩) (v := ?va0) rfl (by kernel_rfl) (by kernel_rfl) (by kernel_rfl) (fun _ _ _ h => h) (Or.inl ⟨by rfl, ?hya0⟩) SD.out ?resta0
  case hya0 => (intro w hSw; have q0 := hSw.1; have q1 := hSw.2.c0; have q2 := hSw.2.c1; go_simp; try (with_reducible rfl))
  simp only [Act.put, List.setIfInBounds_toArray, List.set_cons_zero, List.set_cons_succ]
  refine wpAnyH_take (i := 1) (oi := ⟨some 13, _, _, _, _, _⟩) (v := ?va1) rfl (by kernel_rfl) (by kernel_rfl) (by kernel_rfl) (fun _ _ _ h => h) (Or.inl ⟨by rfl, ?hya1⟩) SD.out ?resta1
  case hya1 => (intro w hSw; have q0 := hSw.1; have q1 := hSw.2.c0; have q2 := hSw.2.c1; go_simp; try (with_reducible rfl))
  simp only [Act.put, List.setIfInBounds_toArray, List.set_cons_zero, List.set_cons_succ]
  refine wpAnyH_take (i := 2) (oi := ⟨some 14, _, _, _, _, _⟩) (v := ?va2) rfl (by kernel_rfl) (by kernel_rfl) (by kernel_rfl) (fun _ _ _ h => h) (Or.inl ⟨by rfl, ?hya2⟩) SD.out ?resta2
  case hya2 => (intro w hSw; have q0 := hSw.1; have q1 := hSw.2.c0; have q2 := hSw.2.c1; go_simp; try (with_reducible rfl))
  simp only [Act.put, List.setIfInBounds_toArray, List.set_cons_zero, List.set_cons_succ]
  refine wpAnyH_take (i := 3) (oi := ⟨some 15, _, _, _, _, _⟩) (v := ?va3) rfl (by kernel_rfl) (by kernel_rfl) (by kernel_rfl) (fun _ _ _ h => h) (Or.inl ⟨by rfl, ?hya3⟩) SD.out ?resta3
  case hya3 => (intro w hSw; have q0 := hSw.1; have q1 := hSw.2.c0; have q2 := hSw.2.c1; go_simp; try (with_reducible rfl))
  simp only [Act.put, List.setIfInBounds_toArray, List.set_cons_zero, List.set_cons_succ]
  refine wpAnyH_take (i := 4) (oi := ⟨some 16, _, _, _, _, _⟩) (v := ?va4) rfl (by kernel_rfl) (by kernel_rfl) (by kernel_rfl) (fun _ _ _ h => h) (Or.inl ⟨by rfl, ?hya4⟩) SD.out ?resta4
  case hya4 => (intro w hSw; have q0 := hSw.1; have q1 := hSw.2.c0; have q2 := hSw.2.c1; go_simp; try (with_reducible rfl))
  simp only [Act.put, List.setIfInBounds_toArray, List.set_cons_zero, List.set_cons_succ]
  refine wpAnyH_take (i := 5) (oi := ⟨some 17, _, _, _, _, _⟩) (v := ?va5) rfl (by kernel_rfl) (by kernel_rfl) (by kernel_rfl) (fun _ _ _ h => h) (Or.inl ⟨by rfl, ?hya5⟩) SD.out ?resta5
  case hya5 => (intro w hSw; have q0 := hSw.1; have q1 := hSw.2.c0; have q2 := hSw.2.c1; go_simp; try (with_reducible rfl))
  simp only [Act.put, List.setIfInBounds_toArray, List.set_cons_zero, List.set_cons_succ]
  refine wpAnyH_take (i := 6) (oi := ⟨some 18, _, _, _, _, _⟩) (v := ?va6) rfl (by kernel_rfl) (by kernel_rfl) (by kernel_rfl) (fun _ _ _ h => h) (Or.inl ⟨by rfl, ?hya6⟩) SD.out ?resta6
  case hya6 => (intro w hSw; have q0 := hSw.1; have q1 := hSw.2.c0; have q2 := hSw.2.c1; go_simp; try (with_reducible rfl))
  simp only [Act.put, List.setIfInBounds_toArray, List.set_cons_zero, List.set_cons_succ]
  refine anyH_one (i := 7) (o := ⟨some 19, _, _, _, _, _⟩) (by kernel_rfl) rfl (fun K hK => ?_)
  rw [if_pos (by rfl)]
  go_simp
  refine (fc _ MD.out.ar).mono ?_
  rintro e2 w2 ⟨S', rfl, hI, hk, hS⟩
  have M2 := Lib.hid (MD.out.arena hI hk hS)
  have K2 := Lib.hid (KD.out.trans (MS.ar (m := m) hk))
  have R2 := Lib.hid (RD.out.keep hk (fun hs => Nat.lt_irrefl _ (LTW.out _ (.inr (.inl hs)))))
  have F2 := Lib.hid (show ∀ j, S' j → S j ∨ w.heap.size ≤ j from fun j hj => (hS j hj).imp id (fun h => by have := KD.out.size; omega))
  clear hI hk hS
  have S2 := Lib.hid (show (fun w' => w'.cell? ⟨m.mb, 7, none⟩ = some (.pointer (some m.aa)) ∧ RfB w' w.heap.size x y) w2 from ⟨M2.out.cA, R2.out⟩)
  refine hK.out _ _ S2.out ?_
  clear hK K
  try simp only [Act.put, List.setIfInBounds_toArray, List.set_cons_zero, List.set_cons_succ]
  refine anyH_one (i := 8) (o := ⟨some 20, _, _, _, _, _⟩) (by kernel_rfl) rfl (fun K hK => ?_)
  rw [if_pos (by rfl)]
  go_simp
  refine (fAt_any ⟨#[97, 114, 101, 110, 97]⟩ x (codeM l.s ps x y) _).mono ?_
  rintro e3 w3 ⟨v, rfl, -, hs⟩
  have M3 := Lib.hid (M2.out.low hs)
  have K3 := Lib.hid (K2.out.trans (Kept.of_below hs))
  have R3 := Lib.hid (R2.out.step hs)
  clear hs
  have S3 := Lib.hid (show (fun w' => w'.cell? ⟨m.mb, 7, none⟩ = some (.pointer (some m.aa)) ∧ RfB w' w.heap.size x y) w3 from ⟨M3.out.cA, R3.out⟩)
  refine hK.out _ _ S3.out ?_
  clear hK K
  try simp only [Act.put, List.setIfInBounds_toArray, List.set_cons_zero, List.set_cons_succ]
  refine anyH_one (i := 9) (o := ⟨some 4, _, _, _, _, _⟩) (by kernel_rfl) rfl (fun K hK => ?_)
  rw [if_pos (by rfl)]
  go_simp
  refine hK.out _ _ S3.out ?_
  clear hK K
  try simp only [Act.put, List.setIfInBounds_toArray, List.set_cons_zero, List.set_cons_succ]
  refine wpAnyH_done (by kernel_rfl) ?_ _
  go_wp2
  go_ret
  refine ⟨SomeV.of _, S', M3.out, K3.out, fun j hj => ?_⟩
  rcases hj with h | h | h
  · exact .inl (.inl h)
  · exact (F2.out j h).imp (fun h => .inr (.inl h)) id
  · exact .inl (.inr (.inr h))

open Go.RowKit

set_option maxRecDepth 100000 in
set_option maxHeartbeats 4000000 in
theorem nAlloc_any (w : World) (m : MB) (S : Nat → Prop) (l : LimN) (k : Int) (ps : List Pt) (L : List Pg) (c : Ck) (d : RecD) (ra : Option Addr) (rn rc : Nat) (ea : Option Addr) (en ec : Nat) (h : MemAt w m S l k ps L c) (hv : RecV w (recVal d.sc (.slice ra rn rc) (.slice ea en ec)) d) (o1 : Out (MS m S) (.slice ra rn rc)) (o2 : Out (MS m S) (.slice ea en ec)) (h1 : d.rows.length ≤ 1000) (h2 : d.ents.length ≤ 1000) :
    Calls Try.prog 62 #[.pointer (some ⟨m.mb, 0, none⟩), recVal d.sc (.slice ra rn rc) (.slice ea en ec)] w fun ev w' => ∃ S' v, ev = .returned (.tuple #[refV ((allocM l.s l.c ps).1 : Int) ((allocM l.s l.c ps).2.1 : Int), v]) ∧ ErrF w' v (allocM l.s l.c ps).2.2 ∧ (MemAt w' m S' l (inc k) (putM l.s l.c ps d) L c) ∧ Kept (MS m S) w w' ∧ (∀ j, MS m S' j → MS m S j ∨ w.heap.size ≤ j) := by
  obtain ⟨W0, hW0⟩ : ∃ W, W = (w.alloc (recObj d.sc (.slice ra rn rc) (.slice ea en ec))).alloc (.cells #[.int .i64 0, .int .i64 0] 34) := ⟨_, rfl⟩
  have b0 : Below w.heap.size w W0 := by rw [hW0]; exact (alloc_below0 _ _).trans ((alloc_below0 _ _).mono (alloc_below0 w _).size)
  have M0 := Lib.hid (h.low b0)
  have hr0 : W0.heap[w.heap.size]? = some (recObj d.sc (.slice ra rn rc) (.slice ea en ec)) := by rw [hW0]; exact blk_step (blk_new w _) (alloc_below0 _ _)
  have hz0 : W0.heap[w.heap.size + 1]? = some (.cells #[.int .i64 0, .int .i64 0] 34) := by rw [hW0, show w.heap.size + 1 = (w.alloc (recObj d.sc (.slice ra rn rc) (.slice ea en ec))).heap.size by simp]; exact blk_new _ _
  have B0 := Lib.hid b0
  have LTW := Lib.hid (show ∀ j, MS m S j → j < w.heap.size from h.lt)
  have Z0 := Lib.hid (show W0.heap.size = w.heap.size + 2 by rw [hW0]; simp)
  have R0 := Lib.hid hr0
  have T0 := Lib.hid hz0
  have V0 := Lib.hid hv
  have O12 := Lib.hid (show Out (MS m S) (.slice ra rn rc) ∧ Out (MS m S) (.slice ea en ec) from ⟨o1, o2⟩)
  have OS := Lib.hid (show Out S (.slice ra rn rc) ∧ Out S (.slice ea en ec) from ⟨o1.sub fun _ h => .inr (.inl h), o2.sub fun _ h => .inr (.inl h)⟩)
  have H12 := Lib.hid (show d.rows.length ≤ 1000 ∧ d.ents.length ≤ 1000 from ⟨h1, h2⟩)
  clear h b0 hr0 hz0 hv o1 o2 h1 h2
  unfold recVal
  unfold recObj at hW0
  go_enter Try.func62, Try.ntmps62
  go_wp2_with fail
  rw [← hW0]
  clear hW0
  refine (access_inc _ m S l k ps L c M0.out).mono ?_
  rintro ev w1 ⟨rfl, hM, hk⟩
  have M1 := Lib.hid hM
  have K1 := Lib.hid ((Kept.of_below B0.out).trans (hk.wide fun _ _ h => CM.ms (S := S) _ h))
  have S1 := Lib.hid hk.size
  have V1 := Lib.hid (V0.out.kept K1.out O12.out.1 O12.out.2)
  have R1 := Lib.hid ((hk.block _ (Array.getElem?_eq_some_iff.1 R0.out).1 (M0.out.offC R0.out (by decide) (by decide))).trans R0.out)
  have T1 := Lib.hid ((hk.block _ (Array.getElem?_eq_some_iff.1 T0.out).1 (M0.out.offC T0.out (by decide) (by decide))).trans T0.out)
  clear hM hk
  go_upto_region 4 with (fail)
  go_cut [6, 7] from 17 to 25 (fun s6 s7 wc => ∃ (b : Nat) (S' : Nat → Prop), s6 = .pointer (some ⟨b, 0, none⟩) ∧ s7 = errV (allocM l.s l.c ps).2.2 ∧ RfB wc b ((allocM l.s l.c ps).1 : Int) ((allocM l.s l.c ps).2.1 : Int) ∧ w1.heap.size ≤ b ∧ MemAt wc m S' l (inc k) (putM l.s l.c ps d) L c ∧ (∀ j, S' j → S j ∨ w1.heap.size ≤ j) ∧ Kept S w1 wc)
  case first =>
    go_wp2_with fail
    have HS := Lib.hid (show ∀ w', Kept S w1 w' → (fun w' => w'.cell? ⟨m.mb, 7, none⟩ = some (.pointer (some m.aa)) ∧ w'.rangeAt w.heap.size 0 (recCells d.sc (.slice ra rn rc) (.slice ea en ec))) w' from fun w' hk => ⟨by rw [World.cell?_of_block (a := ⟨m.mb, 7, none⟩) (hk.block m.mb (Array.getElem?_eq_some_iff.1 M1.out.blk).1 M1.out.oM)]; exact M1.out.cA, blk_rng ((hk.block _ (Array.getElem?_eq_some_iff.1 R1.out).1 (fun hs => Nat.lt_irrefl _ (LTW.out _ (.inr (.inl hs))))).trans R1.out)⟩)
    have KD := Lib.hid (Kept.refl S w1).drew
    have SD := Lib.hid (HS.out _ KD.out)
    have MD := Lib.hid (M1.out.low (Below.refl _ _).drew)
    refine anyH_region (fun w' => w'.cell? ⟨m.mb, 7, none⟩ = some (.pointer (some m.aa)) ∧ w'.rangeAt w.heap.size 0 (recCells d.sc (.slice ra rn rc) (.slice ea en ec))) (by kernel_rfl) ?_
    refine wpAnyH_take (i := 0) (oi := ⟨some 17, _, _, _, _, _⟩) (v := ?va0) rfl (by kernel_rfl) (by kernel_rfl) (by kernel_rfl) (fun _ _ _ h => h) (Or.inl ⟨by rfl, ?hya0⟩) SD.out ?resta0
    case hya0 => (intro w hSw; go_simp; try (with_reducible rfl))
    simp only [Act.put, List.setIfInBounds_toArray, List.set_cons_zero, List.set_cons_succ]
    refine wpAnyH_take (i := 1) (oi := ⟨some 18, _, _, _, _, _⟩) (v := ?va1) rfl (by kernel_rfl) (by kernel_rfl) (by kernel_rfl) (fun _ _ _ h => h) (Or.inl ⟨by rfl, ?hya1⟩) SD.out ?resta1
    case hya1 => (intro w hSw; go_simp; try (with_reducible rfl))
    simp only [Act.put, List.setIfInBounds_toArray, List.set_cons_zero, List.set_cons_succ]
    refine wpAnyH_take (i := 2) (oi := ⟨some 19, _, _, _, _, _⟩) (v := ?va2) rfl (by kernel_rfl) (by kernel_rfl) (by kernel_rfl) (fun _ _ _ h => h) (Or.inl ⟨by rfl, ?hya2⟩) SD.out ?resta2
    case hya2 => (intro w hSw; go_simp; try (with_reducible rfl))
    simp only [Act.put, List.setIfInBounds_toArray, List.set_cons_zero, List.set_cons_succ]
    refine wpAnyH_take (i := 3) (oi := ⟨some 20, _, _, _, _, _⟩) (v := ?va3) rfl (by kernel_rfl) (by kernel_rfl) (by kernel_rfl) (fun _ _ _ h => h) (Or.inl ⟨by rfl, ?hya3⟩) SD.out ?resta3
    case hya3 => (intro w hSw; go_simp; try (with_reducible rfl))
    simp only [Act.put, List.setIfInBounds_toArray, List.set_cons_zero, List.set_cons_succ]
    refine wpAnyH_take (i := 4) (oi := ⟨some 21, _, _, _, _, _⟩) (v := .agg (recCells d.sc (.slice ra rn rc) (.slice ea en ec)).toArray) rfl (by kernel_rfl) (by kernel_rfl) (by kernel_rfl) (fun _ _ _ h => h) (yieldsIf_load_mid (by rfl) 44 (.tmp 3) rfl w.heap.size 0 rfl (recCells d.sc (.slice ra rn rc) (.slice ea en ec)) _ (fun w h => h.2) Try.underlying44 rfl recInfoS) SD.out ?resta4
    simp only [Act.put, List.setIfInBounds_toArray, List.set_cons_zero, List.set_cons_succ]
    refine anyH_two (i := 5) (j := 9) (o := ⟨some 22, _, _, _, _, _⟩) (u := ⟨some 6, _, _, _, _, _⟩) (by kernel_rfl) rfl rfl (fun K hK => ?_) (fun K hK => ?_)
    · rw [if_pos (by rfl)]
      go_simp
      refine (alloc_any m.aa _ S l.s l.c ps d _ MD.out.ar (V1.out.kept KD.out OS.out.1 OS.out.2) H12.out.1 H12.out.2).mono ?_
      rintro e2 w2 ⟨S', rfl, hI, hk, hS⟩
      have K2 := Lib.hid (KD.out.trans hk)
      have M2 := Lib.hid (MD.out.arena hI hk hS)
      have HS2 := Lib.hid (show ∀ j, S' j → S j ∨ w1.heap.size ≤ j from hS)
      clear hI hk hS
      unfold refV
      refine hK.out _ _ (HS.out _ K2.out) ?_
      clear hK K
      try simp only [Act.put, List.setIfInBounds_toArray, List.set_cons_zero, List.set_cons_succ]
      refine wpAnyH_take (i := 6) (oi := ⟨some 16, _, _, _, _, _⟩) (v := ?vb6) rfl (by kernel_rfl) (by kernel_rfl) (by kernel_rfl) (fun _ _ _ h => h) (Or.inl ⟨by rfl, ?hyb6⟩) (HS.out _ K2.out) ?restb6
      case hyb6 => (intro w hSw; go_simp; try (with_reducible rfl))
      simp only [Act.put, List.setIfInBounds_toArray, List.set_cons_zero, List.set_cons_succ]
      refine wpAnyH_take (i := 7) (oi := ⟨some 23, _, _, _, _, _⟩) (v := ?vb7) rfl (by kernel_rfl) (by kernel_rfl) (by kernel_rfl) (fun _ _ _ h => h) (Or.inl ⟨by rfl, ?hyb7⟩) (HS.out _ K2.out) ?restb7
      case hyb7 => (intro w hSw; go_simp; try (with_reducible rfl))
      simp only [Act.put, List.setIfInBounds_toArray, List.set_cons_zero, List.set_cons_succ]
      refine wpAnyH_take (i := 8) (oi := ⟨some 24, _, _, _, _, _⟩) (v := ?vb8) rfl (by kernel_rfl) (by kernel_rfl) (by kernel_rfl) (fun _ _ _ h => h) (Or.inl ⟨by rfl, ?hyb8⟩) (HS.out _ K2.out) ?restb8
      case hyb8 => (intro w hSw; go_simp; try (with_reducible rfl))
      simp only [Act.put, List.setIfInBounds_toArray, List.set_cons_zero, List.set_cons_succ]
      have b3 := Lib.hid (alloc_below0 w2 (.cells #[.int .i64 0, .int .i64 0] 34))
      have K3 := Lib.hid (K2.out.trans (Kept.of_below b3.out))
      have M3 := Lib.hid (M2.out.low b3.out)
      have z3 := Lib.hid (blk_new w2 (.cells #[.int .i64 0, .int .i64 0] 34))
      have o3 := Lib.hid (M2.out.offB (Nat.le_refl _))
      refine anyH_one (i := 9) (o := ⟨some 6, _, _, _, _, _⟩) (by kernel_rfl) rfl (fun K hK => ?_)
      rw [if_pos (by rfl)]
      go_simp
      refine hK.out _ _ (HS.out _ K3.out) ?_
      clear hK K
      try simp only [Act.put, List.setIfInBounds_toArray, List.set_cons_zero, List.set_cons_succ]
      refine anyH_one (i := 10) (o := ⟨none, _, _, _, _, _⟩) (by kernel_rfl) rfl (fun K hK => ?_)
      rw [if_pos (by rfl)]
      refine wp_store_mid 34 (.tmp 6) (.tmp 23) rfl w2.heap.size 0 ([.int .i64 ((allocM l.s l.c ps).1 : Int), .int .i64 ((allocM l.s l.c ps).2.1 : Int)] : List Value).toArray rfl rfl (blk_there z3.out 2 (Nat.le_refl _)) (by kernel_rfl) (by kernel_rfl) ?_
      have nb := Lib.hid (show w1.heap.size ≤ w2.heap.size by have := KD.out.size; have := K2.out.size; first | omega | exact Nat.le_refl _ | assumption)
      have K4 := Lib.hid ((K3.out.setNew nb.out 0 (.int .i64 ((allocM l.s l.c ps).1 : Int))).setNew nb.out 1 (.int .i64 ((allocM l.s l.c ps).2.1 : Int)))
      have M4 := Lib.hid (M3.out.keep (Kept.setCells [.int .i64 ((allocM l.s l.c ps).1 : Int), .int .i64 ((allocM l.s l.c ps).2.1 : Int)] 0 _ (Kept.refl (fun x => x = w2.heap.size) _)) (fun j hj e => o3.out (e ▸ hj)))
      have r4 := Lib.hid (list_laid [.int .i64 ((allocM l.s l.c ps).1 : Int), .int .i64 ((allocM l.s l.c ps).2.1 : Int)] z3.out rfl)
      refine hK.out _ _ (HS.out _ K4.out) ?_
      clear hK K
      try simp only [Act.put]
      refine anyH_one (i := 11) (o := ⟨some 7, _, _, _, _, _⟩) (by kernel_rfl) rfl (fun K hK => ?_)
      rw [if_pos (by rfl)]
      go_simp
      refine hK.out _ _ (HS.out _ K4.out) ?_
      clear hK K
      try simp only [Act.put, List.setIfInBounds_toArray, List.set_cons_zero, List.set_cons_succ]
      refine wpAnyH_done (by kernel_rfl) ?_ _
      go_wp2
      go_meet
      case rel => exact ⟨_, S', rfl, rfl, ⟨r4.out⟩, nb.out, M4.out, HS2.out, K4.out⟩
    · have b3 := Lib.hid (alloc_below0 w1.drew (.cells #[.int .i64 0, .int .i64 0] 34))
      have z2 := Lib.hid (blk_new w1.drew (.cells #[.int .i64 0, .int .i64 0] 34))
      have MB2 := Lib.hid (MD.out.low b3.out)
      have KB2 := Lib.hid (KD.out.trans (Kept.of_below b3.out))
      have o2 := Lib.hid (MD.out.offB (Nat.le_refl w1.drew.heap.size))
      have zs := Lib.hid (show (w1.drew.alloc (.cells #[.int .i64 0, .int .i64 0] 34)).heap.size = w1.heap.size + 1 from by show (w1.drew.heap.push _).size = _; rw [Array.size_push]; rfl)
      rw [if_pos (by rfl)]
      go_simp
      refine hK.out _ _ (HS.out _ KB2.out) ?_
      clear hK K
      try simp only [Act.put, List.setIfInBounds_toArray, List.set_cons_zero, List.set_cons_succ]
      refine anyH_one (i := 5) (o := ⟨some 22, _, _, _, _, _⟩) (by kernel_rfl) rfl (fun K hK => ?_)
      rw [if_pos (by rfl)]
      go_simp
      refine (alloc_any m.aa _ S l.s l.c ps d _ MB2.out.ar (V1.out.kept KB2.out OS.out.1 OS.out.2) H12.out.1 H12.out.2).mono ?_
      rintro e2 w2 ⟨S', rfl, hI, hk, hS⟩
      have K2 := Lib.hid (KB2.out.trans hk)
      have M2 := Lib.hid (MB2.out.arena hI hk hS)
      have HS2 := Lib.hid (show ∀ j, S' j → S j ∨ w1.heap.size ≤ j from fun j hj => (hS j hj).imp id (fun h => by have := zs.out; omega))
      have o3 := Lib.hid (show ¬ MS m S' w1.heap.size from fun hm => by
        rcases hm with e | hs | e
        · exact o2.out (.inl e)
        · rcases hS _ hs with h | h
          · exact o2.out (.inr (.inl h))
          · have := zs.out; omega
        · exact o2.out (.inr (.inr e)))
      have z3 := Lib.hid ((hk.block _ (by have := zs.out; show w1.heap.size < _; omega) (fun h => o2.out (.inr (.inl h)))).trans z2.out)
      clear hI hk hS
      unfold refV
      refine hK.out _ _ (HS.out _ K2.out) ?_
      clear hK K
      try simp only [Act.put, List.setIfInBounds_toArray, List.set_cons_zero, List.set_cons_succ]
      refine wpAnyH_take (i := 6) (oi := ⟨some 16, _, _, _, _, _⟩) (v := ?vc6) rfl (by kernel_rfl) (by kernel_rfl) (by kernel_rfl) (fun _ _ _ h => h) (Or.inl ⟨by rfl, ?hyc6⟩) (HS.out _ K2.out) ?restc6
      case hyc6 => (intro w hSw; go_simp; try (with_reducible rfl))
      simp only [Act.put, List.setIfInBounds_toArray, List.set_cons_zero, List.set_cons_succ]
      refine wpAnyH_take (i := 7) (oi := ⟨some 23, _, _, _, _, _⟩) (v := ?vc7) rfl (by kernel_rfl) (by kernel_rfl) (by kernel_rfl) (fun _ _ _ h => h) (Or.inl ⟨by rfl, ?hyc7⟩) (HS.out _ K2.out) ?restc7
      case hyc7 => (intro w hSw; go_simp; try (with_reducible rfl))
      simp only [Act.put, List.setIfInBounds_toArray, List.set_cons_zero, List.set_cons_succ]
      refine wpAnyH_take (i := 8) (oi := ⟨some 24, _, _, _, _, _⟩) (v := ?vc8) rfl (by kernel_rfl) (by kernel_rfl) (by kernel_rfl) (fun _ _ _ h => h) (Or.inl ⟨by rfl, ?hyc8⟩) (HS.out _ K2.out) ?restc8
      case hyc8 => (intro w hSw; go_simp; try (with_reducible rfl))
      simp only [Act.put, List.setIfInBounds_toArray, List.set_cons_zero, List.set_cons_succ]
      have K3 := Lib.hid K2.out
      have M3 := Lib.hid M2.out
      refine anyH_one (i := 10) (o := ⟨none, _, _, _, _, _⟩) (by kernel_rfl) rfl (fun K hK => ?_)
      rw [if_pos (by rfl)]
      refine wp_store_mid 34 (.tmp 6) (.tmp 23) rfl w1.heap.size 0 ([.int .i64 ((allocM l.s l.c ps).1 : Int), .int .i64 ((allocM l.s l.c ps).2.1 : Int)] : List Value).toArray rfl rfl (blk_there z3.out 2 (Nat.le_refl _)) (by kernel_rfl) (by kernel_rfl) ?_
      have nb := Lib.hid (show w1.heap.size ≤ w1.heap.size by have := KD.out.size; have := K2.out.size; first | omega | exact Nat.le_refl _ | assumption)
      have K4 := Lib.hid ((K3.out.setNew nb.out 0 (.int .i64 ((allocM l.s l.c ps).1 : Int))).setNew nb.out 1 (.int .i64 ((allocM l.s l.c ps).2.1 : Int)))
      have M4 := Lib.hid (M3.out.keep (Kept.setCells [.int .i64 ((allocM l.s l.c ps).1 : Int), .int .i64 ((allocM l.s l.c ps).2.1 : Int)] 0 _ (Kept.refl (fun x => x = w1.heap.size) _)) (fun j hj e => o3.out (e ▸ hj)))
      have r4 := Lib.hid (list_laid [.int .i64 ((allocM l.s l.c ps).1 : Int), .int .i64 ((allocM l.s l.c ps).2.1 : Int)] z3.out rfl)
      refine hK.out _ _ (HS.out _ K4.out) ?_
      clear hK K
      try simp only [Act.put]
      refine anyH_one (i := 11) (o := ⟨some 7, _, _, _, _, _⟩) (by kernel_rfl) rfl (fun K hK => ?_)
      rw [if_pos (by rfl)]
      go_simp
      refine hK.out _ _ (HS.out _ K4.out) ?_
      clear hK K
      try simp only [Act.put, List.setIfInBounds_toArray, List.set_cons_zero, List.set_cons_succ]
      refine wpAnyH_done (by kernel_rfl) ?_ _
      go_wp2
      go_meet
      case rel => exact ⟨_, S', rfl, rfl, ⟨r4.out⟩, nb.out, M4.out, HS2.out, K4.out⟩
  case rest =>
    obtain ⟨b, S', rfl, rfl, hR, hb, hM, hS, hk⟩ := hcut
    obtain ⟨wL, hwq⟩ : ∃ x, x = wc := ⟨_, rfl⟩
    subst hwq
    have M2 := Lib.hid hM
    have R2 := Lib.hid hR
    have K2 := Lib.hid (K1.out.trans (MS.ar (m := m) hk))
    have T2 := Lib.hid ((hk.block _ (Array.getElem?_eq_some_iff.1 T1.out).1 (fun h => by have := LTW.out _ (.inr (.inl h)); omega)).trans T1.out)
    have NB := Lib.hid (show w.heap.size + 2 ≤ b by have := Z0.out; have := S1.out; omega)
    have HS := Lib.hid (show ∀ j, S' j → S j ∨ w.heap.size + 2 ≤ j from fun j hj => (hS j hj).imp id (fun h => by have := Z0.out; have := S1.out; omega))
    clear hM hR hk hS hb
    have fa := fun w => fAt_any ⟨#[97, 114, 101, 110, 97]⟩ 0 (allocM l.s l.c ps).2.2 w
    go_wp2_with fail
    have BD := Lib.hid (Below.refl wL.heap.size wL).drew
    have HS5 := Lib.hid (show ∀ w', Below wL.heap.size wL w' → (fun w' => w'.cell? ⟨b, 0, none⟩ = some (.int .i64 ((allocM l.s l.c ps).1 : Int)) ∧ w'.cell? ⟨b, 1, none⟩ = some (.int .i64 ((allocM l.s l.c ps).2.1 : Int))) w' from fun w' hs => ⟨(R2.out.step hs).c0, (R2.out.step hs).c1⟩)
    have SD := Lib.hid (HS5.out _ BD.out)
    refine anyH_region (fun w' => w'.cell? ⟨b, 0, none⟩ = some (.int .i64 ((allocM l.s l.c ps).1 : Int)) ∧ w'.cell? ⟨b, 1, none⟩ = some (.int .i64 ((allocM l.s l.c ps).2.1 : Int))) (by kernel_rfl) ?_
    refine wpAnyH_take (i := 0) (oi := ⟨some 25, _, _, _, _, _⟩) (v := ?ve0) rfl (by kernel_rfl) (by kernel_rfl) (by kernel_rfl) (fun _ _ _ h => h) (Or.inl ⟨by rfl, ?hye0⟩) SD.out ?reste0
    case hye0 => (intro w hSw; go_simp; try (with_reducible rfl))
    simp only [Act.put, List.setIfInBounds_toArray, List.set_cons_zero, List.set_cons_succ]
    refine wpAnyH_take (i := 1) (oi := ⟨some 26, _, _, _, _, _⟩) (v := ?ve1) rfl (by kernel_rfl) (by kernel_rfl) (by kernel_rfl) (fun _ _ _ h => h) (Or.inl ⟨by rfl, ?hye1⟩) SD.out ?reste1
    case hye1 => (intro w hSw; go_simp; try (with_reducible rfl))
    simp only [Act.put, List.setIfInBounds_toArray, List.set_cons_zero, List.set_cons_succ]
    refine anyH_one (i := 2) (o := ⟨some 27, _, _, _, _, _⟩) (by kernel_rfl) rfl (fun K hK => ?_)
    rw [if_pos (by rfl)]
    go_simp
    refine (fa _).mono ?_
    rintro ev w3 ⟨v, rfl, he, hs⟩
    have B3 := Lib.hid (BD.out.trans hs)
    have E3 := Lib.hid he
    clear he hs
    refine hK.out _ _ (HS5.out _ B3.out) ?_
    clear hK K
    try simp only [Act.put, List.setIfInBounds_toArray, List.set_cons_zero, List.set_cons_succ]
    have T3 := Lib.hid (blk_step T2.out B3.out)
    have M3 := Lib.hid (M2.out.low B3.out)
    refine anyH_one (i := 3) (o := ⟨none, _, _, _, _, _⟩) (by kernel_rfl) rfl (fun K hK => ?_)
    rw [if_pos (by rfl)]
    refine wp_store_mid 34 (.tmp 4) (.tmp 25) rfl (w.heap.size + 1) 0 ([.int .i64 ((allocM l.s l.c ps).1 : Int), .int .i64 ((allocM l.s l.c ps).2.1 : Int)] : List Value).toArray rfl rfl (blk_there T3.out 2 (Nat.le_refl _)) (by kernel_rfl) (by kernel_rfl) ?_
    have ks := Lib.hid (Kept.setCells [.int .i64 ((allocM l.s l.c ps).1 : Int), .int .i64 ((allocM l.s l.c ps).2.1 : Int)] 0 w3 (Kept.refl (fun x => x = w.heap.size + 1) w3))
    have R4 := Lib.hid ((R2.out.step B3.out).keep ks.out (by have := NB.out; omega))
    skip
    have K4 := Lib.hid (((K2.out.trans (Kept.of_below B3.out)).setNew (b := w.heap.size + 1) (by omega) 0 (.int .i64 ((allocM l.s l.c ps).1 : Int))).setNew (b := w.heap.size + 1) (by omega) 1 (.int .i64 ((allocM l.s l.c ps).2.1 : Int)))
    have nT := Lib.hid (show ¬ MS m S' (w.heap.size + 1) from fun hm => by
      rcases hm with e | hs | e
      · have := LTW.out _ (.inl e); omega
      · rcases HS.out _ hs with h | h
        · have := LTW.out _ (.inr (.inl h)); omega
        · omega
      · have := LTW.out _ (.inr (.inr e)); omega)
    have M4 := Lib.hid (M3.out.keep ks.out (fun j hj e => nT.out (e ▸ hj)))
    have E4 := Lib.hid (E3.out.keepF ks.out T3.out (by decide))
    have r4 := Lib.hid (list_laid [.int .i64 ((allocM l.s l.c ps).1 : Int), .int .i64 ((allocM l.s l.c ps).2.1 : Int)] T3.out rfl)
    refine hK.out _ _ ⟨R4.out.c0, R4.out.c1⟩ ?_
    clear hK K
    try simp only [Act.put]
    refine anyH_one (i := 4) (o := ⟨some 5, _, _, _, _, _⟩) (by kernel_rfl) rfl (fun K hK => ?_)
    rw [if_pos (by rfl)]
    go_simp
    refine hK.out _ _ ⟨R4.out.c0, R4.out.c1⟩ ?_
    clear hK K
    try simp only [Act.put, List.setIfInBounds_toArray, List.set_cons_zero, List.set_cons_succ]
    refine wpAnyH_done (by kernel_rfl) ?_ _
    go_wp2
    refine bodyPost_ret (v := .tuple #[.agg ([.int .i64 ((allocM l.s l.c ps).1 : Int), .int .i64 ((allocM l.s l.c ps).2.1 : Int)] : List Value).toArray, v]) (results_cellT rfl _ _ (w.heap.size + 1) _ _ _ rfl rfl (blk_rng r4.out) Try.underlying34 rfl (by kernel_rfl)) rfl ?_
    refine ⟨S', v, rfl, E4.out, M4.out, K4.out, fun j hj => ?_⟩
    rcases hj with h | h | h
    · exact .inl (.inl h)
    · exact (HS.out j h).imp (fun h => .inr (.inl h)) (fun h => by omega)
    · exact .inl (.inr (.inr h))
set_option maxRecDepth 100000 in
set_option maxHeartbeats 4000000 in
theorem nSwap_any (w : World) (m : MB) (S : Nat → Prop) (l : LimN) (k : Int) (ps : List Pt) (L : List Pg) (c : Ck) (x os og ns ng : Int) (h : MemAt w m S l k ps L c) :
    Calls Try.prog 63 #[.pointer (some ⟨m.mb, 0, none⟩), .int .i64 x, refV os og, refV ns ng] w fun ev w' => ∃ v, ev = .returned (.tuple #[.bool (swapB L x (os, og)), v]) ∧ ErrF w' v (codeT L x) ∧ (MemAt w' m S l (inc k) ps (swapL L x (os, og) (ns, ng)) c) ∧ Kept (MS m S) w w' := by
  obtain ⟨W0, hW0⟩ : ∃ W, W = (w.alloc (.cells #[.int .i64 os, .int .i64 og] 34)).alloc (.cells #[.int .i64 ns, .int .i64 ng] 34) := ⟨_, rfl⟩
  have b0 : Below w.heap.size w W0 := by rw [hW0]; exact (alloc_below0 _ _).trans ((alloc_below0 _ _).mono (alloc_below0 w _).size)
  have M0 := Lib.hid (h.low b0)
  have ho0 : W0.heap[w.heap.size]? = some (.cells #[.int .i64 os, .int .i64 og] 34) := by rw [hW0]; exact blk_step (blk_new w _) (alloc_below0 _ _)
  have hn0 : W0.heap[w.heap.size + 1]? = some (.cells #[.int .i64 ns, .int .i64 ng] 34) := by rw [hW0, show w.heap.size + 1 = (w.alloc (.cells #[.int .i64 os, .int .i64 og] 34)).heap.size by simp]; exact blk_new _ _
  have B0 := Lib.hid b0
  have LTW := Lib.hid (show ∀ j, MS m S j → j < w.heap.size from h.lt)
  have O0 := Lib.hid (RfB.mk ho0)
  have N0 := Lib.hid (RfB.mk hn0)
  clear h b0 ho0 hn0
  unfold refV
  go_enter Try.func63, Try.ntmps63
  go_wp2_with fail
  rw [← hW0]
  clear hW0
  refine (access_inc _ m S l k ps L c M0.out).mono ?_
  rintro ev w1 ⟨rfl, hM, hk⟩
  have M1 := Lib.hid hM
  have K1 := Lib.hid ((Kept.of_below B0.out).trans (hk.wide fun _ _ h => CM.ms (S := S) _ h))
  have O1 := Lib.hid (O0.out.keep hk (M0.out.offC O0.out.blk (by decide) (by decide)))
  have N1 := Lib.hid (N0.out.keep hk (M0.out.offC N0.out.blk (by decide) (by decide)))
  clear hM hk
  go_wp2_with fail
  have MD := Lib.hid (M1.out.low (Below.refl _ _).drew)
  have OD := Lib.hid (O1.out.step (Below.refl _ _).drew)
  have ND := Lib.hid (N1.out.step (Below.refl _ _).drew)
  have SD := Lib.hid (show (fun w' => w'.cell? ⟨m.mb, 8, none⟩ = some (.pointer (some ⟨m.ab, 0, none⟩)) ∧ w'.cell? ⟨w.heap.size, 0, none⟩ = some (.int .i64 os) ∧ w'.cell? ⟨w.heap.size, 1, none⟩ = some (.int .i64 og) ∧ w'.cell? ⟨w.heap.size + 1, 0, none⟩ = some (.int .i64 ns) ∧ w'.cell? ⟨w.heap.size + 1, 1, none⟩ = some (.int .i64 ng)) w1.drew from ⟨MD.out.cT, OD.out.c0, OD.out.c1, ND.out.c0, ND.out.c1⟩)
  have fc := fun w' h => swap_any w' m.ab m.pb l.p L x os og ns ng h
  unfold refV at fc
  refine anyH_region (fun w' => w'.cell? ⟨m.mb, 8, none⟩ = some (.pointer (some ⟨m.ab, 0, none⟩)) ∧ w'.cell? ⟨w.heap.size, 0, none⟩ = some (.int .i64 os) ∧ w'.cell? ⟨w.heap.size, 1, none⟩ = some (.int .i64 og) ∧ w'.cell? ⟨w.heap.size + 1, 0, none⟩ = some (.int .i64 ns) ∧ w'.cell? ⟨w.heap.size + 1, 1, none⟩ = some (.int .i64 ng)) (by kernel_rfl) ?_
  refine wpAnyH_take (i := 0) (oi := ⟨some 20, _, _, _, _, _⟩) (v := ?va0) rfl (by kernel_rfl) (by kernel_rfl) (by kernel_rfl) (fun _ _ _ h => h) (Or.inl ⟨by rfl, ?hya0⟩) SD.out ?resta0
  case hya0 => (intro w hSw; go_simp; try (with_reducible rfl))
  simp only [Act.put, List.setIfInBounds_toArray, List.set_cons_zero, List.set_cons_succ]
  refine wpAnyH_take (i := 1) (oi := ⟨some 21, _, _, _, _, _⟩) (v := ?va1) rfl (by kernel_rfl) (by kernel_rfl) (by kernel_rfl) (fun _ _ _ h => h) (Or.inl ⟨by rfl, ?hya1⟩) SD.out ?resta1
  case hya1 => (intro w hSw; go_simp; try (with_reducible rfl))
  simp only [Act.put, List.setIfInBounds_toArray, List.set_cons_zero, List.set_cons_succ]
  refine wpAnyH_take (i := 2) (oi := ⟨some 22, _, _, _, _, _⟩) (v := ?va2) rfl (by kernel_rfl) (by kernel_rfl) (by kernel_rfl) (fun _ _ _ h => h) (Or.inl ⟨by rfl, ?hya2⟩) SD.out ?resta2
  case hya2 => (intro w hSw; go_simp; try (with_reducible rfl))
  simp only [Act.put, List.setIfInBounds_toArray, List.set_cons_zero, List.set_cons_succ]
  refine wpAnyH_take (i := 3) (oi := ⟨some 23, _, _, _, _, _⟩) (v := ?va3) rfl (by kernel_rfl) (by kernel_rfl) (by kernel_rfl) (fun _ _ _ h => h) (Or.inl ⟨by rfl, ?hya3⟩) SD.out ?resta3
  case hya3 => (intro w hSw; go_simp; try (with_reducible rfl))
  simp only [Act.put, List.setIfInBounds_toArray, List.set_cons_zero, List.set_cons_succ]
  refine wpAnyH_take (i := 4) (oi := ⟨some 24, _, _, _, _, _⟩) (v := ?va4) rfl (by kernel_rfl) (by kernel_rfl) (by kernel_rfl) (fun _ _ _ h => h) (Or.inl ⟨by rfl, ?hya4⟩) SD.out ?resta4
  case hya4 => (intro w hSw; go_simp; try (with_reducible rfl))
  simp only [Act.put, List.setIfInBounds_toArray, List.set_cons_zero, List.set_cons_succ]
  refine wpAnyH_take (i := 5) (oi := ⟨some 25, _, _, _, _, _⟩) (v := ?va5) rfl (by kernel_rfl) (by kernel_rfl) (by kernel_rfl) (fun _ _ _ h => h) (Or.inl ⟨by rfl, ?hya5⟩) SD.out ?resta5
  case hya5 => (intro w hSw; go_simp; try (with_reducible rfl))
  simp only [Act.put, List.setIfInBounds_toArray, List.set_cons_zero, List.set_cons_succ]
  refine wpAnyH_take (i := 6) (oi := ⟨some 26, _, _, _, _, _⟩) (v := ?va6) rfl (by kernel_rfl) (by kernel_rfl) (by kernel_rfl) (fun _ _ _ h => h) (Or.inl ⟨by rfl, ?hya6⟩) SD.out ?resta6
  case hya6 => (intro w hSw; go_simp; try (with_reducible rfl))
  simp only [Act.put, List.setIfInBounds_toArray, List.set_cons_zero, List.set_cons_succ]
  refine anyH_one (i := 7) (o := ⟨some 27, _, _, _, _, _⟩) (by kernel_rfl) rfl (fun K hK => ?_)
  rw [if_pos (by rfl)]
  go_simp
  refine (fc _ MD.out.tb).mono ?_
  rintro e2 w2 ⟨rfl, hT, hk⟩
  have M2 := Lib.hid (MD.out.table hT hk)
  have K2 := Lib.hid (K1.out.drew.trans (MS.tb (S := S) hk))
  have nP := LTW.out m.pb (.inr (.inr (.inr (.inl rfl))))
  have O2 := Lib.hid (OD.out.keep hk (by omega))
  have N2 := Lib.hid (ND.out.keep hk (by omega))
  have S2 := Lib.hid (show (fun w' => w'.cell? ⟨m.mb, 8, none⟩ = some (.pointer (some ⟨m.ab, 0, none⟩)) ∧ w'.cell? ⟨w.heap.size, 0, none⟩ = some (.int .i64 os) ∧ w'.cell? ⟨w.heap.size, 1, none⟩ = some (.int .i64 og) ∧ w'.cell? ⟨w.heap.size + 1, 0, none⟩ = some (.int .i64 ns) ∧ w'.cell? ⟨w.heap.size + 1, 1, none⟩ = some (.int .i64 ng)) w2 from ⟨M2.out.cT, O2.out.c0, O2.out.c1, N2.out.c0, N2.out.c1⟩)
  clear hT hk nP
  refine hK.out _ _ S2.out ?_
  clear hK K
  try simp only [Act.put, List.setIfInBounds_toArray, List.set_cons_zero, List.set_cons_succ]
  refine wpAnyH_take (i := 8) (oi := ⟨some 19, _, _, _, _, _⟩) (v := ?vb8) rfl (by kernel_rfl) (by kernel_rfl) (by kernel_rfl) (fun _ _ _ h => h) (Or.inl ⟨by rfl, ?hyb8⟩) S2.out ?restb8
  case hyb8 => (intro w hSw; go_simp; try (with_reducible rfl))
  simp only [Act.put, List.setIfInBounds_toArray, List.set_cons_zero, List.set_cons_succ]
  refine wpAnyH_take (i := 9) (oi := ⟨some 28, _, _, _, _, _⟩) (v := ?vb9) rfl (by kernel_rfl) (by kernel_rfl) (by kernel_rfl) (fun _ _ _ h => h) (Or.inl ⟨by rfl, ?hyb9⟩) S2.out ?restb9
  case hyb9 => (intro w hSw; go_simp; try (with_reducible rfl))
  simp only [Act.put, List.setIfInBounds_toArray, List.set_cons_zero, List.set_cons_succ]
  refine wpAnyH_take (i := 10) (oi := ⟨some 29, _, _, _, _, _⟩) (v := ?vb10) rfl (by kernel_rfl) (by kernel_rfl) (by kernel_rfl) (fun _ _ _ h => h) (Or.inl ⟨by rfl, ?hyb10⟩) S2.out ?restb10
  case hyb10 => (intro w hSw; go_simp; try (with_reducible rfl))
  simp only [Act.put, List.setIfInBounds_toArray, List.set_cons_zero, List.set_cons_succ]
  refine anyH_one (i := 11) (o := ⟨some 10, _, _, _, _, _⟩) (by kernel_rfl) rfl (fun K hK => ?_)
  rw [if_pos (by rfl)]
  go_simp
  refine hK.out _ _ S2.out ?_
  clear hK K
  try simp only [Act.put, List.setIfInBounds_toArray, List.set_cons_zero, List.set_cons_succ]
  refine anyH_one (i := 12) (o := ⟨some 11, _, _, _, _, _⟩) (by kernel_rfl) rfl (fun K hK => ?_)
  rw [if_pos (by rfl)]
  go_simp
  refine hK.out _ _ S2.out ?_
  clear hK K
  try simp only [Act.put, List.setIfInBounds_toArray, List.set_cons_zero, List.set_cons_succ]
  refine wpAnyH_done (by kernel_rfl) ?_ _
  have fa := fun w => fAt_any ⟨#[116, 97, 98, 108, 101]⟩ x (codeT L x) w
  go_wp2_with fail
  refine (fa _).mono ?_
  rintro ev w3 ⟨v, rfl, he, hs⟩
  have M3 := Lib.hid (M2.out.low hs)
  have K3 := Lib.hid (K2.out.trans (Kept.of_below hs))
  have E3 := Lib.hid he
  clear hs he fa
  go_wp2
  go_ret2
  exact ⟨v, rfl, E3.out, M3.out, K3.out⟩
end Go.Proofs.Ytaiaaljahnackaa
