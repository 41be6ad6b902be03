/- Package install's keep, by contract. -/
import Derived.Test.YtejmdmaebkdjoaaGreatDoorMmOpsB
import Derived.Deep.CutRange
import Derived.Deep.LoopGhost
import Derived.Deep.MidRow
import Derived.OrdersHeld
import Derived.Deep.RegionHeld
import Derived.StillTail
import Derived.Test.YtejmdmaebkdjoaaGreatDoorArLast
namespace Go.Proofs.YtejmdmaebkdjoaaGreatDoor
set_option linter.unusedVariables false
set_option linter.unusedSimpArgs false
set_option maxRecDepth 100000
set_option maxHeartbeats 4000000
open Go.RowKit
def inc (k : Int) : Int := wrap64 (k + 1)
theorem inc_at {k : Int} (h0 : 0 ≤ k) (h1 : k < 1000000000) : inc k = k + 1 := by unfold inc; exact Go.IntWalk.wrap64_in _ (by omega)
theorem RecV.kept {w w' : World} {sc : Sc} {rv en : Value} {d : RecD} {S : Nat → Prop} (h : RecV w (recVal sc rv en) d) (hk : Kept S w w') (o1 : Out S rv) (o2 : Out S en) : RecV w' (recVal sc rv en) d := by
 obtain ⟨rv', en', e, h1, h2⟩ := h
 have e' := e
 unfold recVal at e'
 simp only [Value.agg.injEq, Array.mk.injEq, List.cons.injEq] at e'
 obtain ⟨-, -, -, -, -, rfl, rfl, -⟩ := e'
 exact ⟨_, _, e, h1.kept hk o1, h2.kept hk o2⟩
theorem Out.sub {S T : Nat → Prop} {v : Value} (h : Out S v) (hs : ∀ k, T k → S k) : Out T v := fun a n c e ht => h a n c e (hs _ ht)
theorem access_inc (w : World) (m : MB) (S : Nat → Prop) (l : LimN) (k : Int) (ps : List Pt) (L : List Pg) (c : Ck) (h : MemAt w m S l k ps L c) :
  Calls Tryz.prog 64 #[.pointer (some ⟨m.mb, 0, none⟩)] w fun ev w' => ev = .returned (.tuple #[]) ∧ MemAt w' m S l (inc k) ps L c ∧ Kept (CM m) w w' := by
 have x0 := h.cN
 have M := Lib.hid h
 have fz := blk_free h.blk 0
 clear h
 go_enter Tryz.func64, Tryz.ntmps64
 go_wp2
 go_end0
 have hc := M.out.count (inc k)
 exact ⟨rfl, hc, ((Kept.refl (fun k => k = m.mb) w).setCell _ _).wide fun _ _ h => .inl h⟩
def SomeV (ev : Ending) : Prop := ∃ v, ev = .returned v
theorem SomeV.of (v : Value) : SomeV (.returned v) := ⟨v, rfl⟩
theorem nTake_any (w : World) (m : MB) (S : Nat → Prop) (l : LimN) (k : Int) (ps : List Pt) (L : List Pg) (c : Ck) (h : MemAt w m S l k ps L c) :
  Calls Tryz.prog 81 #[.pointer (some ⟨m.mb, 0, none⟩)] w fun ev w' => ∃ v, ev = .returned (.tuple #[.int .i64 (takeN L : Int), v]) ∧ ErrF w' v (takeE L) ∧ MemAt w' m S l (inc k) ps (takeL L) c ∧ Kept (MS m S) w w' := by
 have M0 := Lib.hid h
 clear h
 go_enter Tryz.func81, Tryz.ntmps81
 go_wp2_with fail
 refine (access_inc _ m S l k ps L c M0.out).mono ?_
 rintro ev w1 ⟨rfl, hM, hk⟩
 have M1 := Lib.hid hM
 have K1 := Lib.hid (hk.wide fun _ _ h => CM.ms (S := S) _ h)
 have x1 := hM.cT
 clear hM hk
 go_wp2_with fail
 refine (take_any _ m.ab m.pb l.p L M1.out.tb).mono ?_
 rintro ev w2 ⟨rfl, hT, hk⟩
 have M2 := Lib.hid (M1.out.table hT hk)
 have K2 := Lib.hid (K1.out.trans (MS.tb hk))
 clear hT hk x1
 have fa := fun w => fAt_any ⟨#[116, 97, 98, 108, 101]⟩ 0 (takeE L) w
 go_wp2_with fail
 refine (fa _).mono ?_
 rintro ev w3 ⟨v, rfl, he, hs⟩
 have M3 := Lib.hid (M2.out.low hs)
 have K3 := Lib.hid (K2.out.trans (Kept.of_below hs))
 have E3 := Lib.hid he
 clear hs fa he
 go_wp2
 go_ret2
 exact ⟨v, rfl, E3.out, M3.out, K3.out⟩
theorem nGive_any (w : World) (m : MB) (S : Nat → Prop) (l : LimN) (k : Int) (ps : List Pt) (L : List Pg) (c : Ck) (x : Int) (h : MemAt w m S l k ps L c) :
  Calls Tryz.prog 45 #[.pointer (some ⟨m.mb, 0, none⟩), .int .i64 x] w fun ev w' => SomeV ev ∧ MemAt w' m S l (inc k) ps (giveL L x) c ∧ Kept (MS m S) w w' := by
 have M0 := Lib.hid h
 clear h
 go_enter Tryz.func45, Tryz.ntmps45
 go_wp2_with fail
 refine (access_inc _ m S l k ps L c M0.out).mono ?_
 rintro ev w1 ⟨rfl, hM, hk⟩
 have M1 := Lib.hid hM
 have K1 := Lib.hid (hk.wide fun _ _ h => CM.ms (S := S) _ h)
 have x1 := hM.cT
 clear hM hk
 go_wp2_with fail
 refine (give_any _ m.ab m.pb l.p L x M1.out.tb).mono ?_
 rintro ev w2 ⟨rfl, hT, hk⟩
 have M2 := Lib.hid (M1.out.table hT hk)
 have K2 := Lib.hid (K1.out.trans (MS.tb hk))
 clear hT hk x1
 have fa := fun w => fAt_any ⟨#[116, 97, 98, 108, 101]⟩ x (codeT L x) w
 go_wp2_with fail
 refine (fa _).mono ?_
 rintro ev w3 ⟨v, rfl, -, hs⟩
 have M3 := Lib.hid (M2.out.low hs)
 have K3 := Lib.hid (K2.out.trans (Kept.of_below hs))
 clear hs fa
 go_wp2
 go_ret
 exact ⟨SomeV.of _, M3.out, K3.out⟩
theorem nFree_any (w : World) (m : MB) (S : Nat → Prop) (l : LimN) (k : Int) (ps : List Pt) (L : List Pg) (c : Ck) (x y : Int) (h : MemAt w m S l k ps L c) :
  Calls Tryz.prog 44 #[.pointer (some ⟨m.mb, 0, none⟩), refV x y] w fun ev w' => SomeV ev ∧ ∃ S', MemAt w' m S' l (inc k) (freeM l.s ps x y) L c ∧ Kept (MS m S) w w' ∧ (∀ j, MS m S' j → MS m S j ∨ w.heap.size ≤ j) := by
 have b0 := alloc_below0 w (.cells #[.int .i64 x, .int .i64 y] 48)
 have M0 := Lib.hid (h.low b0)
 have B0 := Lib.hid b0
 have R0 := Lib.hid (RfB.mk (blk_new w (.cells #[.int .i64 x, .int .i64 y] 48)))
 have LTW := Lib.hid (show ∀ j, MS m S j → j < w.heap.size from h.lt)
 clear h b0
 have fc := fun w' h => ar_free_any m.aa S l.s l.c ps x y w' h
 unfold refV at fc ⊢
 go_enter Tryz.func44, Tryz.ntmps44
 go_wp2_with fail
 refine (access_inc _ m S l k ps L c M0.out).mono ?_
 rintro ev w1 ⟨rfl, hM, hk⟩
 have M1 := Lib.hid hM
 have K1 := Lib.hid ((Kept.of_below B0.out).trans (hk.wide fun _ _ h => CM.ms (S := S) _ h))
 have R1 := Lib.hid (R0.out.keep hk (M0.out.offC R0.out.blk (by decide) (by decide)))
 clear hM hk
 go_wp2_with fail
 have MD := Lib.hid (M1.out.low (Below.refl _ _).drew)
 have RD := Lib.hid (R1.out.step (Below.refl _ _).drew)
 have KD := Lib.hid K1.out.drew
 have SD := Lib.hid (show (fun w' => w'.cell? ⟨m.mb, 7, none⟩ = some (.pointer (some m.aa)) ∧ RfB w' w.heap.size x y) w1.drew from ⟨MD.out.cA, RD.out⟩)
 refine anyH_region (fun w' => w'.cell? ⟨m.mb, 7, none⟩ = some (.pointer (some m.aa)) ∧ RfB w' w.heap.size x y) (by kernel_rfl) ?_
 refine tkH (i := 0) (oi := ⟨some 12, _, _, _, _, _⟩) (v := ?va0) rfl (Or.inl ⟨by rfl, ?hya0⟩) SD.out ?resta0
 case hya0 => (intro w hSw; have q0 := hSw.1; have q1 := hSw.2.c0; have q2 := hSw.2.c1; go_simp; try (with_reducible rfl))
 simp only [Act.put, sT, sZ, sS]
 refine tkH (i := 1) (oi := ⟨some 13, _, _, _, _, _⟩) (v := ?va1) rfl (Or.inl ⟨by rfl, ?hya1⟩) SD.out ?resta1
 case hya1 => (intro w hSw; have q0 := hSw.1; have q1 := hSw.2.c0; have q2 := hSw.2.c1; go_simp; try (with_reducible rfl))
 simp only [Act.put, sT, sZ, sS]
 refine tkH (i := 2) (oi := ⟨some 14, _, _, _, _, _⟩) (v := ?va2) rfl (Or.inl ⟨by rfl, ?hya2⟩) SD.out ?resta2
 case hya2 => (intro w hSw; have q0 := hSw.1; have q1 := hSw.2.c0; have q2 := hSw.2.c1; go_simp; try (with_reducible rfl))
 simp only [Act.put, sT, sZ, sS]
 refine tkH (i := 3) (oi := ⟨some 15, _, _, _, _, _⟩) (v := ?va3) rfl (Or.inl ⟨by rfl, ?hya3⟩) SD.out ?resta3
 case hya3 => (intro w hSw; have q0 := hSw.1; have q1 := hSw.2.c0; have q2 := hSw.2.c1; go_simp; try (with_reducible rfl))
 simp only [Act.put, sT, sZ, sS]
 refine tkH (i := 4) (oi := ⟨some 16, _, _, _, _, _⟩) (v := ?va4) rfl (Or.inl ⟨by rfl, ?hya4⟩) SD.out ?resta4
 case hya4 => (intro w hSw; have q0 := hSw.1; have q1 := hSw.2.c0; have q2 := hSw.2.c1; go_simp; try (with_reducible rfl))
 simp only [Act.put, sT, sZ, sS]
 refine tkH (i := 5) (oi := ⟨some 17, _, _, _, _, _⟩) (v := ?va5) rfl (Or.inl ⟨by rfl, ?hya5⟩) SD.out ?resta5
 case hya5 => (intro w hSw; have q0 := hSw.1; have q1 := hSw.2.c0; have q2 := hSw.2.c1; go_simp; try (with_reducible rfl))
 simp only [Act.put, sT, sZ, sS]
 refine tkH (i := 6) (oi := ⟨some 18, _, _, _, _, _⟩) (v := ?va6) rfl (Or.inl ⟨by rfl, ?hya6⟩) SD.out ?resta6
 case hya6 => (intro w hSw; have q0 := hSw.1; have q1 := hSw.2.c0; have q2 := hSw.2.c1; go_simp; try (with_reducible rfl))
 simp only [Act.put, sT, sZ, sS]
 refine anyH_one (i := 7) (o := ⟨some 19, _, _, _, _, _⟩) (by kernel_rfl) rfl (fun K hK => ?_)
 rw [if_pos (by rfl)]
 go_simp
 refine (fc _ MD.out.ar).mono ?_
 rintro e2 w2 ⟨S', rfl, hI, hk, hS⟩
 have M2 := Lib.hid (MD.out.arena hI hk hS)
 have K2 := Lib.hid (KD.out.trans (MS.ar (m := m) hk))
 have R2 := Lib.hid (RD.out.keep hk (fun hs => Nat.lt_irrefl _ (LTW.out _ (.inr (.inl hs)))))
 have F2 := Lib.hid (show ∀ j, S' j → S j ∨ w.heap.size ≤ j from fun j hj => (hS j hj).imp id (fun h => by have := KD.out.size; omega))
 clear hI hk hS
 have S2 := Lib.hid (show (fun w' => w'.cell? ⟨m.mb, 7, none⟩ = some (.pointer (some m.aa)) ∧ RfB w' w.heap.size x y) w2 from ⟨M2.out.cA, R2.out⟩)
 refine hK.out _ _ S2.out ?_
 clear hK K
 try simp only [Act.put, sT, sZ, sS]
 refine anyH_one (i := 8) (o := ⟨some 20, _, _, _, _, _⟩) (by kernel_rfl) rfl (fun K hK => ?_)
 rw [if_pos (by rfl)]
 go_simp
 refine (fAt_any ⟨#[97, 114, 101, 110, 97]⟩ x (codeM l.s ps x y) _).mono ?_
 rintro e3 w3 ⟨v, rfl, -, hs⟩
 have M3 := Lib.hid (M2.out.low hs)
 have K3 := Lib.hid (K2.out.trans (Kept.of_below hs))
 have R3 := Lib.hid (R2.out.step hs)
 clear hs
 have S3 := Lib.hid (show (fun w' => w'.cell? ⟨m.mb, 7, none⟩ = some (.pointer (some m.aa)) ∧ RfB w' w.heap.size x y) w3 from ⟨M3.out.cA, R3.out⟩)
 refine hK.out _ _ S3.out ?_
 clear hK K
 try simp only [Act.put, sT, sZ, sS]
 refine anyH_one (i := 9) (o := ⟨some 4, _, _, _, _, _⟩) (by kernel_rfl) rfl (fun K hK => ?_)
 rw [if_pos (by rfl)]
 go_simp
 refine hK.out _ _ S3.out ?_
 clear hK K
 try simp only [Act.put, sT, sZ, sS]
 refine wpAnyH_done (by kernel_rfl) ?_ _
 go_wp2
 go_ret
 refine ⟨SomeV.of _, S', M3.out, K3.out, fun j hj => ?_⟩
 rcases hj with h | h | h
 ·exact .inl (.inl h)
 ·exact (F2.out j h).imp (fun h => .inr (.inl h)) id
 ·exact .inl (.inr (.inr h))
open Go.RowKit
theorem nAlloc_any (w : World) (m : MB) (S : Nat → Prop) (l : LimN) (k : Int) (ps : List Pt) (L : List Pg) (c : Ck) (d : RecD) (ra : Option Addr) (rn rc : Nat) (ea : Option Addr) (en ec : Nat) (h : MemAt w m S l k ps L c) (hv : RecV w (recVal d.sc (.slice ra rn rc) (.slice ea en ec)) d) (o1 : Out (MS m S) (.slice ra rn rc)) (o2 : Out (MS m S) (.slice ea en ec)) (h1 : d.rows.length ≤ 1000) (h2 : d.ents.length ≤ 1000) :
  Calls Tryz.prog 82 #[.pointer (some ⟨m.mb, 0, none⟩), recVal d.sc (.slice ra rn rc) (.slice ea en ec)] w fun ev w' => ∃ S' v, ev = .returned (.tuple #[refV ((allocM l.s l.c ps).1 : Int) ((allocM l.s l.c ps).2.1 : Int), v]) ∧ ErrF w' v (allocM l.s l.c ps).2.2 ∧ (MemAt w' m S' l (inc k) (putM l.s l.c ps d) L c) ∧ Kept (MS m S) w w' ∧ (∀ j, MS m S' j → MS m S j ∨ w.heap.size ≤ j) := by
 obtain ⟨W0, hW0⟩ : ∃ W, W = (w.alloc (recObj d.sc (.slice ra rn rc) (.slice ea en ec))).alloc (.cells #[.int .i64 0, .int .i64 0] 48) := ⟨_, rfl⟩
 have b0 : Below w.heap.size w W0 := by rw [hW0]; exact (alloc_below0 _ _).trans ((alloc_below0 _ _).mono (alloc_below0 w _).size)
 have M0 := Lib.hid (h.low b0)
 have hr0 : W0.heap[w.heap.size]? = some (recObj d.sc (.slice ra rn rc) (.slice ea en ec)) := by rw [hW0]; exact blk_step (blk_new w _) (alloc_below0 _ _)
 have hz0 : W0.heap[w.heap.size + 1]? = some (.cells #[.int .i64 0, .int .i64 0] 48) := by rw [hW0, show w.heap.size + 1 = (w.alloc (recObj d.sc (.slice ra rn rc) (.slice ea en ec))).heap.size by simp]; exact blk_new _ _
 have B0 := Lib.hid b0
 have LTW := Lib.hid (show ∀ j, MS m S j → j < w.heap.size from h.lt)
 have Z0 := Lib.hid (show W0.heap.size = w.heap.size + 2 by rw [hW0]; simp)
 have R0 := Lib.hid hr0
 have T0 := Lib.hid hz0
 have V0 := Lib.hid hv
 have O12 := Lib.hid (show Out (MS m S) (.slice ra rn rc) ∧ Out (MS m S) (.slice ea en ec) from ⟨o1, o2⟩)
 have OS := Lib.hid (show Out S (.slice ra rn rc) ∧ Out S (.slice ea en ec) from ⟨o1.sub fun _ h => .inr (.inl h), o2.sub fun _ h => .inr (.inl h)⟩)
 have H12 := Lib.hid (show d.rows.length ≤ 1000 ∧ d.ents.length ≤ 1000 from ⟨h1, h2⟩)
 clear h b0 hr0 hz0 hv o1 o2 h1 h2
 unfold recVal
 unfold recObj at hW0
 go_enter Tryz.func82, Tryz.ntmps82
 go_wp2_with fail
 rw [← hW0]
 clear hW0
 refine (access_inc _ m S l k ps L c M0.out).mono ?_
 rintro ev w1 ⟨rfl, hM, hk⟩
 have M1 := Lib.hid hM
 have K1 := Lib.hid ((Kept.of_below B0.out).trans (hk.wide fun _ _ h => CM.ms (S := S) _ h))
 have S1 := Lib.hid hk.size
 have V1 := Lib.hid (V0.out.kept K1.out O12.out.1 O12.out.2)
 have R1 := Lib.hid ((hk.block _ (Array.getElem?_eq_some_iff.1 R0.out).1 (M0.out.offC R0.out (by decide) (by decide))).trans R0.out)
 have T1 := Lib.hid ((hk.block _ (Array.getElem?_eq_some_iff.1 T0.out).1 (M0.out.offC T0.out (by decide) (by decide))).trans T0.out)
 clear hM hk
 go_upto_region 4 with (fail)
 go_cut [6, 7] from 17 to 25 (fun s6 s7 wc => ∃ (b : Nat) (S' : Nat → Prop), s6 = .pointer (some ⟨b, 0, none⟩) ∧ s7 = errV (allocM l.s l.c ps).2.2 ∧ RfB wc b ((allocM l.s l.c ps).1 : Int) ((allocM l.s l.c ps).2.1 : Int) ∧ w1.heap.size ≤ b ∧ MemAt wc m S' l (inc k) (putM l.s l.c ps d) L c ∧ (∀ j, S' j → S j ∨ w1.heap.size ≤ j) ∧ Kept S w1 wc)
 case first =>
  go_wp2_with fail
  have HS := Lib.hid (show ∀ w', Kept S w1 w' → (fun w' => w'.cell? ⟨m.mb, 7, none⟩ = some (.pointer (some m.aa)) ∧ w'.rangeAt w.heap.size 0 (recCells d.sc (.slice ra rn rc) (.slice ea en ec))) w' from fun w' hk => ⟨by rw [World.cell?_of_block (a := ⟨m.mb, 7, none⟩) (hk.block m.mb (Array.getElem?_eq_some_iff.1 M1.out.blk).1 M1.out.oM)]; exact M1.out.cA, blk_rng ((hk.block _ (Array.getElem?_eq_some_iff.1 R1.out).1 (fun hs => Nat.lt_irrefl _ (LTW.out _ (.inr (.inl hs))))).trans R1.out)⟩)
  have KD := Lib.hid (Kept.refl S w1).drew
  have SD := Lib.hid (HS.out _ KD.out)
  have MD := Lib.hid (M1.out.low (Below.refl _ _).drew)
  refine anyH_region (fun w' => w'.cell? ⟨m.mb, 7, none⟩ = some (.pointer (some m.aa)) ∧ w'.rangeAt w.heap.size 0 (recCells d.sc (.slice ra rn rc) (.slice ea en ec))) (by kernel_rfl) ?_
  refine tkH (i := 0) (oi := ⟨some 17, _, _, _, _, _⟩) (v := ?va0) rfl (Or.inl ⟨by rfl, ?hya0⟩) SD.out ?resta0
  case hya0 => (intro w hSw; go_simp; try (with_reducible rfl))
  simp only [Act.put, sT, sZ, sS]
  refine tkH (i := 1) (oi := ⟨some 18, _, _, _, _, _⟩) (v := ?va1) rfl (Or.inl ⟨by rfl, ?hya1⟩) SD.out ?resta1
  case hya1 => (intro w hSw; go_simp; try (with_reducible rfl))
  simp only [Act.put, sT, sZ, sS]
  refine tkH (i := 2) (oi := ⟨some 19, _, _, _, _, _⟩) (v := ?va2) rfl (Or.inl ⟨by rfl, ?hya2⟩) SD.out ?resta2
  case hya2 => (intro w hSw; go_simp; try (with_reducible rfl))
  simp only [Act.put, sT, sZ, sS]
  refine tkH (i := 3) (oi := ⟨some 20, _, _, _, _, _⟩) (v := ?va3) rfl (Or.inl ⟨by rfl, ?hya3⟩) SD.out ?resta3
  case hya3 => (intro w hSw; go_simp; try (with_reducible rfl))
  simp only [Act.put, sT, sZ, sS]
  refine tkH (i := 4) (oi := ⟨some 21, _, _, _, _, _⟩) (v := .agg (recCells d.sc (.slice ra rn rc) (.slice ea en ec)).toArray) rfl (yieldsIf_load_mid (by rfl) 55 (.tmp 3) rfl w.heap.size 0 rfl (recCells d.sc (.slice ra rn rc) (.slice ea en ec)) _ (fun w h => h.2) Tryz.underlying55 rfl recInfoS) SD.out ?resta4
  simp only [Act.put, sT, sZ, sS]
  refine anyH_two (i := 5) (j := 9) (o := ⟨some 22, _, _, _, _, _⟩) (u := ⟨some 6, _, _, _, _, _⟩) (by kernel_rfl) rfl rfl (fun K hK => ?_) (fun K hK => ?_)
  ·rw [if_pos (by rfl)]
   go_simp
   refine (alloc_any m.aa _ S l.s l.c ps d _ MD.out.ar (V1.out.kept KD.out OS.out.1 OS.out.2) H12.out.1 H12.out.2).mono ?_
   rintro e2 w2 ⟨S', rfl, hI, hk, hS⟩
   have K2 := Lib.hid (KD.out.trans hk)
   have M2 := Lib.hid (MD.out.arena hI hk hS)
   have HS2 := Lib.hid (show ∀ j, S' j → S j ∨ w1.heap.size ≤ j from hS)
   clear hI hk hS
   unfold refV
   refine hK.out _ _ (HS.out _ K2.out) ?_
   clear hK K
   try simp only [Act.put, sT, sZ, sS]
   refine tkH (i := 6) (oi := ⟨some 16, _, _, _, _, _⟩) (v := ?vb6) rfl (Or.inl ⟨by rfl, ?hyb6⟩) (HS.out _ K2.out) ?restb6
   case hyb6 => (intro w hSw; go_simp; try (with_reducible rfl))
   simp only [Act.put, sT, sZ, sS]
   refine tkH (i := 7) (oi := ⟨some 23, _, _, _, _, _⟩) (v := ?vb7) rfl (Or.inl ⟨by rfl, ?hyb7⟩) (HS.out _ K2.out) ?restb7
   case hyb7 => (intro w hSw; go_simp; try (with_reducible rfl))
   simp only [Act.put, sT, sZ, sS]
   refine tkH (i := 8) (oi := ⟨some 24, _, _, _, _, _⟩) (v := ?vb8) rfl (Or.inl ⟨by rfl, ?hyb8⟩) (HS.out _ K2.out) ?restb8
   case hyb8 => (intro w hSw; go_simp; try (with_reducible rfl))
   simp only [Act.put, sT, sZ, sS]
   have b3 := Lib.hid (alloc_below0 w2 (.cells #[.int .i64 0, .int .i64 0] 48))
   have K3 := Lib.hid (K2.out.trans (Kept.of_below b3.out))
   have M3 := Lib.hid (M2.out.low b3.out)
   have z3 := Lib.hid (blk_new w2 (.cells #[.int .i64 0, .int .i64 0] 48))
   have o3 := Lib.hid (M2.out.offB (Nat.le_refl _))
   refine anyH_one (i := 9) (o := ⟨some 6, _, _, _, _, _⟩) (by kernel_rfl) rfl (fun K hK => ?_)
   rw [if_pos (by rfl)]
   go_simp
   refine hK.out _ _ (HS.out _ K3.out) ?_
   clear hK K
   try simp only [Act.put, sT, sZ, sS]
   refine anyH_one (i := 10) (o := ⟨none, _, _, _, _, _⟩) (by kernel_rfl) rfl (fun K hK => ?_)
   rw [if_pos (by rfl)]
   refine wp_store_mid 48 (.tmp 6) (.tmp 23) rfl w2.heap.size 0 ([.int .i64 ((allocM l.s l.c ps).1 : Int), .int .i64 ((allocM l.s l.c ps).2.1 : Int)] : List Value).toArray rfl rfl (blk_there z3.out 2 (Nat.le_refl _)) (by kernel_rfl) (by kernel_rfl) ?_
   have nb := Lib.hid (show w1.heap.size ≤ w2.heap.size by have := KD.out.size; have := K2.out.size; first | omega | exact Nat.le_refl _ | assumption)
   have K4 := Lib.hid ((K3.out.setNew nb.out 0 (.int .i64 ((allocM l.s l.c ps).1 : Int))).setNew nb.out 1 (.int .i64 ((allocM l.s l.c ps).2.1 : Int)))
   have M4 := Lib.hid (M3.out.keep (Kept.setCells [.int .i64 ((allocM l.s l.c ps).1 : Int), .int .i64 ((allocM l.s l.c ps).2.1 : Int)] 0 _ (Kept.refl (fun x => x = w2.heap.size) _)) (fun j hj e => o3.out (e ▸ hj)))
   have r4 := Lib.hid (list_laid [.int .i64 ((allocM l.s l.c ps).1 : Int), .int .i64 ((allocM l.s l.c ps).2.1 : Int)] z3.out rfl)
   refine hK.out _ _ (HS.out _ K4.out) ?_
   clear hK K
   try simp only [Act.put]
   refine anyH_one (i := 11) (o := ⟨some 7, _, _, _, _, _⟩) (by kernel_rfl) rfl (fun K hK => ?_)
   rw [if_pos (by rfl)]
   go_simp
   refine hK.out _ _ (HS.out _ K4.out) ?_
   clear hK K
   try simp only [Act.put, sT, sZ, sS]
   refine wpAnyH_done (by kernel_rfl) ?_ _
   go_wp2
   go_meet
   case rel => exact ⟨_, S', rfl, rfl, ⟨r4.out⟩, nb.out, M4.out, HS2.out, K4.out⟩
  ·have b3 := Lib.hid (alloc_below0 w1.drew (.cells #[.int .i64 0, .int .i64 0] 48))
   have z2 := Lib.hid (blk_new w1.drew (.cells #[.int .i64 0, .int .i64 0] 48))
   have MB2 := Lib.hid (MD.out.low b3.out)
   have KB2 := Lib.hid (KD.out.trans (Kept.of_below b3.out))
   have o2 := Lib.hid (MD.out.offB (Nat.le_refl w1.drew.heap.size))
   have zs := Lib.hid (show (w1.drew.alloc (.cells #[.int .i64 0, .int .i64 0] 48)).heap.size = w1.heap.size + 1 from by show (w1.drew.heap.push _).size = _; rw [Array.size_push]; rfl)
   rw [if_pos (by rfl)]
   go_simp
   refine hK.out _ _ (HS.out _ KB2.out) ?_
   clear hK K
   try simp only [Act.put, sT, sZ, sS]
   refine anyH_one (i := 5) (o := ⟨some 22, _, _, _, _, _⟩) (by kernel_rfl) rfl (fun K hK => ?_)
   rw [if_pos (by rfl)]
   go_simp
   refine (alloc_any m.aa _ S l.s l.c ps d _ MB2.out.ar (V1.out.kept KB2.out OS.out.1 OS.out.2) H12.out.1 H12.out.2).mono ?_
   rintro e2 w2 ⟨S', rfl, hI, hk, hS⟩
   have K2 := Lib.hid (KB2.out.trans hk)
   have M2 := Lib.hid (MB2.out.arena hI hk hS)
   have HS2 := Lib.hid (show ∀ j, S' j → S j ∨ w1.heap.size ≤ j from fun j hj => (hS j hj).imp id (fun h => by have := zs.out; omega))
   have o3 := Lib.hid (show ¬ MS m S' w1.heap.size from fun hm => by
    rcases hm with e | hs | e
    ·exact o2.out (.inl e)
    ·rcases hS _ hs with h | h
     ·exact o2.out (.inr (.inl h))
     ·have := zs.out; omega
    ·exact o2.out (.inr (.inr e)))
   have z3 := Lib.hid ((hk.block _ (by have := zs.out; show w1.heap.size < _; omega) (fun h => o2.out (.inr (.inl h)))).trans z2.out)
   clear hI hk hS
   unfold refV
   refine hK.out _ _ (HS.out _ K2.out) ?_
   clear hK K
   try simp only [Act.put, sT, sZ, sS]
   refine tkH (i := 6) (oi := ⟨some 16, _, _, _, _, _⟩) (v := ?vc6) rfl (Or.inl ⟨by rfl, ?hyc6⟩) (HS.out _ K2.out) ?restc6
   case hyc6 => (intro w hSw; go_simp; try (with_reducible rfl))
   simp only [Act.put, sT, sZ, sS]
   refine tkH (i := 7) (oi := ⟨some 23, _, _, _, _, _⟩) (v := ?vc7) rfl (Or.inl ⟨by rfl, ?hyc7⟩) (HS.out _ K2.out) ?restc7
   case hyc7 => (intro w hSw; go_simp; try (with_reducible rfl))
   simp only [Act.put, sT, sZ, sS]
   refine tkH (i := 8) (oi := ⟨some 24, _, _, _, _, _⟩) (v := ?vc8) rfl (Or.inl ⟨by rfl, ?hyc8⟩) (HS.out _ K2.out) ?restc8
   case hyc8 => (intro w hSw; go_simp; try (with_reducible rfl))
   simp only [Act.put, sT, sZ, sS]
   have K3 := Lib.hid K2.out
   have M3 := Lib.hid M2.out
   refine anyH_one (i := 10) (o := ⟨none, _, _, _, _, _⟩) (by kernel_rfl) rfl (fun K hK => ?_)
   rw [if_pos (by rfl)]
   refine wp_store_mid 48 (.tmp 6) (.tmp 23) rfl w1.heap.size 0 ([.int .i64 ((allocM l.s l.c ps).1 : Int), .int .i64 ((allocM l.s l.c ps).2.1 : Int)] : List Value).toArray rfl rfl (blk_there z3.out 2 (Nat.le_refl _)) (by kernel_rfl) (by kernel_rfl) ?_
   have nb := Lib.hid (show w1.heap.size ≤ w1.heap.size by have := KD.out.size; have := K2.out.size; first | omega | exact Nat.le_refl _ | assumption)
   have K4 := Lib.hid ((K3.out.setNew nb.out 0 (.int .i64 ((allocM l.s l.c ps).1 : Int))).setNew nb.out 1 (.int .i64 ((allocM l.s l.c ps).2.1 : Int)))
   have M4 := Lib.hid (M3.out.keep (Kept.setCells [.int .i64 ((allocM l.s l.c ps).1 : Int), .int .i64 ((allocM l.s l.c ps).2.1 : Int)] 0 _ (Kept.refl (fun x => x = w1.heap.size) _)) (fun j hj e => o3.out (e ▸ hj)))
   have r4 := Lib.hid (list_laid [.int .i64 ((allocM l.s l.c ps).1 : Int), .int .i64 ((allocM l.s l.c ps).2.1 : Int)] z3.out rfl)
   refine hK.out _ _ (HS.out _ K4.out) ?_
   clear hK K
   try simp only [Act.put]
   refine anyH_one (i := 11) (o := ⟨some 7, _, _, _, _, _⟩) (by kernel_rfl) rfl (fun K hK => ?_)
   rw [if_pos (by rfl)]
   go_simp
   refine hK.out _ _ (HS.out _ K4.out) ?_
   clear hK K
   try simp only [Act.put, sT, sZ, sS]
   refine wpAnyH_done (by kernel_rfl) ?_ _
   go_wp2
   go_meet
   case rel => exact ⟨_, S', rfl, rfl, ⟨r4.out⟩, nb.out, M4.out, HS2.out, K4.out⟩
 case rest =>
  obtain ⟨b, S', rfl, rfl, hR, hb, hM, hS, hk⟩ := hcut
  obtain ⟨wL, hwq⟩ : ∃ x, x = wc := ⟨_, rfl⟩
  subst hwq
  have M2 := Lib.hid hM
  have R2 := Lib.hid hR
  have K2 := Lib.hid (K1.out.trans (MS.ar (m := m) hk))
  have T2 := Lib.hid ((hk.block _ (Array.getElem?_eq_some_iff.1 T1.out).1 (fun h => by have := LTW.out _ (.inr (.inl h)); omega)).trans T1.out)
  have NB := Lib.hid (show w.heap.size + 2 ≤ b by have := Z0.out; have := S1.out; omega)
  have HS := Lib.hid (show ∀ j, S' j → S j ∨ w.heap.size + 2 ≤ j from fun j hj => (hS j hj).imp id (fun h => by have := Z0.out; have := S1.out; omega))
  clear hM hR hk hS hb
  have fa := fun w => fAt_any ⟨#[97, 114, 101, 110, 97]⟩ 0 (allocM l.s l.c ps).2.2 w
  go_wp2_with fail
  have BD := Lib.hid (Below.refl wL.heap.size wL).drew
  have HS5 := Lib.hid (show ∀ w', Below wL.heap.size wL w' → (fun w' => w'.cell? ⟨b, 0, none⟩ = some (.int .i64 ((allocM l.s l.c ps).1 : Int)) ∧ w'.cell? ⟨b, 1, none⟩ = some (.int .i64 ((allocM l.s l.c ps).2.1 : Int))) w' from fun w' hs => ⟨(R2.out.step hs).c0, (R2.out.step hs).c1⟩)
  have SD := Lib.hid (HS5.out _ BD.out)
  refine anyH_region (fun w' => w'.cell? ⟨b, 0, none⟩ = some (.int .i64 ((allocM l.s l.c ps).1 : Int)) ∧ w'.cell? ⟨b, 1, none⟩ = some (.int .i64 ((allocM l.s l.c ps).2.1 : Int))) (by kernel_rfl) ?_
  refine tkH (i := 0) (oi := ⟨some 25, _, _, _, _, _⟩) (v := ?ve0) rfl (Or.inl ⟨by rfl, ?hye0⟩) SD.out ?reste0
  case hye0 => (intro w hSw; go_simp; try (with_reducible rfl))
  simp only [Act.put, sT, sZ, sS]
  refine tkH (i := 1) (oi := ⟨some 26, _, _, _, _, _⟩) (v := ?ve1) rfl (Or.inl ⟨by rfl, ?hye1⟩) SD.out ?reste1
  case hye1 => (intro w hSw; go_simp; try (with_reducible rfl))
  simp only [Act.put, sT, sZ, sS]
  refine anyH_one (i := 2) (o := ⟨some 27, _, _, _, _, _⟩) (by kernel_rfl) rfl (fun K hK => ?_)
  rw [if_pos (by rfl)]
  go_simp
  refine (fa _).mono ?_
  rintro ev w3 ⟨v, rfl, he, hs⟩
  have B3 := Lib.hid (BD.out.trans hs)
  have E3 := Lib.hid he
  clear he hs
  refine hK.out _ _ (HS5.out _ B3.out) ?_
  clear hK K
  try simp only [Act.put, sT, sZ, sS]
  have T3 := Lib.hid (blk_step T2.out B3.out)
  have M3 := Lib.hid (M2.out.low B3.out)
  refine anyH_one (i := 3) (o := ⟨none, _, _, _, _, _⟩) (by kernel_rfl) rfl (fun K hK => ?_)
  rw [if_pos (by rfl)]
  refine wp_store_mid 48 (.tmp 4) (.tmp 25) rfl (w.heap.size + 1) 0 ([.int .i64 ((allocM l.s l.c ps).1 : Int), .int .i64 ((allocM l.s l.c ps).2.1 : Int)] : List Value).toArray rfl rfl (blk_there T3.out 2 (Nat.le_refl _)) (by kernel_rfl) (by kernel_rfl) ?_
  have ks := Lib.hid (Kept.setCells [.int .i64 ((allocM l.s l.c ps).1 : Int), .int .i64 ((allocM l.s l.c ps).2.1 : Int)] 0 w3 (Kept.refl (fun x => x = w.heap.size + 1) w3))
  have R4 := Lib.hid ((R2.out.step B3.out).keep ks.out (by have := NB.out; omega))
  skip
  have K4 := Lib.hid (((K2.out.trans (Kept.of_below B3.out)).setNew (b := w.heap.size + 1) (by omega) 0 (.int .i64 ((allocM l.s l.c ps).1 : Int))).setNew (b := w.heap.size + 1) (by omega) 1 (.int .i64 ((allocM l.s l.c ps).2.1 : Int)))
  have nT := Lib.hid (show ¬ MS m S' (w.heap.size + 1) from fun hm => by
   rcases hm with e | hs | e
   ·have := LTW.out _ (.inl e); omega
   ·rcases HS.out _ hs with h | h
    ·have := LTW.out _ (.inr (.inl h)); omega
    ·omega
   ·have := LTW.out _ (.inr (.inr e)); omega)
  have M4 := Lib.hid (M3.out.keep ks.out (fun j hj e => nT.out (e ▸ hj)))
  have E4 := Lib.hid (E3.out.keepF ks.out T3.out (by decide))
  have r4 := Lib.hid (list_laid [.int .i64 ((allocM l.s l.c ps).1 : Int), .int .i64 ((allocM l.s l.c ps).2.1 : Int)] T3.out rfl)
  refine hK.out _ _ ⟨R4.out.c0, R4.out.c1⟩ ?_
  clear hK K
  try simp only [Act.put]
  refine anyH_one (i := 4) (o := ⟨some 5, _, _, _, _, _⟩) (by kernel_rfl) rfl (fun K hK => ?_)
  rw [if_pos (by rfl)]
  go_simp
  refine hK.out _ _ ⟨R4.out.c0, R4.out.c1⟩ ?_
  clear hK K
  try simp only [Act.put, sT, sZ, sS]
  refine wpAnyH_done (by kernel_rfl) ?_ _
  go_wp2
  refine bodyPost_ret (v := .tuple #[.agg ([.int .i64 ((allocM l.s l.c ps).1 : Int), .int .i64 ((allocM l.s l.c ps).2.1 : Int)] : List Value).toArray, v]) (results_cellT rfl _ _ (w.heap.size + 1) _ _ _ rfl rfl (blk_rng r4.out) Tryz.underlying48 rfl (by kernel_rfl)) rfl ?_
  refine ⟨S', v, rfl, E4.out, M4.out, K4.out, fun j hj => ?_⟩
  rcases hj with h | h | h
  ·exact .inl (.inl h)
  ·exact (HS.out j h).imp (fun h => .inr (.inl h)) (fun h => by omega)
  ·exact .inl (.inr (.inr h))
theorem nSwap_any (w : World) (m : MB) (S : Nat → Prop) (l : LimN) (k : Int) (ps : List Pt) (L : List Pg) (c : Ck) (x os og ns ng : Int) (h : MemAt w m S l k ps L c) :
  Calls Tryz.prog 83 #[.pointer (some ⟨m.mb, 0, none⟩), .int .i64 x, refV os og, refV ns ng] w fun ev w' => ∃ v, ev = .returned (.tuple #[.bool (swapB L x (os, og)), v]) ∧ ErrF w' v (codeT L x) ∧ (MemAt w' m S l (inc k) ps (swapL L x (os, og) (ns, ng)) c) ∧ Kept (MS m S) w w' := by
 obtain ⟨W0, hW0⟩ : ∃ W, W = (w.alloc (.cells #[.int .i64 os, .int .i64 og] 48)).alloc (.cells #[.int .i64 ns, .int .i64 ng] 48) := ⟨_, rfl⟩
 have b0 : Below w.heap.size w W0 := by rw [hW0]; exact (alloc_below0 _ _).trans ((alloc_below0 _ _).mono (alloc_below0 w _).size)
 have M0 := Lib.hid (h.low b0)
 have ho0 : W0.heap[w.heap.size]? = some (.cells #[.int .i64 os, .int .i64 og] 48) := by rw [hW0]; exact blk_step (blk_new w _) (alloc_below0 _ _)
 have hn0 : W0.heap[w.heap.size + 1]? = some (.cells #[.int .i64 ns, .int .i64 ng] 48) := by rw [hW0, show w.heap.size + 1 = (w.alloc (.cells #[.int .i64 os, .int .i64 og] 48)).heap.size by simp]; exact blk_new _ _
 have B0 := Lib.hid b0
 have LTW := Lib.hid (show ∀ j, MS m S j → j < w.heap.size from h.lt)
 have O0 := Lib.hid (RfB.mk ho0)
 have N0 := Lib.hid (RfB.mk hn0)
 clear h b0 ho0 hn0
 unfold refV
 go_enter Tryz.func83, Tryz.ntmps83
 go_wp2_with fail
 rw [← hW0]
 clear hW0
 refine (access_inc _ m S l k ps L c M0.out).mono ?_
 rintro ev w1 ⟨rfl, hM, hk⟩
 have M1 := Lib.hid hM
 have K1 := Lib.hid ((Kept.of_below B0.out).trans (hk.wide fun _ _ h => CM.ms (S := S) _ h))
 have O1 := Lib.hid (O0.out.keep hk (M0.out.offC O0.out.blk (by decide) (by decide)))
 have N1 := Lib.hid (N0.out.keep hk (M0.out.offC N0.out.blk (by decide) (by decide)))
 clear hM hk
 go_wp2_with fail
 have MD := Lib.hid (M1.out.low (Below.refl _ _).drew)
 have OD := Lib.hid (O1.out.step (Below.refl _ _).drew)
 have ND := Lib.hid (N1.out.step (Below.refl _ _).drew)
 have SD := Lib.hid (show (fun w' => w'.cell? ⟨m.mb, 8, none⟩ = some (.pointer (some ⟨m.ab, 0, none⟩)) ∧ w'.cell? ⟨w.heap.size, 0, none⟩ = some (.int .i64 os) ∧ w'.cell? ⟨w.heap.size, 1, none⟩ = some (.int .i64 og) ∧ w'.cell? ⟨w.heap.size + 1, 0, none⟩ = some (.int .i64 ns) ∧ w'.cell? ⟨w.heap.size + 1, 1, none⟩ = some (.int .i64 ng)) w1.drew from ⟨MD.out.cT, OD.out.c0, OD.out.c1, ND.out.c0, ND.out.c1⟩)
 have fc := fun w' h => swap_any w' m.ab m.pb l.p L x os og ns ng h
 unfold refV at fc
 refine anyH_region (fun w' => w'.cell? ⟨m.mb, 8, none⟩ = some (.pointer (some ⟨m.ab, 0, none⟩)) ∧ w'.cell? ⟨w.heap.size, 0, none⟩ = some (.int .i64 os) ∧ w'.cell? ⟨w.heap.size, 1, none⟩ = some (.int .i64 og) ∧ w'.cell? ⟨w.heap.size + 1, 0, none⟩ = some (.int .i64 ns) ∧ w'.cell? ⟨w.heap.size + 1, 1, none⟩ = some (.int .i64 ng)) (by kernel_rfl) ?_
 refine tkH (i := 0) (oi := ⟨some 20, _, _, _, _, _⟩) (v := ?va0) rfl (Or.inl ⟨by rfl, ?hya0⟩) SD.out ?resta0
 case hya0 => (intro w hSw; go_simp; try (with_reducible rfl))
 simp only [Act.put, sT, sZ, sS]
 refine tkH (i := 1) (oi := ⟨some 21, _, _, _, _, _⟩) (v := ?va1) rfl (Or.inl ⟨by rfl, ?hya1⟩) SD.out ?resta1
 case hya1 => (intro w hSw; go_simp; try (with_reducible rfl))
 simp only [Act.put, sT, sZ, sS]
 refine tkH (i := 2) (oi := ⟨some 22, _, _, _, _, _⟩) (v := ?va2) rfl (Or.inl ⟨by rfl, ?hya2⟩) SD.out ?resta2
 case hya2 => (intro w hSw; go_simp; try (with_reducible rfl))
 simp only [Act.put, sT, sZ, sS]
 refine tkH (i := 3) (oi := ⟨some 23, _, _, _, _, _⟩) (v := ?va3) rfl (Or.inl ⟨by rfl, ?hya3⟩) SD.out ?resta3
 case hya3 => (intro w hSw; go_simp; try (with_reducible rfl))
 simp only [Act.put, sT, sZ, sS]
 refine tkH (i := 4) (oi := ⟨some 24, _, _, _, _, _⟩) (v := ?va4) rfl (Or.inl ⟨by rfl, ?hya4⟩) SD.out ?resta4
 case hya4 => (intro w hSw; go_simp; try (with_reducible rfl))
 simp only [Act.put, sT, sZ, sS]
 refine tkH (i := 5) (oi := ⟨some 25, _, _, _, _, _⟩) (v := ?va5) rfl (Or.inl ⟨by rfl, ?hya5⟩) SD.out ?resta5
 case hya5 => (intro w hSw; go_simp; try (with_reducible rfl))
 simp only [Act.put, sT, sZ, sS]
 refine tkH (i := 6) (oi := ⟨some 26, _, _, _, _, _⟩) (v := ?va6) rfl (Or.inl ⟨by rfl, ?hya6⟩) SD.out ?resta6
 case hya6 => (intro w hSw; go_simp; try (with_reducible rfl))
 simp only [Act.put, sT, sZ, sS]
 refine anyH_one (i := 7) (o := ⟨some 27, _, _, _, _, _⟩) (by kernel_rfl) rfl (fun K hK => ?_)
 rw [if_pos (by rfl)]
 go_simp
 refine (fc _ MD.out.tb).mono ?_
 rintro e2 w2 ⟨rfl, hT, hk⟩
 have M2 := Lib.hid (MD.out.table hT hk)
 have K2 := Lib.hid (K1.out.drew.trans (MS.tb (S := S) hk))
 have nP := LTW.out m.pb (.inr (.inr (.inr (.inl rfl))))
 have O2 := Lib.hid (OD.out.keep hk (by omega))
 have N2 := Lib.hid (ND.out.keep hk (by omega))
 have S2 := Lib.hid (show (fun w' => w'.cell? ⟨m.mb, 8, none⟩ = some (.pointer (some ⟨m.ab, 0, none⟩)) ∧ w'.cell? ⟨w.heap.size, 0, none⟩ = some (.int .i64 os) ∧ w'.cell? ⟨w.heap.size, 1, none⟩ = some (.int .i64 og) ∧ w'.cell? ⟨w.heap.size + 1, 0, none⟩ = some (.int .i64 ns) ∧ w'.cell? ⟨w.heap.size + 1, 1, none⟩ = some (.int .i64 ng)) w2 from ⟨M2.out.cT, O2.out.c0, O2.out.c1, N2.out.c0, N2.out.c1⟩)
 clear hT hk nP
 refine hK.out _ _ S2.out ?_
 clear hK K
 try simp only [Act.put, sT, sZ, sS]
 refine tkH (i := 8) (oi := ⟨some 19, _, _, _, _, _⟩) (v := ?vb8) rfl (Or.inl ⟨by rfl, ?hyb8⟩) S2.out ?restb8
 case hyb8 => (intro w hSw; go_simp; try (with_reducible rfl))
 simp only [Act.put, sT, sZ, sS]
 refine tkH (i := 9) (oi := ⟨some 28, _, _, _, _, _⟩) (v := ?vb9) rfl (Or.inl ⟨by rfl, ?hyb9⟩) S2.out ?restb9
 case hyb9 => (intro w hSw; go_simp; try (with_reducible rfl))
 simp only [Act.put, sT, sZ, sS]
 refine tkH (i := 10) (oi := ⟨some 29, _, _, _, _, _⟩) (v := ?vb10) rfl (Or.inl ⟨by rfl, ?hyb10⟩) S2.out ?restb10
 case hyb10 => (intro w hSw; go_simp; try (with_reducible rfl))
 simp only [Act.put, sT, sZ, sS]
 refine anyH_one (i := 11) (o := ⟨some 10, _, _, _, _, _⟩) (by kernel_rfl) rfl (fun K hK => ?_)
 rw [if_pos (by rfl)]
 go_simp
 refine hK.out _ _ S2.out ?_
 clear hK K
 try simp only [Act.put, sT, sZ, sS]
 refine anyH_one (i := 12) (o := ⟨some 11, _, _, _, _, _⟩) (by kernel_rfl) rfl (fun K hK => ?_)
 rw [if_pos (by rfl)]
 go_simp
 refine hK.out _ _ S2.out ?_
 clear hK K
 try simp only [Act.put, sT, sZ, sS]
 refine wpAnyH_done (by kernel_rfl) ?_ _
 have fa := fun w => fAt_any ⟨#[116, 97, 98, 108, 101]⟩ x (codeT L x) w
 go_wp2_with fail
 refine (fa _).mono ?_
 rintro ev w3 ⟨v, rfl, he, hs⟩
 have M3 := Lib.hid (M2.out.low hs)
 have K3 := Lib.hid (K2.out.trans (Kept.of_below hs))
 have E3 := Lib.hid he
 clear hs he fa
 go_wp2
 go_ret2
 exact ⟨v, rfl, E3.out, M3.out, K3.out⟩
open Go.RowKit
structure Ins where
 page : Int
 os : Int
 og : Int
 news : Nat
 fn : Value
 st : Nat
 pg : Nat → Int
 rc : Nat → Nat → Value
 rf : Nat → Rf
 tk : Nat
 pt : Nat
 sw : Nat
 dn : Bool
 er : Value
def Ins.list (i : Ins) : List Value := [.int .i64 i.page, .int .i64 i.os, .int .i64 i.og, .int .i64 (i.news : Int), i.fn, .int .i64 (i.st : Int), .int .i64 (i.pg 0), .int .i64 (i.pg 1), .int .i64 (i.pg 2), .int .i64 (i.pg 3), i.rc 0 0, i.rc 0 1, i.rc 0 2, i.rc 0 3, i.rc 0 4, i.rc 0 5, i.rc 0 6, i.rc 0 7, i.rc 0 8, i.rc 0 9, i.rc 0 10, i.rc 0 11, i.rc 0 12, i.rc 0 13, i.rc 0 14, i.rc 1 0, i.rc 1 1, i.rc 1 2, i.rc 1 3, i.rc 1 4, i.rc 1 5, i.rc 1 6, i.rc 1 7, i.rc 1 8, i.rc 1 9, i.rc 1 10, i.rc 1 11, i.rc 1 12, i.rc 1 13, i.rc 1 14, i.rc 2 0, i.rc 2 1, i.rc 2 2, i.rc 2 3, i.rc 2 4, i.rc 2 5, i.rc 2 6, i.rc 2 7, i.rc 2 8, i.rc 2 9, i.rc 2 10, i.rc 2 11, i.rc 2 12, i.rc 2 13, i.rc 2 14, i.rc 3 0, i.rc 3 1, i.rc 3 2, i.rc 3 3, i.rc 3 4, i.rc 3 5, i.rc 3 6, i.rc 3 7, i.rc 3 8, i.rc 3 9, i.rc 3 10, i.rc 3 11, i.rc 3 12, i.rc 3 13, i.rc 3 14, i.rc 4 0, i.rc 4 1, i.rc 4 2, i.rc 4 3, i.rc 4 4, i.rc 4 5, i.rc 4 6, i.rc 4 7, i.rc 4 8, i.rc 4 9, i.rc 4 10, i.rc 4 11, i.rc 4 12, i.rc 4 13, i.rc 4 14, .int .i64 (i.rf 0).1, .int .i64 (i.rf 0).2, .int .i64 (i.rf 1).1, .int .i64 (i.rf 1).2, .int .i64 (i.rf 2).1, .int .i64 (i.rf 2).2, .int .i64 (i.rf 3).1, .int .i64 (i.rf 3).2, .int .i64 (i.rf 4).1, .int .i64 (i.rf 4).2, .int .i64 (i.tk : Int), .int .i64 (i.pt : Int), .int .i64 (i.sw : Int), .bool i.dn, i.er]
def Ins.cells (i : Ins) : Array Value := i.list.toArray
structure InsAt (w : World) (b : Nat) (i : Ins) : Prop where
 blk : w.heap[b]? = some (.cells i.cells 112 (0, 0))
theorem InsAt.lt {w : World} {b : Nat} {i : Ins} (h : InsAt w b i) : b < w.heap.size := (Array.getElem?_eq_some_iff.1 h.blk).1
theorem InsAt.step {w w' : World} {b : Nat} {i : Ins} (h : InsAt w b i) (hs : Below w.heap.size w w') : InsAt w' b i := ⟨blk_step h.blk hs⟩
theorem InsAt.keep {w w' : World} {b : Nat} {i : Ins} (h : InsAt w b i) {S : Nat → Prop} (hk : Kept S w w') (hn : ¬ S b) : InsAt w' b i := ⟨(hk.block b h.lt hn).trans h.blk⟩
theorem InsAt.free {w : World} {b : Nat} {i : Ins} (h : InsAt w b i) (o : Nat) : w.frozen? ⟨b, o, none⟩ = false := blk_free h.blk o
theorem InsAt.cPage {w : World} {b : Nat} {i : Ins} (h : InsAt w b i) : w.cell? ⟨b, 0, none⟩ = some (.int .i64 i.page) := blk_cell h.blk 0
theorem InsAt.cOs {w : World} {b : Nat} {i : Ins} (h : InsAt w b i) : w.cell? ⟨b, 1, none⟩ = some (.int .i64 i.os) := blk_cell h.blk 1
theorem InsAt.cOg {w : World} {b : Nat} {i : Ins} (h : InsAt w b i) : w.cell? ⟨b, 2, none⟩ = some (.int .i64 i.og) := blk_cell h.blk 2
theorem InsAt.cNews {w : World} {b : Nat} {i : Ins} (h : InsAt w b i) : w.cell? ⟨b, 3, none⟩ = some (.int .i64 (i.news : Int)) := blk_cell h.blk 3
theorem InsAt.cFn {w : World} {b : Nat} {i : Ins} (h : InsAt w b i) : w.cell? ⟨b, 4, none⟩ = some (i.fn) := blk_cell h.blk 4
theorem InsAt.cSt {w : World} {b : Nat} {i : Ins} (h : InsAt w b i) : w.cell? ⟨b, 5, none⟩ = some (.int .i64 (i.st : Int)) := blk_cell h.blk 5
theorem InsAt.cTk {w : World} {b : Nat} {i : Ins} (h : InsAt w b i) : w.cell? ⟨b, 95, none⟩ = some (.int .i64 (i.tk : Int)) := blk_cell h.blk 95
theorem InsAt.cPt {w : World} {b : Nat} {i : Ins} (h : InsAt w b i) : w.cell? ⟨b, 96, none⟩ = some (.int .i64 (i.pt : Int)) := blk_cell h.blk 96
theorem InsAt.cSw {w : World} {b : Nat} {i : Ins} (h : InsAt w b i) : w.cell? ⟨b, 97, none⟩ = some (.int .i64 (i.sw : Int)) := blk_cell h.blk 97
theorem InsAt.cDn {w : World} {b : Nat} {i : Ins} (h : InsAt w b i) : w.cell? ⟨b, 98, none⟩ = some (.bool i.dn) := blk_cell h.blk 98
theorem InsAt.cEr {w : World} {b : Nat} {i : Ins} (h : InsAt w b i) : w.cell? ⟨b, 99, none⟩ = some (i.er) := blk_cell h.blk 99
theorem InsAt.cPg {w : World} {b : Nat} {i : Ins} (h : InsAt w b i) : ∀ {k : Nat}, k < 4 → w.cell? ⟨b, 6 + k, none⟩ = some (.int .i64 (i.pg k))
 | 0, _ => blk_cell h.blk 6 | 1, _ => blk_cell h.blk 7 | 2, _ => blk_cell h.blk 8 | 3, _ => blk_cell h.blk 9 | _ + 4, hk => absurd hk (by omega)
theorem InsAt.cRf1 {w : World} {b : Nat} {i : Ins} (h : InsAt w b i) : ∀ {k : Nat}, k < 5 → w.cell? ⟨b, 85 + k * 2, none⟩ = some (.int .i64 (i.rf k).1)
 | 0, _ => blk_cell h.blk 85 | 1, _ => blk_cell h.blk 87 | 2, _ => blk_cell h.blk 89 | 3, _ => blk_cell h.blk 91 | 4, _ => blk_cell h.blk 93 | _ + 5, hk => absurd hk (by omega)
theorem InsAt.cRf2 {w : World} {b : Nat} {i : Ins} (h : InsAt w b i) : ∀ {k : Nat}, k < 5 → w.cell? ⟨b, 85 + k * 2 + 1, none⟩ = some (.int .i64 (i.rf k).2)
 | 0, _ => blk_cell h.blk 86 | 1, _ => blk_cell h.blk 88 | 2, _ => blk_cell h.blk 90 | 3, _ => blk_cell h.blk 92 | 4, _ => blk_cell h.blk 94 | _ + 5, hk => absurd hk (by omega)
def Ins.rcL (i : Ins) (k : Nat) : List Value := [i.rc k 0, i.rc k 1, i.rc k 2, i.rc k 3, i.rc k 4, i.rc k 5, i.rc k 6, i.rc k 7, i.rc k 8, i.rc k 9, i.rc k 10, i.rc k 11, i.rc k 12, i.rc k 13, i.rc k 14]
theorem InsAt.rRec {w : World} {b : Nat} {i : Ins} (h : InsAt w b i) {k : Nat} (hk : k < 5) : w.rangeAt b (10 + k * 15) (i.rcL k) := fun j u hj => by
 rw [blk_cell h.blk]
 have hl : j < 15 := (List.getElem?_eq_some_iff.1 hj).1
 have hr : k = 0 ∨ k = 1 ∨ k = 2 ∨ k = 3 ∨ k = 4 := by omega
 rcases hr with rfl | rfl | rfl | rfl | rfl <;> (match j, hl, hj with
  | 0, _, hj => exact hj
  | 1, _, hj => exact hj
  | 2, _, hj => exact hj
  | 3, _, hj => exact hj
  | 4, _, hj => exact hj
  | 5, _, hj => exact hj
  | 6, _, hj => exact hj
  | 7, _, hj => exact hj
  | 8, _, hj => exact hj
  | 9, _, hj => exact hj
  | 10, _, hj => exact hj
  | 11, _, hj => exact hj
  | 12, _, hj => exact hj
  | 13, _, hj => exact hj
  | 14, _, hj => exact hj)
def upd {α : Type} (f : Nat → α) (k : Nat) (x : α) : Nat → α := fun j => if j = k then x else f j
theorem upd_at {α : Type} (f : Nat → α) (k : Nat) (x : α) : upd f k x k = x := if_pos rfl
theorem upd_ne {α : Type} (f : Nat → α) {k j : Nat} (x : α) (h : j ≠ k) : upd f k x j = f j := if_neg h
theorem InsAt.sFn {w : World} {b : Nat} {i : Ins} (h : InsAt w b i) (x : Value) : InsAt (w.setCell ⟨b, 4, none⟩ (x)) b { i with fn := x } := ⟨blk_set h.blk 4 _⟩
theorem InsAt.sSt {w : World} {b : Nat} {i : Ins} (h : InsAt w b i) (x : Nat) : InsAt (w.setCell ⟨b, 5, none⟩ (.int .i64 (x : Int))) b { i with st := x } := ⟨blk_set h.blk 5 _⟩
theorem InsAt.sTk {w : World} {b : Nat} {i : Ins} (h : InsAt w b i) (x : Nat) : InsAt (w.setCell ⟨b, 95, none⟩ (.int .i64 (x : Int))) b { i with tk := x } := ⟨blk_set h.blk 95 _⟩
theorem InsAt.sPt {w : World} {b : Nat} {i : Ins} (h : InsAt w b i) (x : Nat) : InsAt (w.setCell ⟨b, 96, none⟩ (.int .i64 (x : Int))) b { i with pt := x } := ⟨blk_set h.blk 96 _⟩
theorem InsAt.sSw {w : World} {b : Nat} {i : Ins} (h : InsAt w b i) (x : Nat) : InsAt (w.setCell ⟨b, 97, none⟩ (.int .i64 (x : Int))) b { i with sw := x } := ⟨blk_set h.blk 97 _⟩
theorem InsAt.sPg {w : World} {b : Nat} {i : Ins} (h : InsAt w b i) (x : Int) : ∀ {k : Nat}, k < 4 → InsAt (w.setCell ⟨b, 6 + k, none⟩ (.int .i64 x)) b { i with pg := upd i.pg k x }
 | 0, _ => ⟨blk_set h.blk 6 _⟩ | 1, _ => ⟨blk_set h.blk 7 _⟩ | 2, _ => ⟨blk_set h.blk 8 _⟩ | 3, _ => ⟨blk_set h.blk 9 _⟩ | _ + 4, hk => absurd hk (by omega)
theorem blk_set_two {w : World} {b : Nat} {cs : Array Value} {T : TypeId} (h : w.heap[b]? = some (.cells cs T (0, 0))) (o : Nat) (x y : Value) : ((w.setCell ⟨b, o, none⟩ x).setCell ⟨b, o + 1, none⟩ y).heap[b]? = some (.cells ((cs.setIfInBounds o x).setIfInBounds (o + 1) y) T (0, 0)) := blk_set (blk_set h o x) (o + 1) y
theorem InsAt.sRf {w : World} {b : Nat} {i : Ins} (h : InsAt w b i) (x y : Int) : ∀ {k : Nat}, k < 5 → InsAt ((w.setCell ⟨b, 85 + k * 2, none⟩ (.int .i64 x)).setCell ⟨b, 85 + k * 2 + 1, none⟩ (.int .i64 y)) b { i with rf := upd i.rf k (x, y) }
 | 0, _ => ⟨blk_set_two h.blk 85 _ _⟩ | 1, _ => ⟨blk_set_two h.blk 87 _ _⟩ | 2, _ => ⟨blk_set_two h.blk 89 _ _⟩ | 3, _ => ⟨blk_set_two h.blk 91 _ _⟩ | 4, _ => ⟨blk_set_two h.blk 93 _ _⟩ | _ + 5, hk => absurd hk (by omega)
theorem blk_set15 {w : World} {b : Nat} {cs : Array Value} {T : TypeId} (h : w.heap[b]? = some (.cells cs T (0, 0))) (o : Nat) (v : Nat → Value) : (w.setCells b o [v 0, v 1, v 2, v 3, v 4, v 5, v 6, v 7, v 8, v 9, v 10, v 11, v 12, v 13, v 14]).heap[b]? = some (.cells ((((((((((((((((cs).setIfInBounds (o) (v 0)).setIfInBounds (o + 1) (v 1)).setIfInBounds (o + 1 + 1) (v 2)).setIfInBounds (o + 1 + 1 + 1) (v 3)).setIfInBounds (o + 1 + 1 + 1 + 1) (v 4)).setIfInBounds (o + 1 + 1 + 1 + 1 + 1) (v 5)).setIfInBounds (o + 1 + 1 + 1 + 1 + 1 + 1) (v 6)).setIfInBounds (o + 1 + 1 + 1 + 1 + 1 + 1 + 1) (v 7)).setIfInBounds (o + 1 + 1 + 1 + 1 + 1 + 1 + 1 + 1) (v 8)).setIfInBounds (o + 1 + 1 + 1 + 1 + 1 + 1 + 1 + 1 + 1) (v 9)).setIfInBounds (o + 1 + 1 + 1 + 1 + 1 + 1 + 1 + 1 + 1 + 1) (v 10)).setIfInBounds (o + 1 + 1 + 1 + 1 + 1 + 1 + 1 + 1 + 1 + 1 + 1) (v 11)).setIfInBounds (o + 1 + 1 + 1 + 1 + 1 + 1 + 1 + 1 + 1 + 1 + 1 + 1) (v 12)).setIfInBounds (o + 1 + 1 + 1 + 1 + 1 + 1 + 1 + 1 + 1 + 1 + 1 + 1 + 1) (v 13)).setIfInBounds (o + 1 + 1 + 1 + 1 + 1 + 1 + 1 + 1 + 1 + 1 + 1 + 1 + 1 + 1) (v 14)) T (0, 0)) :=
 (blk_set (blk_set (blk_set (blk_set (blk_set (blk_set (blk_set (blk_set (blk_set (blk_set (blk_set (blk_set (blk_set (blk_set (blk_set h (o) (v 0)) (o + 1) (v 1)) (o + 1 + 1) (v 2)) (o + 1 + 1 + 1) (v 3)) (o + 1 + 1 + 1 + 1) (v 4)) (o + 1 + 1 + 1 + 1 + 1) (v 5)) (o + 1 + 1 + 1 + 1 + 1 + 1) (v 6)) (o + 1 + 1 + 1 + 1 + 1 + 1 + 1) (v 7)) (o + 1 + 1 + 1 + 1 + 1 + 1 + 1 + 1) (v 8)) (o + 1 + 1 + 1 + 1 + 1 + 1 + 1 + 1 + 1) (v 9)) (o + 1 + 1 + 1 + 1 + 1 + 1 + 1 + 1 + 1 + 1) (v 10)) (o + 1 + 1 + 1 + 1 + 1 + 1 + 1 + 1 + 1 + 1 + 1) (v 11)) (o + 1 + 1 + 1 + 1 + 1 + 1 + 1 + 1 + 1 + 1 + 1 + 1) (v 12)) (o + 1 + 1 + 1 + 1 + 1 + 1 + 1 + 1 + 1 + 1 + 1 + 1 + 1) (v 13)) (o + 1 + 1 + 1 + 1 + 1 + 1 + 1 + 1 + 1 + 1 + 1 + 1 + 1 + 1) (v 14))
set_option maxRecDepth 100000
set_option maxHeartbeats 1000000
theorem Ins.set0 (i : Ins) (v : Nat → Value) : (((((((((((((((i.cells).setIfInBounds (10) (v 0)).setIfInBounds (10 + 1) (v 1)).setIfInBounds (10 + 1 + 1) (v 2)).setIfInBounds (10 + 1 + 1 + 1) (v 3)).setIfInBounds (10 + 1 + 1 + 1 + 1) (v 4)).setIfInBounds (10 + 1 + 1 + 1 + 1 + 1) (v 5)).setIfInBounds (10 + 1 + 1 + 1 + 1 + 1 + 1) (v 6)).setIfInBounds (10 + 1 + 1 + 1 + 1 + 1 + 1 + 1) (v 7)).setIfInBounds (10 + 1 + 1 + 1 + 1 + 1 + 1 + 1 + 1) (v 8)).setIfInBounds (10 + 1 + 1 + 1 + 1 + 1 + 1 + 1 + 1 + 1) (v 9)).setIfInBounds (10 + 1 + 1 + 1 + 1 + 1 + 1 + 1 + 1 + 1 + 1) (v 10)).setIfInBounds (10 + 1 + 1 + 1 + 1 + 1 + 1 + 1 + 1 + 1 + 1 + 1) (v 11)).setIfInBounds (10 + 1 + 1 + 1 + 1 + 1 + 1 + 1 + 1 + 1 + 1 + 1 + 1) (v 12)).setIfInBounds (10 + 1 + 1 + 1 + 1 + 1 + 1 + 1 + 1 + 1 + 1 + 1 + 1 + 1) (v 13)).setIfInBounds (10 + 1 + 1 + 1 + 1 + 1 + 1 + 1 + 1 + 1 + 1 + 1 + 1 + 1 + 1) (v 14) = ({ i with rc := upd i.rc 0 v } : Ins).cells := by
 simp only [Ins.cells, Ins.list, List.setIfInBounds_toArray, List.set_cons_succ, List.set_cons_zero, Nat.reduceAdd]
 rfl
theorem Ins.set1 (i : Ins) (v : Nat → Value) : (((((((((((((((i.cells).setIfInBounds (25) (v 0)).setIfInBounds (25 + 1) (v 1)).setIfInBounds (25 + 1 + 1) (v 2)).setIfInBounds (25 + 1 + 1 + 1) (v 3)).setIfInBounds (25 + 1 + 1 + 1 + 1) (v 4)).setIfInBounds (25 + 1 + 1 + 1 + 1 + 1) (v 5)).setIfInBounds (25 + 1 + 1 + 1 + 1 + 1 + 1) (v 6)).setIfInBounds (25 + 1 + 1 + 1 + 1 + 1 + 1 + 1) (v 7)).setIfInBounds (25 + 1 + 1 + 1 + 1 + 1 + 1 + 1 + 1) (v 8)).setIfInBounds (25 + 1 + 1 + 1 + 1 + 1 + 1 + 1 + 1 + 1) (v 9)).setIfInBounds (25 + 1 + 1 + 1 + 1 + 1 + 1 + 1 + 1 + 1 + 1) (v 10)).setIfInBounds (25 + 1 + 1 + 1 + 1 + 1 + 1 + 1 + 1 + 1 + 1 + 1) (v 11)).setIfInBounds (25 + 1 + 1 + 1 + 1 + 1 + 1 + 1 + 1 + 1 + 1 + 1 + 1) (v 12)).setIfInBounds (25 + 1 + 1 + 1 + 1 + 1 + 1 + 1 + 1 + 1 + 1 + 1 + 1 + 1) (v 13)).setIfInBounds (25 + 1 + 1 + 1 + 1 + 1 + 1 + 1 + 1 + 1 + 1 + 1 + 1 + 1 + 1) (v 14) = ({ i with rc := upd i.rc 1 v } : Ins).cells := by
 simp only [Ins.cells, Ins.list, List.setIfInBounds_toArray, List.set_cons_succ, List.set_cons_zero, Nat.reduceAdd]
 rfl
theorem Ins.set2 (i : Ins) (v : Nat → Value) : (((((((((((((((i.cells).setIfInBounds (40) (v 0)).setIfInBounds (40 + 1) (v 1)).setIfInBounds (40 + 1 + 1) (v 2)).setIfInBounds (40 + 1 + 1 + 1) (v 3)).setIfInBounds (40 + 1 + 1 + 1 + 1) (v 4)).setIfInBounds (40 + 1 + 1 + 1 + 1 + 1) (v 5)).setIfInBounds (40 + 1 + 1 + 1 + 1 + 1 + 1) (v 6)).setIfInBounds (40 + 1 + 1 + 1 + 1 + 1 + 1 + 1) (v 7)).setIfInBounds (40 + 1 + 1 + 1 + 1 + 1 + 1 + 1 + 1) (v 8)).setIfInBounds (40 + 1 + 1 + 1 + 1 + 1 + 1 + 1 + 1 + 1) (v 9)).setIfInBounds (40 + 1 + 1 + 1 + 1 + 1 + 1 + 1 + 1 + 1 + 1) (v 10)).setIfInBounds (40 + 1 + 1 + 1 + 1 + 1 + 1 + 1 + 1 + 1 + 1 + 1) (v 11)).setIfInBounds (40 + 1 + 1 + 1 + 1 + 1 + 1 + 1 + 1 + 1 + 1 + 1 + 1) (v 12)).setIfInBounds (40 + 1 + 1 + 1 + 1 + 1 + 1 + 1 + 1 + 1 + 1 + 1 + 1 + 1) (v 13)).setIfInBounds (40 + 1 + 1 + 1 + 1 + 1 + 1 + 1 + 1 + 1 + 1 + 1 + 1 + 1 + 1) (v 14) = ({ i with rc := upd i.rc 2 v } : Ins).cells := by
 simp only [Ins.cells, Ins.list, List.setIfInBounds_toArray, List.set_cons_succ, List.set_cons_zero, Nat.reduceAdd]
 rfl
theorem Ins.set3 (i : Ins) (v : Nat → Value) : (((((((((((((((i.cells).setIfInBounds (55) (v 0)).setIfInBounds (55 + 1) (v 1)).setIfInBounds (55 + 1 + 1) (v 2)).setIfInBounds (55 + 1 + 1 + 1) (v 3)).setIfInBounds (55 + 1 + 1 + 1 + 1) (v 4)).setIfInBounds (55 + 1 + 1 + 1 + 1 + 1) (v 5)).setIfInBounds (55 + 1 + 1 + 1 + 1 + 1 + 1) (v 6)).setIfInBounds (55 + 1 + 1 + 1 + 1 + 1 + 1 + 1) (v 7)).setIfInBounds (55 + 1 + 1 + 1 + 1 + 1 + 1 + 1 + 1) (v 8)).setIfInBounds (55 + 1 + 1 + 1 + 1 + 1 + 1 + 1 + 1 + 1) (v 9)).setIfInBounds (55 + 1 + 1 + 1 + 1 + 1 + 1 + 1 + 1 + 1 + 1) (v 10)).setIfInBounds (55 + 1 + 1 + 1 + 1 + 1 + 1 + 1 + 1 + 1 + 1 + 1) (v 11)).setIfInBounds (55 + 1 + 1 + 1 + 1 + 1 + 1 + 1 + 1 + 1 + 1 + 1 + 1) (v 12)).setIfInBounds (55 + 1 + 1 + 1 + 1 + 1 + 1 + 1 + 1 + 1 + 1 + 1 + 1 + 1) (v 13)).setIfInBounds (55 + 1 + 1 + 1 + 1 + 1 + 1 + 1 + 1 + 1 + 1 + 1 + 1 + 1 + 1) (v 14) = ({ i with rc := upd i.rc 3 v } : Ins).cells := by
 simp only [Ins.cells, Ins.list, List.setIfInBounds_toArray, List.set_cons_succ, List.set_cons_zero, Nat.reduceAdd]
 rfl
theorem Ins.set4 (i : Ins) (v : Nat → Value) : (((((((((((((((i.cells).setIfInBounds (70) (v 0)).setIfInBounds (70 + 1) (v 1)).setIfInBounds (70 + 1 + 1) (v 2)).setIfInBounds (70 + 1 + 1 + 1) (v 3)).setIfInBounds (70 + 1 + 1 + 1 + 1) (v 4)).setIfInBounds (70 + 1 + 1 + 1 + 1 + 1) (v 5)).setIfInBounds (70 + 1 + 1 + 1 + 1 + 1 + 1) (v 6)).setIfInBounds (70 + 1 + 1 + 1 + 1 + 1 + 1 + 1) (v 7)).setIfInBounds (70 + 1 + 1 + 1 + 1 + 1 + 1 + 1 + 1) (v 8)).setIfInBounds (70 + 1 + 1 + 1 + 1 + 1 + 1 + 1 + 1 + 1) (v 9)).setIfInBounds (70 + 1 + 1 + 1 + 1 + 1 + 1 + 1 + 1 + 1 + 1) (v 10)).setIfInBounds (70 + 1 + 1 + 1 + 1 + 1 + 1 + 1 + 1 + 1 + 1 + 1) (v 11)).setIfInBounds (70 + 1 + 1 + 1 + 1 + 1 + 1 + 1 + 1 + 1 + 1 + 1 + 1) (v 12)).setIfInBounds (70 + 1 + 1 + 1 + 1 + 1 + 1 + 1 + 1 + 1 + 1 + 1 + 1 + 1) (v 13)).setIfInBounds (70 + 1 + 1 + 1 + 1 + 1 + 1 + 1 + 1 + 1 + 1 + 1 + 1 + 1 + 1) (v 14) = ({ i with rc := upd i.rc 4 v } : Ins).cells := by
 simp only [Ins.cells, Ins.list, List.setIfInBounds_toArray, List.set_cons_succ, List.set_cons_zero, Nat.reduceAdd]
 rfl
theorem InsAt.sRec {w : World} {b : Nat} {i : Ins} (h : InsAt w b i) (v : Nat → Value) : ∀ {k : Nat}, k < 5 → InsAt (w.setCells b (10 + k * 15) [v 0, v 1, v 2, v 3, v 4, v 5, v 6, v 7, v 8, v 9, v 10, v 11, v 12, v 13, v 14]) b { i with rc := upd i.rc k v }
 | 0, _ => ⟨(blk_set15 h.blk 10 v).trans (congrArg (fun c => some (Obj.cells c 112 (0, 0))) (Ins.set0 i v))⟩
 | 1, _ => ⟨(blk_set15 h.blk 25 v).trans (congrArg (fun c => some (Obj.cells c 112 (0, 0))) (Ins.set1 i v))⟩
 | 2, _ => ⟨(blk_set15 h.blk 40 v).trans (congrArg (fun c => some (Obj.cells c 112 (0, 0))) (Ins.set2 i v))⟩
 | 3, _ => ⟨(blk_set15 h.blk 55 v).trans (congrArg (fun c => some (Obj.cells c 112 (0, 0))) (Ins.set3 i v))⟩
 | 4, _ => ⟨(blk_set15 h.blk 70 v).trans (congrArg (fun c => some (Obj.cells c 112 (0, 0))) (Ins.set4 i v))⟩
 | _ + 5, hk => absurd hk (by omega)
open Go.RowKit
theorem nOver_any (w : World) (b : Nat) (i : Ins) (h : InsAt w b i) : Calls Tryz.prog 15 #[.pointer (some ⟨b, 0, none⟩)] w fun ev w' => ev = .returned (.bool ((i.st : Int) == 0)) ∧ w = w' := by
 have x := h.cSt
 clear h
 go_enter Tryz.func15, Tryz.ntmps15
 go_wp2
 go_ret
 exact ⟨rfl, rfl⟩
theorem funcNe (f : Fn) (a c : Array Value) (w : World) : (binOp .neq 60 (.func f a c) .nilFunc).run Tryz.prog w = .ok (.bool true) w := by
 have h : ∀ d : Nat, (Op.equalIn (d + 1) 60 (.func f a c) .nilFunc).run Tryz.prog w = .ok false w := fun d => by
  rw [Op.equalIn]
  simp [run_underlying Tryz.underlying60]
 simp only [binOp]
 simp [Op.equal, Op.maxDepth, h 9999]
theorem funcNil (w : World) : (binOp .neq 60 .nilFunc .nilFunc).run Tryz.prog w = .ok (.bool false) w := by kernel_rfl
def Ins.hasF (i : Ins) : Bool := match i.fn with | .nilFunc => false | _ => true
def FnOk (v : Value) : Prop := v = .nilFunc ∨ ∃ f a c, v = .func f a c
def Ins.busyB (i : Ins) : Bool :=
 match i.st with
 | 1 => decide (i.tk < i.news)
 | 2 => i.hasF
 | 3 => decide (i.pt < i.news)
 | 4 => decide (i.sw < i.news)
 | 5 => decide (i.pt ≤ i.news)
 | 7 => decide (0 < i.pt)
 | 8 => decide (0 < i.tk)
 | _ => true
theorem busy_0 (w : World) (b : Nat) (i : Ins) (h : InsAt w b i) (hs : i.st = 0) : Calls Tryz.prog 75 #[.pointer (some ⟨b, 0, none⟩)] w fun ev w' => ev = .returned (.bool true) ∧ Below w.heap.size w w' := by
 have x5 := h.cSt
 rw [hs] at x5
 clear h hs
 go_enter Tryz.func75, Tryz.ntmps75
 go_wp2
 go_ret
 exact ⟨rfl, Below.refl _ _⟩
theorem busy_1 (w : World) (b : Nat) (i : Ins) (h : InsAt w b i) (hs : i.st = 1) : Calls Tryz.prog 75 #[.pointer (some ⟨b, 0, none⟩)] w fun ev w' => ev = .returned (.bool (decide (i.tk < i.news))) ∧ Below w.heap.size w w' := by
 have x5 := h.cSt
 rw [hs] at x5
 have y0 := h.cTk
 have y1 := h.cNews
 clear h hs
 go_enter Tryz.func75, Tryz.ntmps75
 go_wp2
 go_quiet (fail)
 go_wp2
 go_ret
 exact ⟨rfl, below_drewN (Below.refl _ _) _⟩
theorem busy_2n (w : World) (b : Nat) (i : Ins) (h : InsAt w b i) (hs : i.st = 2) (hf : i.fn = .nilFunc) : Calls Tryz.prog 75 #[.pointer (some ⟨b, 0, none⟩)] w fun ev w' => ev = .returned (.bool false) ∧ Below w.heap.size w w' := by
 have x5 := h.cSt
 rw [hs] at x5
 have y0 := h.cFn
 rw [hf] at y0
 have q := funcNil
 clear h hs
 go_enter Tryz.func75, Tryz.ntmps75
 go_wp2
 go_ret
 exact ⟨rfl, Below.refl _ _⟩
theorem busy_2f (w : World) (b : Nat) (i : Ins) (h : InsAt w b i) (hs : i.st = 2) {f : Fn} {a c : Array Value} (hf : i.fn = .func f a c) : Calls Tryz.prog 75 #[.pointer (some ⟨b, 0, none⟩)] w fun ev w' => ev = .returned (.bool true) ∧ Below w.heap.size w w' := by
 have x5 := h.cSt
 rw [hs] at x5
 have y0 := h.cFn
 rw [hf] at y0
 have q := funcNe
 clear h hs
 go_enter Tryz.func75, Tryz.ntmps75
 go_wp2
 go_ret
 exact ⟨rfl, Below.refl _ _⟩
theorem busy_3 (w : World) (b : Nat) (i : Ins) (h : InsAt w b i) (hs : i.st = 3) : Calls Tryz.prog 75 #[.pointer (some ⟨b, 0, none⟩)] w fun ev w' => ev = .returned (.bool (decide (i.pt < i.news))) ∧ Below w.heap.size w w' := by
 have x5 := h.cSt
 rw [hs] at x5
 have y0 := h.cPt
 have y1 := h.cNews
 clear h hs
 go_enter Tryz.func75, Tryz.ntmps75
 go_wp2
 go_quiet (fail)
 go_wp2
 go_ret
 exact ⟨rfl, below_drewN (Below.refl _ _) _⟩
theorem busy_4 (w : World) (b : Nat) (i : Ins) (h : InsAt w b i) (hs : i.st = 4) : Calls Tryz.prog 75 #[.pointer (some ⟨b, 0, none⟩)] w fun ev w' => ev = .returned (.bool (decide (i.sw < i.news))) ∧ Below w.heap.size w w' := by
 have x5 := h.cSt
 rw [hs] at x5
 have y0 := h.cSw
 have y1 := h.cNews
 clear h hs
 go_enter Tryz.func75, Tryz.ntmps75
 go_wp2
 go_quiet (fail)
 go_wp2
 go_ret
 exact ⟨rfl, below_drewN (Below.refl _ _) _⟩
theorem busy_5 (w : World) (b : Nat) (i : Ins) (h : InsAt w b i) (hs : i.st = 5) : Calls Tryz.prog 75 #[.pointer (some ⟨b, 0, none⟩)] w fun ev w' => ev = .returned (.bool (decide (i.pt ≤ i.news))) ∧ Below w.heap.size w w' := by
 have x5 := h.cSt
 rw [hs] at x5
 have y0 := h.cPt
 have y1 := h.cNews
 clear h hs
 go_enter Tryz.func75, Tryz.ntmps75
 go_wp2
 go_quiet (fail)
 go_wp2
 go_ret
 exact ⟨rfl, below_drewN (Below.refl _ _) _⟩
theorem busy_6 (w : World) (b : Nat) (i : Ins) (h : InsAt w b i) (hs : i.st = 6) : Calls Tryz.prog 75 #[.pointer (some ⟨b, 0, none⟩)] w fun ev w' => ev = .returned (.bool true) ∧ Below w.heap.size w w' := by
 have x5 := h.cSt
 rw [hs] at x5
 clear h hs
 go_enter Tryz.func75, Tryz.ntmps75
 go_wp2
 go_ret
 exact ⟨rfl, Below.refl _ _⟩
theorem busy_7 (w : World) (b : Nat) (i : Ins) (h : InsAt w b i) (hs : i.st = 7) : Calls Tryz.prog 75 #[.pointer (some ⟨b, 0, none⟩)] w fun ev w' => ev = .returned (.bool (decide (0 < i.pt))) ∧ Below w.heap.size w w' := by
 have x5 := h.cSt
 rw [hs] at x5
 have y0 := h.cPt
 clear h hs
 go_enter Tryz.func75, Tryz.ntmps75
 go_wp2
 go_ret
 exact ⟨rfl, Below.refl _ _⟩
theorem busy_8 (w : World) (b : Nat) (i : Ins) (h : InsAt w b i) (hs : i.st = 8) : Calls Tryz.prog 75 #[.pointer (some ⟨b, 0, none⟩)] w fun ev w' => ev = .returned (.bool (decide (0 < i.tk))) ∧ Below w.heap.size w w' := by
 have x5 := h.cSt
 rw [hs] at x5
 have y0 := h.cTk
 clear h hs
 go_enter Tryz.func75, Tryz.ntmps75
 go_wp2
 go_ret
 exact ⟨rfl, Below.refl _ _⟩
theorem busy_any (w : World) (b : Nat) (i : Ins) (h : InsAt w b i) (hs : i.st ≤ 8) (hf : FnOk i.fn) : Calls Tryz.prog 75 #[.pointer (some ⟨b, 0, none⟩)] w fun ev w' => ev = .returned (.bool i.busyB) ∧ Below w.heap.size w w' := by
 have hr : i.st = 0 ∨ i.st = 1 ∨ i.st = 2 ∨ i.st = 3 ∨ i.st = 4 ∨ i.st = 5 ∨ i.st = 6 ∨ i.st = 7 ∨ i.st = 8 := by omega
 unfold Ins.busyB
 rcases hr with e | e | e | e | e | e | e | e | e <;> rw [e]
 ·exact busy_0 w b i h e
 ·exact busy_1 w b i h e
 ·rcases hf with q | ⟨f, a, c, q⟩
  ·simp only [Ins.hasF, q]; exact busy_2n w b i h e q
  ·simp only [Ins.hasF, q]; exact busy_2f w b i h e q
 ·exact busy_3 w b i h e
 ·exact busy_4 w b i h e
 ·exact busy_5 w b i h e
 ·exact busy_6 w b i h e
 ·exact busy_7 w b i h e
 ·exact busy_8 w b i h e
open Go.RowKit
def rcZ (o : Nat) : Value := (recCells Sc.zero (.slice none 0 0) (.slice none 0 0)).getD o undef
def Ins.zero (er : Value) : Ins := { page := 0, os := 0, og := 0, news := 0, fn := .nilFunc, st := 0, pg := fun _ => 0, rc := fun _ => rcZ, rf := fun _ => (0, 0), tk := 0, pt := 0, sw := 0, dn := false, er := er }
def ErV (v : Value) : Prop := v = .nilIface ∨ ∃ t x, v = .iface t x
def settleGo : Nat → Ins → Ins
 | 0, i => i
 | g + 1, i => if i.busyB then i else if i.st = 8 then Ins.zero i.er else settleGo g { i with st := i.st + 1 }
def settleI (i : Ins) : Ins := settleGo (9 - i.st) i
theorem insInfo : (Tryz.prog.info? 112).map (·.size) = some 100 := by kernel_rfl
theorem InsAt.there {w : World} {b : Nat} {i : Ins} (h : InsAt w b i) : w.there b 0 100 := blk_there h.blk 100 (Nat.le_refl _)
theorem InsAt.laid {w : World} {b : Nat} {i : Ins} (h : InsAt w b i) (j : Ins) : InsAt (w.setCells b 0 j.list) b j := ⟨list_laid j.list h.blk rfl⟩
theorem zero_one {er : Value} (h : ErV er) : (Ins.zero er).list.toArray.all (fun x => x.oneCell') = true := by
 rcases h with rfl | ⟨t, x, rfl⟩ <;> kernel_rfl
section
variable {P : Program}
theorem run_build_to {op : Oper} {a : Act} {w : World} {K : Act → World → Prop} {Q : Exit → Act → World → Prop} (t : TypeId) (parts : Array (Nat × Operand)) (ho : op.op = .build t parts) (cells : Array Value)
  (hb : P.built t (parts.toList.map fun p => (p.1, a.eval p.2)) = some cells) (h : K (a.put op.dst (.agg cells)) w) : op.wp P a w K Q := by
 have hb' : P.built t (parts.map fun (i, x) => (i, a.eval x)).toList = some cells := by rw [Array.toList_map]; exact hb
 unfold Oper.wp execOp
 simp only [ho, Sem.run_bind, run_build w t _ cells hb', Result.andThen_ok]
 exact h
theorem wpList_build_to {ops : Array Oper} {rest : List Oper} {op : Oper} {a : Act} {w : World} {Q : Exit → Act → World → Prop} (hgd : op.guard = none) (t : TypeId) (parts : Array (Nat × Operand)) (ho : op.op = .build t parts) (cells : Array Value)
  (hb : P.built t (parts.toList.map fun p => (p.1, a.eval p.2)) = some cells) (h : wpList P ops Q rest (a.put op.dst (.agg cells)) w) : wpList P ops Q (op :: rest) a w :=
 wpList_plain hgd fun _ hK => run_build_to t parts ho cells hb (hK _ _ h)
theorem yieldsIf_build_to {ops : Array Oper} {S : World → Prop} {op : Oper} {a : Act} (hw : Region.wanted op (yielded ops a.tmps) = true) (t : TypeId) (parts : Array (Nat × Operand)) (ho : op.op = .build t parts) (cells : Array Value)
  (hb : P.built t (parts.toList.map fun p => (p.1, a.eval p.2)) = some cells) : YieldsIf P ops S op (.agg cells) a :=
 .inl ⟨hw, fun w _ => by
  have hb' : P.built t (parts.map fun (i, x) => (i, a.eval x)).toList = some cells := by rw [Array.toList_map]; exact hb
  unfold execOp
  simp only [ho, Sem.run_bind, run_build w t _ cells hb', Result.andThen_ok]
  rfl⟩
end
theorem built_zero {er : Value} (h : ErV er) : Tryz.prog.built 112 [(9, er)] = some (Ins.zero er).list.toArray := by
 rcases h with rfl | ⟨t, x, rfl⟩ <;> kernel_rfl
theorem settle_any (w : World) (b : Nat) (i : Ins) (h : InsAt w b i) (hs : i.st ≤ 8) (hf : FnOk i.fn) (he : ErV i.er) :
  Calls Tryz.prog 36 #[.pointer (some ⟨b, 0, none⟩)] w fun ev w' => ev = .returned (.tuple #[]) ∧ InsAt w' b (settleI i) ∧ Kept (fun k => k = b) w w' := by
 go_enter Tryz.func36, Tryz.ntmps36
 go_wp2_with fail
 go_loopg [] (9 - i.st) (fun g wr => ∃ j, InsAt wr b j ∧ j.st + g = 9 ∧ j.st ≤ 8 ∧ FnOk j.fn ∧ ErV j.er ∧ settleI i = settleGo g j ∧ Kept (fun k => k = b) w wr)
 case atStart => exact ⟨i, h, by omega, hs, hf, he, rfl, Kept.refl _ _⟩
 case round =>
  clear h hs hf he
  obtain ⟨j, hI, hg, h8, hf, he, hE, hK⟩ := hrel
  have I0 := Lib.hid hI
  have G0 := Lib.hid hg
  have H0 := Lib.hid h8
  have F0 := Lib.hid hf
  have V0 := Lib.hid he
  have E0 := Lib.hid hE
  have K0 := Lib.hid hK
  clear hI hg h8 hf he hE hK
  go_wp2_with fail
  refine (busy_any _ b j I0.out H0.out F0.out).mono ?_
  rintro ev w1 ⟨rfl, hs⟩
  have I1 := Lib.hid (I0.out.step hs)
  have K1 := Lib.hid (K0.out.trans (Kept.of_below hs))
  clear hs
  obtain ⟨g, rfl⟩ : ∃ g, gk = g + 1 := ⟨gk - 1, by have := G0.out; have := H0.out; omega⟩
  cases hb : j.busyB with
  | true =>
   have e : settleI i = j := by rw [E0.out, settleGo, if_pos hb]
   have E1 := Lib.hid e
   clear hb e
   go_wp2
   go_end0
   rw [E1.out]
   exact ⟨rfl, I1.out, K1.out⟩
  | false =>
   have HB := Lib.hid hb
   clear hb
   by_cases h9 : j.st = 8
   ·have x5 := I1.out.cSt
    rw [h9] at x5
    have x9 := I1.out.cEr
    have E1 := Lib.hid (show settleI i = Ins.zero j.er by rw [E0.out, settleGo, if_neg (by rw [HB.out]; decide), if_pos h9])
    have T1 := Lib.hid I1.out.there
    have L1 := Lib.hid (I1.out.laid (Ins.zero j.er))
    have O1 := Lib.hid (zero_one V0.out)
    have K2 := Lib.hid (K1.out.trans (Kept.setCells (Ins.zero j.er).list 0 w1 (Kept.refl (fun k => k = b) w1)))
    clear h9
    generalize j.er = er at *
    have Z1 := Lib.hid (built_zero V0.out)
    go_wp2_with (first | (refine wpList_build_to rfl 112 _ rfl (Ins.zero er).list.toArray Z1.out ?_) | (refine wpList_store_mid rfl 112 (.tmp 16) (.tmp 15) rfl b 0 (Ins.zero er).list.toArray rfl rfl T1.out insInfo O1.out ?_))
    simp only [Act.put]
    refine bodyPost_ret (results_none rfl _ _ _) rfl ?_
    rw [E1.out]
    exact ⟨rfl, L1.out, K2.out⟩
   ·have x5 := I1.out.cSt
    have fz := I1.out.free 5
    have hw : IntKind.i64.wrap ((j.st : Int) + 1) = ((j.st + 1 : Nat) : Int) := by rw [Go.IntWalk.i64_in _ (by have := H0.out; omega)]; omega
    have n8 : ¬ (j.st : Int) = 8 := by omega
    have E1 := Lib.hid (show settleI i = settleGo g { j with st := j.st + 1 } by rw [E0.out, settleGo, if_neg (by rw [HB.out]; decide), if_neg h9])
    have H9 := Lib.hid h9
    have J1 := Lib.hid (I1.out.sSt (j.st + 1))
    have K2 := Lib.hid (K1.out.setCell 5 (.int .i64 ((j.st + 1 : Nat) : Int)))
    clear h9
    go_wp2_with fail
    go_roundg g
    case measure => omega
    case rel =>
     have h1 := G0.out
     have h2 := H0.out
     have h3 := H9.out
     exact ⟨_, J1.out, by simp only; omega, by simp only; omega, F0.out, V0.out, E1.out, K2.out⟩
open Go.RowKit
theorem InsAt.rPg {w : World} {b : Nat} {i : Ins} (h : InsAt w b i) : w.rangeAt b 6 [.int .i64 (i.pg 0), .int .i64 (i.pg 1), .int .i64 (i.pg 2), .int .i64 (i.pg 3)] := fun j u hj => by
 have hl : j < 4 := (List.getElem?_eq_some_iff.1 hj).1
 match j, hl, hj with
 | 0, _, hj => exact (blk_cell h.blk 6).trans hj
 | 1, _, hj => exact (blk_cell h.blk 7).trans hj
 | 2, _, hj => exact (blk_cell h.blk 8).trans hj
 | 3, _, hj => exact (blk_cell h.blk 9).trans hj
def Ins.rfL (i : Ins) : List Value := [.int .i64 (i.rf 0).1, .int .i64 (i.rf 0).2, .int .i64 (i.rf 1).1, .int .i64 (i.rf 1).2, .int .i64 (i.rf 2).1, .int .i64 (i.rf 2).2, .int .i64 (i.rf 3).1, .int .i64 (i.rf 3).2, .int .i64 (i.rf 4).1, .int .i64 (i.rf 4).2]
theorem InsAt.rRf {w : World} {b : Nat} {i : Ins} (h : InsAt w b i) : w.rangeAt b 85 i.rfL := fun j u hj => by
 have hl : j < 10 := (List.getElem?_eq_some_iff.1 hj).1
 match j, hl, hj with
 | 0, _, hj => exact (blk_cell h.blk 85).trans hj
 | 1, _, hj => exact (blk_cell h.blk 86).trans hj
 | 2, _, hj => exact (blk_cell h.blk 87).trans hj
 | 3, _, hj => exact (blk_cell h.blk 88).trans hj
 | 4, _, hj => exact (blk_cell h.blk 89).trans hj
 | 5, _, hj => exact (blk_cell h.blk 90).trans hj
 | 6, _, hj => exact (blk_cell h.blk 91).trans hj
 | 7, _, hj => exact (blk_cell h.blk 92).trans hj
 | 8, _, hj => exact (blk_cell h.blk 93).trans hj
 | 9, _, hj => exact (blk_cell h.blk 94).trans hj
def Ins.pgL (i : Ins) : List Value := [.int .i64 (i.pg 0), .int .i64 (i.pg 1), .int .i64 (i.pg 2), .int .i64 (i.pg 3)]
def undoI (i : Ins) (v : Value) : Ins := { Ins.zero v with st := 7, pg := i.pg, rf := i.rf, tk := i.tk, pt := i.pt }
def succI (i : Ins) : Ins := { Ins.zero .nilIface with pg := i.pg, rf := i.rf, tk := i.tk, pt := i.pt, dn := true }
theorem pgInfo : (Tryz.prog.info? 108).map (·.size) = some 4 := by kernel_rfl
theorem rfInfo : (Tryz.prog.info? 110).map (·.size) = some 10 := by kernel_rfl
theorem built_undo (i : Ins) {v : Value} (h : ErV v) : Tryz.prog.built 112 [(1, .int .i64 7), (2, .agg i.pgL.toArray), (4, .agg i.rfL.toArray), (5, .int .i64 (i.tk : Int)), (6, .int .i64 (i.pt : Int)), (9, v)] = some (undoI i v).list.toArray := by
 rcases h with rfl | ⟨t, x, rfl⟩ <;> kernel_rfl
theorem built_succ (i : Ins) : Tryz.prog.built 112 [(2, .agg i.pgL.toArray), (4, .agg i.rfL.toArray), (5, .int .i64 (i.tk : Int)), (6, .int .i64 (i.pt : Int)), (8, .bool true)] = some (succI i).list.toArray := by kernel_rfl
theorem undo_one (i : Ins) {er : Value} (h : ErV er) : (undoI i er).list.toArray.all (fun x => x.oneCell') = true := by
 rcases h with rfl | ⟨t, x, rfl⟩ <;> kernel_rfl
theorem succ_one (i : Ins) : (succI i).list.toArray.all (fun x => x.oneCell') = true := by kernel_rfl
theorem undo_any (w : World) (b : Nat) (i : Ins) (v : Value) (hv : ErV v) (h : InsAt w b i) : Calls Tryz.prog 79 #[.pointer (some ⟨b, 0, none⟩), v] w fun ev w' => ev = .returned (.tuple #[]) ∧ InsAt w' b (undoI i v) ∧ Kept (fun k => k = b) w w' := by
 have ID := Lib.hid (h.step (Below.refl _ _).drew)
 have TD := Lib.hid ID.out.there
 have LD := Lib.hid (ID.out.laid (undoI i v))
 have KD := Lib.hid ((Kept.refl (fun k => k = b) w).drew.trans (Kept.setCells (undoI i v).list 0 w.drew (Kept.refl (fun k => k = b) w.drew)))
 have V0 := Lib.hid hv
 clear hv
 clear h
 go_enter Tryz.func79, Tryz.ntmps79
 go_wp2_with fail
 refine AnyBut.region (fun w' => InsAt w' b i) 20 (by kernel_rfl) ?_
 refine tkB (i := 0) (oi := ⟨some 4, _, _, _, _, _⟩) (v := ?va0) rfl (Or.inl ⟨by rfl, ?hya0⟩) ID.out ?resta0
 case hya0 => (intro w hSw; have q0 := hSw.cTk; have q1 := hSw.cPt; go_simp; try (with_reducible rfl))
 simp only [Act.put, sT, sZ, sS]
 refine tkB (i := 1) (oi := ⟨some 5, _, _, _, _, _⟩) (v := ?va1) rfl (Or.inl ⟨by rfl, ?hya1⟩) ID.out ?resta1
 case hya1 => (intro w hSw; have q0 := hSw.cTk; have q1 := hSw.cPt; go_simp; try (with_reducible rfl))
 simp only [Act.put, sT, sZ, sS]
 refine tkB (i := 2) (oi := ⟨some 6, _, _, _, _, _⟩) (v := ?va2) rfl (Or.inl ⟨by rfl, ?hya2⟩) ID.out ?resta2
 case hya2 => (intro w hSw; have q0 := hSw.cTk; have q1 := hSw.cPt; go_simp; try (with_reducible rfl))
 simp only [Act.put, sT, sZ, sS]
 refine tkB (i := 3) (oi := ⟨some 7, _, _, _, _, _⟩) (v := ?va3) rfl (Or.inl ⟨by rfl, ?hya3⟩) ID.out ?resta3
 case hya3 => (intro w hSw; have q0 := hSw.cTk; have q1 := hSw.cPt; go_simp; try (with_reducible rfl))
 simp only [Act.put, sT, sZ, sS]
 refine tkB (i := 4) (oi := ⟨some 8, _, _, _, _, _⟩) (v := .agg i.pgL.toArray) rfl (yieldsIf_load_mid (by rfl) 108 (.tmp 7) rfl b 6 rfl i.pgL _ (fun w h => h.rPg) Tryz.underlying108 rfl pgInfo) ID.out ?resta4
 simp only [Act.put, sT, sZ, sS]
 refine tkB (i := 5) (oi := ⟨some 9, _, _, _, _, _⟩) (v := ?va5) rfl (Or.inl ⟨by rfl, ?hya5⟩) ID.out ?resta5
 case hya5 => (intro w hSw; have q0 := hSw.cTk; have q1 := hSw.cPt; go_simp; try (with_reducible rfl))
 simp only [Act.put, sT, sZ, sS]
 refine tkB (i := 6) (oi := ⟨some 10, _, _, _, _, _⟩) (v := ?va6) rfl (Or.inl ⟨by rfl, ?hya6⟩) ID.out ?resta6
 case hya6 => (intro w hSw; have q0 := hSw.cTk; have q1 := hSw.cPt; go_simp; try (with_reducible rfl))
 simp only [Act.put, sT, sZ, sS]
 refine tkB (i := 7) (oi := ⟨some 11, _, _, _, _, _⟩) (v := ?va7) rfl (Or.inl ⟨by rfl, ?hya7⟩) ID.out ?resta7
 case hya7 => (intro w hSw; have q0 := hSw.cTk; have q1 := hSw.cPt; go_simp; try (with_reducible rfl))
 simp only [Act.put, sT, sZ, sS]
 refine tkB (i := 8) (oi := ⟨some 12, _, _, _, _, _⟩) (v := .agg i.rfL.toArray) rfl (yieldsIf_load_mid (by rfl) 110 (.tmp 11) rfl b 85 rfl i.rfL _ (fun w h => h.rRf) Tryz.underlying110 rfl rfInfo) ID.out ?resta8
 simp only [Act.put, sT, sZ, sS]
 refine tkB (i := 9) (oi := ⟨some 13, _, _, _, _, _⟩) (v := ?va9) rfl (Or.inl ⟨by rfl, ?hya9⟩) ID.out ?resta9
 case hya9 => (intro w hSw; have q0 := hSw.cTk; have q1 := hSw.cPt; go_simp; try (with_reducible rfl))
 simp only [Act.put, sT, sZ, sS]
 refine tkB (i := 10) (oi := ⟨some 14, _, _, _, _, _⟩) (v := ?va10) rfl (Or.inl ⟨by rfl, ?hya10⟩) ID.out ?resta10
 case hya10 => (intro w hSw; have q0 := hSw.cTk; have q1 := hSw.cPt; go_simp; try (with_reducible rfl))
 simp only [Act.put, sT, sZ, sS]
 refine tkB (i := 11) (oi := ⟨some 15, _, _, _, _, _⟩) (v := ?va11) rfl (Or.inl ⟨by rfl, ?hya11⟩) ID.out ?resta11
 case hya11 => (intro w hSw; have q0 := hSw.cTk; have q1 := hSw.cPt; go_simp; try (with_reducible rfl))
 simp only [Act.put, sT, sZ, sS]
 refine tkB (i := 12) (oi := ⟨some 16, _, _, _, _, _⟩) (v := ?va12) rfl (Or.inl ⟨by rfl, ?hya12⟩) ID.out ?resta12
 case hya12 => (intro w hSw; have q0 := hSw.cTk; have q1 := hSw.cPt; go_simp; try (with_reducible rfl))
 simp only [Act.put, sT, sZ, sS]
 refine tkB (i := 13) (oi := ⟨some 17, _, _, _, _, _⟩) (v := ?va13) rfl (Or.inl ⟨by rfl, ?hya13⟩) ID.out ?resta13
 case hya13 => (intro w hSw; have q0 := hSw.cTk; have q1 := hSw.cPt; go_simp; try (with_reducible rfl))
 simp only [Act.put, sT, sZ, sS]
 refine tkB (i := 14) (oi := ⟨some 18, _, _, _, _, _⟩) (v := ?va14) rfl (Or.inl ⟨by rfl, ?hya14⟩) ID.out ?resta14
 case hya14 => (intro w hSw; have q0 := hSw.cTk; have q1 := hSw.cPt; go_simp; try (with_reducible rfl))
 simp only [Act.put, sT, sZ, sS]
 refine tkB (i := 15) (oi := ⟨some 19, _, _, _, _, _⟩) (v := ?va15) rfl (Or.inl ⟨by rfl, ?hya15⟩) ID.out ?resta15
 case hya15 => (intro w hSw; have q0 := hSw.cTk; have q1 := hSw.cPt; go_simp; try (with_reducible rfl))
 simp only [Act.put, sT, sZ, sS]
 refine tkB (i := 16) (oi := ⟨some 20, _, _, _, _, _⟩) (v := ?va16) rfl (Or.inl ⟨by rfl, ?hya16⟩) ID.out ?resta16
 case hya16 => (intro w hSw; have q0 := hSw.cTk; have q1 := hSw.cPt; go_simp; try (with_reducible rfl))
 simp only [Act.put, sT, sZ, sS]
 refine tkB (i := 17) (oi := ⟨some 21, _, _, _, _, _⟩) (v := ?va17) rfl (Or.inl ⟨by rfl, ?hya17⟩) ID.out ?resta17
 case hya17 => (intro w hSw; have q0 := hSw.cTk; have q1 := hSw.cPt; go_simp; try (with_reducible rfl))
 simp only [Act.put, sT, sZ, sS]
 refine tkB (i := 18) (oi := ⟨some 22, _, _, _, _, _⟩) (v := .agg (undoI i v).list.toArray) rfl ?yba18 ID.out ?resta18
 case yba18 =>
  refine yieldsIf_build_to (by rfl) 112 _ rfl _ ?_
  exact (congrArg (Program.built Tryz.prog 112) (by rfl)).trans ((built_undo i V0.out))
 simp only [Act.put, sT, sZ, sS]
 refine tkB (i := 19) (oi := ⟨some 23, _, _, _, _, _⟩) (v := ?va19) rfl (Or.inl ⟨by rfl, ?hya19⟩) ID.out ?resta19
 case hya19 => (intro w hSw; have q0 := hSw.cTk; have q1 := hSw.cPt; go_simp; try (with_reducible rfl))
 simp only [Act.put, sT, sZ, sS]
 refine AnyBut.one (i := 20) (o := ⟨none, _, _, _, _, _⟩) (by kernel_rfl) rfl (fun K hK => ?_)
 rw [if_pos (by rfl)]
 refine wp_store_mid 112 (.tmp 23) (.tmp 22) rfl b 0 (undoI i v).list.toArray rfl rfl TD.out insInfo (undo_one i V0.out) ?_
 refine hK.out _ _ (fun h => absurd rfl h) ?_
 clear hK K
 try simp only [Act.put]
 refine AnyBut.done (by kernel_rfl) ?_ _
 go_wp2
 go_end0
 exact ⟨rfl, LD.out, KD.out⟩
theorem succ_any (w : World) (b : Nat) (i : Ins) (h : InsAt w b i) : Calls Tryz.prog 43 #[.pointer (some ⟨b, 0, none⟩)] w fun ev w' => ev = .returned (.tuple #[]) ∧ InsAt w' b (succI i) ∧ Kept (fun k => k = b) w w' := by
 have ID := Lib.hid (h.step (Below.refl _ _).drew)
 have TD := Lib.hid ID.out.there
 have LD := Lib.hid (ID.out.laid (succI i))
 have KD := Lib.hid ((Kept.refl (fun k => k = b) w).drew.trans (Kept.setCells (succI i).list 0 w.drew (Kept.refl (fun k => k = b) w.drew)))
 clear h
 go_enter Tryz.func43, Tryz.ntmps43
 go_wp2_with fail
 refine AnyBut.region (fun w' => InsAt w' b i) 19 (by kernel_rfl) ?_
 refine tkB (i := 0) (oi := ⟨some 2, _, _, _, _, _⟩) (v := ?va0) rfl (Or.inl ⟨by rfl, ?hya0⟩) ID.out ?resta0
 case hya0 => (intro w hSw; have q0 := hSw.cTk; have q1 := hSw.cPt; go_simp; try (with_reducible rfl))
 simp only [Act.put, sT, sZ, sS]
 refine tkB (i := 1) (oi := ⟨some 3, _, _, _, _, _⟩) (v := ?va1) rfl (Or.inl ⟨by rfl, ?hya1⟩) ID.out ?resta1
 case hya1 => (intro w hSw; have q0 := hSw.cTk; have q1 := hSw.cPt; go_simp; try (with_reducible rfl))
 simp only [Act.put, sT, sZ, sS]
 refine tkB (i := 2) (oi := ⟨some 4, _, _, _, _, _⟩) (v := ?va2) rfl (Or.inl ⟨by rfl, ?hya2⟩) ID.out ?resta2
 case hya2 => (intro w hSw; have q0 := hSw.cTk; have q1 := hSw.cPt; go_simp; try (with_reducible rfl))
 simp only [Act.put, sT, sZ, sS]
 refine tkB (i := 3) (oi := ⟨some 5, _, _, _, _, _⟩) (v := ?va3) rfl (Or.inl ⟨by rfl, ?hya3⟩) ID.out ?resta3
 case hya3 => (intro w hSw; have q0 := hSw.cTk; have q1 := hSw.cPt; go_simp; try (with_reducible rfl))
 simp only [Act.put, sT, sZ, sS]
 refine tkB (i := 4) (oi := ⟨some 6, _, _, _, _, _⟩) (v := .agg i.pgL.toArray) rfl (yieldsIf_load_mid (by rfl) 108 (.tmp 5) rfl b 6 rfl i.pgL _ (fun w h => h.rPg) Tryz.underlying108 rfl pgInfo) ID.out ?resta4
 simp only [Act.put, sT, sZ, sS]
 refine tkB (i := 5) (oi := ⟨some 7, _, _, _, _, _⟩) (v := ?va5) rfl (Or.inl ⟨by rfl, ?hya5⟩) ID.out ?resta5
 case hya5 => (intro w hSw; have q0 := hSw.cTk; have q1 := hSw.cPt; go_simp; try (with_reducible rfl))
 simp only [Act.put, sT, sZ, sS]
 refine tkB (i := 6) (oi := ⟨some 8, _, _, _, _, _⟩) (v := ?va6) rfl (Or.inl ⟨by rfl, ?hya6⟩) ID.out ?resta6
 case hya6 => (intro w hSw; have q0 := hSw.cTk; have q1 := hSw.cPt; go_simp; try (with_reducible rfl))
 simp only [Act.put, sT, sZ, sS]
 refine tkB (i := 7) (oi := ⟨some 9, _, _, _, _, _⟩) (v := ?va7) rfl (Or.inl ⟨by rfl, ?hya7⟩) ID.out ?resta7
 case hya7 => (intro w hSw; have q0 := hSw.cTk; have q1 := hSw.cPt; go_simp; try (with_reducible rfl))
 simp only [Act.put, sT, sZ, sS]
 refine tkB (i := 8) (oi := ⟨some 10, _, _, _, _, _⟩) (v := .agg i.rfL.toArray) rfl (yieldsIf_load_mid (by rfl) 110 (.tmp 9) rfl b 85 rfl i.rfL _ (fun w h => h.rRf) Tryz.underlying110 rfl rfInfo) ID.out ?resta8
 simp only [Act.put, sT, sZ, sS]
 refine tkB (i := 9) (oi := ⟨some 11, _, _, _, _, _⟩) (v := ?va9) rfl (Or.inl ⟨by rfl, ?hya9⟩) ID.out ?resta9
 case hya9 => (intro w hSw; have q0 := hSw.cTk; have q1 := hSw.cPt; go_simp; try (with_reducible rfl))
 simp only [Act.put, sT, sZ, sS]
 refine tkB (i := 10) (oi := ⟨some 12, _, _, _, _, _⟩) (v := ?va10) rfl (Or.inl ⟨by rfl, ?hya10⟩) ID.out ?resta10
 case hya10 => (intro w hSw; have q0 := hSw.cTk; have q1 := hSw.cPt; go_simp; try (with_reducible rfl))
 simp only [Act.put, sT, sZ, sS]
 refine tkB (i := 11) (oi := ⟨some 13, _, _, _, _, _⟩) (v := ?va11) rfl (Or.inl ⟨by rfl, ?hya11⟩) ID.out ?resta11
 case hya11 => (intro w hSw; have q0 := hSw.cTk; have q1 := hSw.cPt; go_simp; try (with_reducible rfl))
 simp only [Act.put, sT, sZ, sS]
 refine tkB (i := 12) (oi := ⟨some 14, _, _, _, _, _⟩) (v := ?va12) rfl (Or.inl ⟨by rfl, ?hya12⟩) ID.out ?resta12
 case hya12 => (intro w hSw; have q0 := hSw.cTk; have q1 := hSw.cPt; go_simp; try (with_reducible rfl))
 simp only [Act.put, sT, sZ, sS]
 refine tkB (i := 13) (oi := ⟨some 15, _, _, _, _, _⟩) (v := ?va13) rfl (Or.inl ⟨by rfl, ?hya13⟩) ID.out ?resta13
 case hya13 => (intro w hSw; have q0 := hSw.cTk; have q1 := hSw.cPt; go_simp; try (with_reducible rfl))
 simp only [Act.put, sT, sZ, sS]
 refine tkB (i := 14) (oi := ⟨some 16, _, _, _, _, _⟩) (v := ?va14) rfl (Or.inl ⟨by rfl, ?hya14⟩) ID.out ?resta14
 case hya14 => (intro w hSw; have q0 := hSw.cTk; have q1 := hSw.cPt; go_simp; try (with_reducible rfl))
 simp only [Act.put, sT, sZ, sS]
 refine tkB (i := 15) (oi := ⟨some 17, _, _, _, _, _⟩) (v := ?va15) rfl (Or.inl ⟨by rfl, ?hya15⟩) ID.out ?resta15
 case hya15 => (intro w hSw; have q0 := hSw.cTk; have q1 := hSw.cPt; go_simp; try (with_reducible rfl))
 simp only [Act.put, sT, sZ, sS]
 refine tkB (i := 16) (oi := ⟨some 18, _, _, _, _, _⟩) (v := ?va16) rfl (Or.inl ⟨by rfl, ?hya16⟩) ID.out ?resta16
 case hya16 => (intro w hSw; have q0 := hSw.cTk; have q1 := hSw.cPt; go_simp; try (with_reducible rfl))
 simp only [Act.put, sT, sZ, sS]
 refine tkB (i := 17) (oi := ⟨some 19, _, _, _, _, _⟩) (v := .agg (succI i).list.toArray) rfl ?yba17 ID.out ?resta17
 case yba17 =>
  refine yieldsIf_build_to (by rfl) 112 _ rfl _ ?_
  exact (congrArg (Program.built Tryz.prog 112) (by rfl)).trans ((built_succ i))
 simp only [Act.put, sT, sZ, sS]
 refine tkB (i := 18) (oi := ⟨some 20, _, _, _, _, _⟩) (v := ?va18) rfl (Or.inl ⟨by rfl, ?hya18⟩) ID.out ?resta18
 case hya18 => (intro w hSw; have q0 := hSw.cTk; have q1 := hSw.cPt; go_simp; try (with_reducible rfl))
 simp only [Act.put, sT, sZ, sS]
 refine AnyBut.one (i := 19) (o := ⟨none, _, _, _, _, _⟩) (by kernel_rfl) rfl (fun K hK => ?_)
 rw [if_pos (by rfl)]
 refine wp_store_mid 112 (.tmp 20) (.tmp 19) rfl b 0 (succI i).list.toArray rfl rfl TD.out insInfo (succ_one i) ?_
 refine hK.out _ _ (fun h => absurd rfl h) ?_
 clear hK K
 try simp only [Act.put]
 refine AnyBut.done (by kernel_rfl) ?_ _
 go_wp2
 go_end0
 exact ⟨rfl, LD.out, KD.out⟩
open Go.RowKit
theorem ErrF.erv {w : World} {v : Value} {e : Int} (h : ErrF w v e) : ErV v := by
 rcases h with ⟨-, h⟩ | ⟨-, h | ⟨b, pl, x, h, -⟩⟩
 ·exact .inl h
 ·exact .inr ⟨_, _, h⟩
 ·exact .inr ⟨_, _, h⟩
theorem ErrF.nil {w : World} {v : Value} {e : Int} (h : ErrF w v e) (h0 : e = 0) : v = .nilIface := by
 rcases h with ⟨-, h⟩ | ⟨h, -⟩
 ·exact h
 ·exact absurd h0 h
theorem ErrF.ifc {w : World} {v : Value} {e : Int} (h : ErrF w v e) (h0 : e ≠ 0) : ∃ t x, v = .iface t x := by
 rcases h with ⟨h, -⟩ | ⟨-, h | ⟨b, pl, x, h, -⟩⟩
 ·exact absurd h h0
 ·exact ⟨_, _, h⟩
 ·exact ⟨_, _, h⟩
theorem ErrF.kept {w w' : World} {v : Value} {e : Int} (h : ErrF w v e) {S : Nat → Prop} (hk : Kept S w w') (hn : ∀ b, S b → ∀ cs, w.heap[b]? ≠ some (.cells cs 200 (0, 0))) : ErrF w' v e := by
 rcases h with h | ⟨h0, h | ⟨b', pl, x, h1, h2⟩⟩
 ·exact .inl h
 ·exact .inr ⟨h0, .inl h⟩
 ·exact .inr ⟨h0, .inr ⟨b', pl, x, h1, (hk.block b' (Array.getElem?_eq_some_iff.1 h2).1 (fun hs => hn b' hs _ h2)).trans h2⟩⟩
def US (m : MB) (S : Nat → Prop) (b : Nat) : Nat → Prop := fun j => MS m S j ∨ j = b
theorem US.ms {m : MB} {S : Nat → Prop} {b : Nat} {w w' : World} (hk : Kept (MS m S) w w') : Kept (US m S b) w w' := hk.wide fun _ _ h => .inl h
theorem US.one {m : MB} {S : Nat → Prop} {b : Nat} {w w' : World} (hk : Kept (fun j => j = b) w w') : Kept (US m S b) w w' := hk.wide fun _ _ h => .inr h
theorem MemAt.off1 {w w' : World} {m : MB} {S : Nat → Prop} {l : LimN} {k : Int} {ps : List Pt} {L : List Pg} {c : Ck} (h : MemAt w m S l k ps L c) {b : Nat} (hk : Kept (fun j => j = b) w w') (hb : ¬ MS m S b) : MemAt w' m S l k ps L c := h.keep hk fun j hj e => hb (e ▸ hj)
theorem InsAt.fault {w : World} {b : Nat} {i : Ins} (h : InsAt w b i) : ∀ j, j = b → ∀ cs, w.heap[j]? ≠ some (.cells cs 200 (0, 0)) := fun j e cs hc => by
 subst e
 exact absurd (blk_ne hc h.blk (by decide)) (fun h => h rfl)
def takeI (i : Ins) (x : Int) : Ins := { i with pg := upd i.pg i.tk x, tk := i.tk + 1 }
theorem iTake_any (w : World) (b : Nat) (i : Ins) (m : MB) (S : Nat → Prop) (l : LimN) (k : Int) (ps : List Pt) (L : List Pg) (c : Ck) (hi : InsAt w b i) (h : MemAt w m S l k ps L c) (hb : ¬ MS m S b) (h4 : i.tk < 4) :
  Calls Tryz.prog 40 #[.pointer (some ⟨b, 0, none⟩), .pointer (some ⟨m.mb, 0, none⟩)] w fun ev w' => ev = .returned (.tuple #[]) ∧ MemAt w' m S l (inc k) ps (takeL L) c ∧ Kept (US m S b) w w' ∧
   ((takeE L = 0 ∧ InsAt w' b (takeI i (takeN L : Int))) ∨ (takeE L ≠ 0 ∧ ∃ v, ErrF w' v (takeE L) ∧ InsAt w' b (undoI i v))) := by
 have I0 := Lib.hid hi
 have M0 := Lib.hid h
 have HB := Lib.hid hb
 have H4 := Lib.hid h4
 clear hi h hb h4
 go_enter Tryz.func40, Tryz.ntmps40
 go_wp2_with fail
 refine (nTake_any _ m S l k ps L c M0.out).mono ?_
 rintro ev w1 ⟨v, rfl, he, hM, hk⟩
 have M1 := Lib.hid hM
 have K1 := Lib.hid (US.ms (b := b) hk)
 have I1 := Lib.hid (I0.out.keep hk HB.out)
 have E1 := Lib.hid he
 clear hM hk
 by_cases h0 : takeE L = 0
 ·rw [he.nil h0]
  have HE := Lib.hid h0
  clear h0 he
  go_wp2_with fail
  have ID := Lib.hid (I1.out.step (Below.refl _ _).drew)
  have MD := Lib.hid (M1.out.low (Below.refl _ _).drew)
  have KD := Lib.hid K1.out.drew
  have FZ := Lib.hid (ID.out.free (6 + i.tk))
  have CP := Lib.hid (ID.out.cPg H4.out)
  have hx : (0 : Int) ≤ (i.tk : Int) ∧ (i.tk : Int) < 4 := by have := H4.out; omega
  refine AnyBut.region (fun w' => InsAt w' b i) 9 (by kernel_rfl) ?_
  generalize w1.drew = wd at *
  refine tkB (i := 0) (oi := ⟨some 16, _, _, _, _, _⟩) (v := ?va0) rfl (Or.inl ⟨by rfl, ?hya0⟩) ID.out ?resta0
  case hya0 => (intro w hSw; have q0 := hSw.cTk; go_simp; try (with_reducible rfl))
  simp only [Act.put, sT, sZ, sS]
  refine tkB (i := 1) (oi := ⟨some 17, _, _, _, _, _⟩) (v := ?va1) rfl (Or.inl ⟨by rfl, ?hya1⟩) ID.out ?resta1
  case hya1 => (intro w hSw; have q0 := hSw.cTk; go_simp; try (with_reducible rfl))
  simp only [Act.put, sT, sZ, sS]
  refine tkB (i := 2) (oi := ⟨some 18, _, _, _, _, _⟩) (v := ?va2) rfl (Or.inl ⟨by rfl, ?hya2⟩) ID.out ?resta2
  case hya2 => (intro w hSw; have q0 := hSw.cTk; go_simp; try (with_reducible rfl))
  simp only [Act.put, sT, sZ, sS]
  refine tkB (i := 3) (oi := ⟨some 19, _, _, _, _, _⟩) (v := ?va3) rfl (Or.inl ⟨by rfl, ?hya3⟩) ID.out ?resta3
  case hya3 => (intro w hSw; have q0 := hSw.cTk; go_simp; try (with_reducible rfl))
  simp only [Act.put, sT, sZ, sS]
  refine tkB (i := 4) (oi := ⟨some 20, _, _, _, _, _⟩) (v := ?va4) rfl (Or.inl ⟨by rfl, ?hya4⟩) ID.out ?resta4
  case hya4 => (intro w hSw; have q0 := hSw.cTk; go_simp; try (with_reducible rfl))
  simp only [Act.put, sT, sZ, sS]
  refine tkB (i := 5) (oi := ⟨some 21, _, _, _, _, _⟩) (v := ?va5) rfl (Or.inl ⟨by rfl, ?hya5⟩) ID.out ?resta5
  case hya5 => (intro w hSw; have q0 := hSw.cTk; go_simp; try (with_reducible rfl))
  simp only [Act.put, sT, sZ, sS]
  refine AnyBut.one (i := 6) (o := ⟨some 22, _, _, _, _, _⟩) (by kernel_rfl) rfl (fun K hK => ?_)
  rw [if_pos (by rfl)]
  have q0 := ID.out.cTk
  go_simp
  refine hK.out _ _ (fun _ => ID.out) ?_
  clear hK K
  try simp only [Act.put, sT, sZ, sS]
  refine AnyBut.one (i := 7) (o := ⟨some 23, _, _, _, _, _⟩) (by kernel_rfl) rfl (fun K hK => ?_)
  rw [if_pos (by rfl)]
  have q0 := ID.out.cTk
  go_simp
  refine hK.out _ _ (fun _ => ID.out) ?_
  clear hK K
  try simp only [Act.put, sT, sZ, sS]
  refine tkB (i := 8) (oi := ⟨some 24, _, _, _, _, _⟩) (v := ?va8) rfl (Or.inl ⟨by rfl, ?hya8⟩) ID.out ?resta8
  case hya8 => (intro w hSw; have q0 := hSw.cTk; go_simp; try (with_reducible rfl))
  simp only [Act.put, sT, sZ, sS]
  refine AnyBut.one (i := 9) (o := ⟨none, _, _, _, _, _⟩) (by kernel_rfl) rfl (fun K hK => ?_)
  rw [if_pos (by rfl)]
  have c1 := CP.out
  have c2 := FZ.out
  go_simp
  refine hK.out _ _ (fun h => absurd rfl h) ?_
  clear hK K
  try simp only [Act.put]
  refine AnyBut.done (by kernel_rfl) ?_ _
  have I2 := Lib.hid (ID.out.sPg (takeN L : Int) H4.out)
  have Kb := Lib.hid ((Kept.refl (fun j => j = b) wd).setCell (6 + i.tk) (.int .i64 (takeN L : Int)))
  have M2 := Lib.hid (MD.out.off1 Kb.out HB.out)
  have K2 := Lib.hid (KD.out.trans (US.one (m := m) (S := S) Kb.out))
  generalize hW : wd.setCell ⟨b, 6 + i.tk, none⟩ (.int .i64 (takeN L : Int)) = W at *
  clear hW
  have y1 := I2.out.cTk
  have y2 := I2.out.free 95
  have hw : IntKind.i64.wrap ((i.tk : Int) + 1) = ((i.tk + 1 : Nat) : Int) := by rw [Go.IntWalk.i64_in _ (by have := H4.out; omega)]; omega
  have I3 := Lib.hid (I2.out.sTk (i.tk + 1))
  have Kc := Lib.hid ((Kept.refl (fun j => j = b) W).setCell 95 (.int .i64 ((i.tk + 1 : Nat) : Int)))
  have M3 := Lib.hid (M2.out.off1 Kc.out HB.out)
  have K3 := Lib.hid (K2.out.trans (US.one (m := m) (S := S) Kc.out))
  go_wp2
  go_end0
  exact ⟨rfl, M3.out, K3.out, .inl ⟨HE.out, I3.out⟩⟩
 ·obtain ⟨t, x, rfl⟩ := he.ifc h0
  have HE := Lib.hid h0
  clear h0 he
  go_wp2_with fail
  refine (undo_any _ b i _ E1.out.erv I1.out).mono ?_
  rintro ev w2 ⟨rfl, hI, hk⟩
  have I2 := Lib.hid hI
  have M2 := Lib.hid (M1.out.off1 hk HB.out)
  have E2 := Lib.hid (E1.out.kept hk I1.out.fault)
  have K2 := Lib.hid (K1.out.trans (US.one (m := m) (S := S) hk))
  clear hI hk
  go_wp2
  refine bodyPost_ret (results_none rfl _ _ _) rfl ?_
  exact ⟨rfl, M2.out, K2.out, .inr ⟨HE.out, _, E2.out, I2.out⟩⟩
open Go.RowKit
theorem blk_thereN {w : World} {b : Nat} {cs : Array Value} {T : TypeId} (h : w.heap[b]? = some (.cells cs T (0, 0))) (o n : Nat) (hn : o + n ≤ cs.size) : w.there b o n := fun j hj => by
 refine ⟨?_, blk_free h _⟩
 rw [blk_cell h, Array.getElem?_eq_getElem (by omega)]
 rfl
def RecIn (w : World) (T : Nat → Prop) (cs : List Value) (d : RecD) : Prop :=
 ∃ ra rn rc ea en ec, cs = recCells d.sc (.slice ra rn rc) (.slice ea en ec) ∧ RecV w (recVal d.sc (.slice ra rn rc) (.slice ea en ec)) d ∧ Out T (.slice ra rn rc) ∧ Out T (.slice ea en ec) ∧ d.rows.length ≤ 1000 ∧ d.ents.length ≤ 1000
theorem RecIn.sub {w : World} {S T : Nat → Prop} {cs : List Value} {d : RecD} (h : RecIn w S cs d) (hs : ∀ k, T k → S k) : RecIn w T cs d := by
 obtain ⟨ra, rn, rc, ea, en, ec, h1, h2, h3, h4, h5⟩ := h
 exact ⟨ra, rn, rc, ea, en, ec, h1, h2, h3.sub hs, h4.sub hs, h5⟩
theorem RecIn.kept {w w' : World} {S T : Nat → Prop} {cs : List Value} {d : RecD} (h : RecIn w S cs d) (hk : Kept T w w') (hs : ∀ k, T k → S k) : RecIn w' S cs d := by
 obtain ⟨ra, rn, rc, ea, en, ec, h1, h2, h3, h4, h5⟩ := h
 exact ⟨ra, rn, rc, ea, en, ec, h1, h2.kept hk (h3.sub hs) (h4.sub hs), h3, h4, h5⟩
theorem InsAt.there2 {w : World} {b : Nat} {i : Ins} (h : InsAt w b i) (o : Nat) (ho : o + 2 ≤ 100) : w.there b o 2 := blk_thereN h.blk o 2 ho
def fillI (i : Ins) (r : Rf) : Ins := { i with rf := upd i.rf i.pt r, pt := i.pt + 1 }
def swapI (i : Ins) : Ins := { i with sw := i.sw + 1 }
theorem iFill_any (w : World) (b : Nat) (i : Ins) (m : MB) (S : Nat → Prop) (l : LimN) (k : Int) (ps : List Pt) (L : List Pg) (c : Ck) (d : RecD) (hi : InsAt w b i) (h : MemAt w m S l k ps L c) (hb : ¬ MS m S b) (h5 : i.pt < 5) (hr : RecIn w (MS m S) (i.rcL i.pt) d) :
  Calls Tryz.prog 41 #[.pointer (some ⟨b, 0, none⟩), .pointer (some ⟨m.mb, 0, none⟩)] w fun ev w' => ev = .returned (.tuple #[]) ∧ ∃ S', MemAt w' m S' l (inc k) (putM l.s l.c ps d) L c ∧ Kept (US m S b) w w' ∧ (∀ j, MS m S' j → MS m S j ∨ w.heap.size ≤ j) ∧
   (((allocM l.s l.c ps).2.2 = 0 ∧ InsAt w' b (fillI i (((allocM l.s l.c ps).1 : Int), ((allocM l.s l.c ps).2.1 : Int)))) ∨ ((allocM l.s l.c ps).2.2 ≠ 0 ∧ ∃ v, ErrF w' v (allocM l.s l.c ps).2.2 ∧ InsAt w' b (undoI i v))) := by
 obtain ⟨ra, rn, rc, ea, en, ec, hc, hv, o1, o2, h1, h2⟩ := hr
 have I0 := Lib.hid hi
 have M0 := Lib.hid h
 have HB := Lib.hid hb
 have H5 := Lib.hid h5
 have V0 := Lib.hid hv
 have OO := Lib.hid (show Out (MS m S) (.slice ra rn rc) ∧ Out (MS m S) (.slice ea en ec) ∧ d.rows.length ≤ 1000 ∧ d.ents.length ≤ 1000 from ⟨o1, o2, h1, h2⟩)
 have RC := Lib.hid (show ∀ w', InsAt w' b i → w'.rangeAt b (10 + i.pt * 15) (recCells d.sc (.slice ra rn rc) (.slice ea en ec)) from fun w' h => hc ▸ h.rRec h5)
 have hx : (0 : Int) ≤ (i.pt : Int) ∧ (i.pt : Int) < 5 := by omega
 clear hi h hb h5 hv o1 o2 h1 h2 hc
 go_enter Tryz.func41, Tryz.ntmps41
 go_upto_region 0 with (fail)
 go_cut [4, 5] from 6 to 20 (fun s4 s5 wc => ∃ (xb : Nat) (S' : Nat → Prop), s4 = .pointer (some ⟨xb, 0, none⟩) ∧ ErrF wc s5 (allocM l.s l.c ps).2.2 ∧ RfB wc xb ((allocM l.s l.c ps).1 : Int) ((allocM l.s l.c ps).2.1 : Int) ∧ w.heap.size ≤ xb ∧ ¬ MS m S' xb ∧ MemAt wc m S' l (inc k) (putM l.s l.c ps d) L c ∧ (∀ j, MS m S' j → MS m S j ∨ w.heap.size ≤ j) ∧ Kept (MS m S) w wc)
 case first =>
  go_wp2_with fail
  have ID := Lib.hid (I0.out.step (Below.refl _ _).drew)
  have MD := Lib.hid (M0.out.low (Below.refl _ _).drew)
  have KD := Lib.hid (Kept.refl (MS m S) w).drew
  have VD := Lib.hid (V0.out.below (Below.refl _ _).drew)
  have KS := Lib.hid (show ∀ w', Kept (MS m S) w w' → InsAt w' b i from fun w' hk => I0.out.keep hk HB.out)
  refine anyH_region (fun w' => InsAt w' b i) (by kernel_rfl) ?_
  generalize w.drew = wd at *
  refine tkH (i := 0) (oi := ⟨some 7, _, _, _, _, _⟩) (v := ?va0) rfl (Or.inl ⟨by rfl, ?hya0⟩) ID.out ?resta0
  case hya0 => (intro w hSw; have q0 := hSw.cPt; go_simp; try (with_reducible rfl))
  simp only [Act.put, sT, sZ, sS]
  refine tkH (i := 1) (oi := ⟨some 8, _, _, _, _, _⟩) (v := ?va1) rfl (Or.inl ⟨by rfl, ?hya1⟩) ID.out ?resta1
  case hya1 => (intro w hSw; have q0 := hSw.cPt; go_simp; try (with_reducible rfl))
  simp only [Act.put, sT, sZ, sS]
  refine tkH (i := 2) (oi := ⟨some 9, _, _, _, _, _⟩) (v := ?va2) rfl (Or.inl ⟨by rfl, ?hya2⟩) ID.out ?resta2
  case hya2 => (intro w hSw; have q0 := hSw.cPt; go_simp; try (with_reducible rfl))
  simp only [Act.put, sT, sZ, sS]
  refine tkH (i := 3) (oi := ⟨some 10, _, _, _, _, _⟩) (v := ?va3) rfl (Or.inl ⟨by rfl, ?hya3⟩) ID.out ?resta3
  case hya3 => (intro w hSw; have q0 := hSw.cPt; go_simp; try (with_reducible rfl))
  simp only [Act.put, sT, sZ, sS]
  refine tkH (i := 4) (oi := ⟨some 11, _, _, _, _, _⟩) (v := ?va4) rfl (Or.inl ⟨by rfl, ?hya4⟩) ID.out ?resta4
  case hya4 => (intro w hSw; have q0 := hSw.cPt; go_simp; try (with_reducible rfl))
  simp only [Act.put, sT, sZ, sS]
  refine tkH (i := 5) (oi := ⟨some 12, _, _, _, _, _⟩) (v := ?va5) rfl (Or.inl ⟨by rfl, ?hya5⟩) ID.out ?resta5
  case hya5 => (intro w hSw; have q0 := hSw.cPt; go_simp; try (with_reducible rfl))
  simp only [Act.put, sT, sZ, sS]
  refine tkH (i := 6) (oi := ⟨some 13, _, _, _, _, _⟩) (v := ?va6) rfl (Or.inl ⟨by rfl, ?hya6⟩) ID.out ?resta6
  case hya6 => (intro w hSw; have q0 := hSw.cPt; go_simp; try (with_reducible rfl))
  simp only [Act.put, sT, sZ, sS]
  refine tkH (i := 7) (oi := ⟨some 14, _, _, _, _, _⟩) (v := ?va7) rfl (Or.inl ⟨by rfl, ?hya7⟩) ID.out ?resta7
  case hya7 => (intro w hSw; have q0 := hSw.cPt; go_simp; try (with_reducible rfl))
  simp only [Act.put, sT, sZ, sS]
  refine tkH (i := 8) (oi := ⟨some 15, _, _, _, _, _⟩) (v := ?va8) rfl (Or.inl ⟨by rfl, ?hya8⟩) ID.out ?resta8
  case hya8 => (intro w hSw; have q0 := hSw.cPt; go_simp; try (with_reducible rfl))
  simp only [Act.put, sT, sZ, sS]
  refine tkH (i := 9) (oi := ⟨some 16, _, _, _, _, _⟩) (v := .agg (recCells d.sc (.slice ra rn rc) (.slice ea en ec)).toArray) rfl (yieldsIf_load_mid (by rfl) 55 (.tmp 15) rfl b (10 + i.pt * 15) rfl (recCells d.sc (.slice ra rn rc) (.slice ea en ec)) _ (fun w h => RC.out w h) Tryz.underlying55 rfl recInfoS) ID.out ?resta9
  simp only [Act.put, sT, sZ, sS]
  refine anyH_two (i := 10) (j := 14) (o := ⟨some 17, _, _, _, _, _⟩) (u := ⟨some 4, _, _, _, _, _⟩) (by kernel_rfl) rfl rfl (fun K hK => ?_) (fun K hK => ?_)
  ·rw [if_pos (by rfl)]
   go_simp
   refine (nAlloc_any _ m S l k ps L c d ra rn rc ea en ec MD.out VD.out OO.out.1 OO.out.2.1 OO.out.2.2.1 OO.out.2.2.2).mono ?_
   rintro e2 w2 ⟨S', v, rfl, he, hM, hk, hS⟩
   have K2 := Lib.hid (KD.out.trans hk)
   have M2 := Lib.hid hM
   have E2 := Lib.hid he
   have F2 := Lib.hid (show ∀ j, MS m S' j → MS m S j ∨ w.heap.size ≤ j from fun j hj => (hS j hj).imp id (fun h => by have := KD.out.size; omega))
   clear he hM hk hS
   unfold refV
   refine hK.out _ _ (KS.out _ K2.out) ?_
   clear hK K
   try simp only [Act.put, sT, sZ, sS]
   refine tkH (i := 11) (oi := ⟨some 6, _, _, _, _, _⟩) (v := ?vb11) rfl (Or.inl ⟨by rfl, ?hyb11⟩) (KS.out _ K2.out) ?restb11
   case hyb11 => (intro w hSw; go_simp; try (with_reducible rfl))
   simp only [Act.put, sT, sZ, sS]
   refine tkH (i := 12) (oi := ⟨some 18, _, _, _, _, _⟩) (v := ?vb12) rfl (Or.inl ⟨by rfl, ?hyb12⟩) (KS.out _ K2.out) ?restb12
   case hyb12 => (intro w hSw; go_simp; try (with_reducible rfl))
   simp only [Act.put, sT, sZ, sS]
   refine tkH (i := 13) (oi := ⟨some 19, _, _, _, _, _⟩) (v := ?vb13) rfl (Or.inl ⟨by rfl, ?hyb13⟩) (KS.out _ K2.out) ?restb13
   case hyb13 => (intro w hSw; go_simp; try (with_reducible rfl))
   simp only [Act.put, sT, sZ, sS]
   have b3 := Lib.hid (alloc_below0 w2 (.cells #[.int .i64 0, .int .i64 0] 48))
   have K3 := Lib.hid (K2.out.trans (Kept.of_below b3.out))
   have M3 := Lib.hid (M2.out.low b3.out)
   have E3 := Lib.hid (E2.out.below b3.out)
   have z3 := Lib.hid (blk_new w2 (.cells #[.int .i64 0, .int .i64 0] 48))
   have o3 := Lib.hid (M2.out.offB (Nat.le_refl _))
   refine anyH_one (i := 14) (o := ⟨some 4, _, _, _, _, _⟩) (by kernel_rfl) rfl (fun K hK => ?_)
   rw [if_pos (by rfl)]
   go_simp
   refine hK.out _ _ (KS.out _ K3.out) ?_
   clear hK K
   try simp only [Act.put, sT, sZ, sS]
   refine anyH_one (i := 15) (o := ⟨none, _, _, _, _, _⟩) (by kernel_rfl) rfl (fun K hK => ?_)
   rw [if_pos (by rfl)]
   refine wp_store_mid 48 (.tmp 4) (.tmp 18) rfl w2.heap.size 0 ([.int .i64 ((allocM l.s l.c ps).1 : Int), .int .i64 ((allocM l.s l.c ps).2.1 : Int)] : List Value).toArray rfl rfl (blk_there z3.out 2 (Nat.le_refl _)) (by kernel_rfl) (by kernel_rfl) ?_
   have nb := Lib.hid (show w.heap.size ≤ w2.heap.size by have := KD.out.size; have := K2.out.size; first | omega | exact Nat.le_refl _ | assumption)
   have K4 := Lib.hid ((K3.out.setNew nb.out 0 (.int .i64 ((allocM l.s l.c ps).1 : Int))).setNew nb.out 1 (.int .i64 ((allocM l.s l.c ps).2.1 : Int)))
   have ks := Lib.hid (Kept.setCells [.int .i64 ((allocM l.s l.c ps).1 : Int), .int .i64 ((allocM l.s l.c ps).2.1 : Int)] 0 (w2.alloc (.cells #[.int .i64 0, .int .i64 0] 48)) (Kept.refl (fun x => x = w2.heap.size) (w2.alloc (.cells #[.int .i64 0, .int .i64 0] 48))))
   have M4 := Lib.hid (M3.out.keep ks.out (fun j hj e => o3.out (e ▸ hj)))
   have E4 := Lib.hid (E3.out.keepF ks.out z3.out (by decide))
   have r4 := Lib.hid (list_laid [.int .i64 ((allocM l.s l.c ps).1 : Int), .int .i64 ((allocM l.s l.c ps).2.1 : Int)] z3.out rfl)
   refine hK.out _ _ (KS.out _ K4.out) ?_
   clear hK K
   try simp only [Act.put]
   refine anyH_one (i := 16) (o := ⟨some 5, _, _, _, _, _⟩) (by kernel_rfl) rfl (fun K hK => ?_)
   rw [if_pos (by rfl)]
   go_simp
   refine hK.out _ _ (KS.out _ K4.out) ?_
   clear hK K
   try simp only [Act.put, sT, sZ, sS]
   refine wpAnyH_done (by kernel_rfl) ?_ _
   go_wp2
   go_meet
   case rel => exact ⟨_, S', rfl, E4.out, ⟨r4.out⟩, nb.out, o3.out, M4.out, F2.out, K4.out⟩
  ·rw [if_pos (by rfl)]
   have b3 := Lib.hid (alloc_below0 wd (.cells #[.int .i64 0, .int .i64 0] 48))
   have z2 := Lib.hid (blk_new wd (.cells #[.int .i64 0, .int .i64 0] 48))
   have MB2 := Lib.hid (MD.out.low b3.out)
   have VB2 := Lib.hid (VD.out.below b3.out)
   have KB2 := Lib.hid (KD.out.trans (Kept.of_below b3.out))
   have o2 := Lib.hid (MD.out.offB (Nat.le_refl wd.heap.size))
   have zs := Lib.hid (show (wd.alloc (.cells #[.int .i64 0, .int .i64 0] 48)).heap.size = wd.heap.size + 1 from by simp)
   go_simp
   refine hK.out _ _ (KS.out _ KB2.out) ?_
   clear hK K
   try simp only [Act.put, sT, sZ, sS]
   refine anyH_one (i := 10) (o := ⟨some 17, _, _, _, _, _⟩) (by kernel_rfl) rfl (fun K hK => ?_)
   rw [if_pos (by rfl)]
   go_simp
   refine (nAlloc_any _ m S l k ps L c d ra rn rc ea en ec MB2.out VB2.out OO.out.1 OO.out.2.1 OO.out.2.2.1 OO.out.2.2.2).mono ?_
   rintro e2 w2 ⟨S', v, rfl, he, hM, hk, hS⟩
   have K2 := Lib.hid (KB2.out.trans hk)
   have M2 := Lib.hid hM
   have E2 := Lib.hid he
   have F2 := Lib.hid (show ∀ j, MS m S' j → MS m S j ∨ w.heap.size ≤ j from fun j hj => (hS j hj).imp id (fun h => by have := zs.out; have := KD.out.size; omega))
   have o3 := Lib.hid (show ¬ MS m S' wd.heap.size from fun hm => by
    rcases hS _ hm with h | h
    ·exact o2.out h
    ·have := zs.out; omega)
   have z3 := Lib.hid ((hk.block _ (by have := zs.out; omega) o2.out).trans z2.out)
   have E3 := Lib.hid he
   clear he hM hk hS
   unfold refV
   refine hK.out _ _ (KS.out _ K2.out) ?_
   clear hK K
   try simp only [Act.put, sT, sZ, sS]
   refine tkH (i := 11) (oi := ⟨some 6, _, _, _, _, _⟩) (v := ?vc11) rfl (Or.inl ⟨by rfl, ?hyc11⟩) (KS.out _ K2.out) ?restc11
   case hyc11 => (intro w hSw; go_simp; try (with_reducible rfl))
   simp only [Act.put, sT, sZ, sS]
   refine tkH (i := 12) (oi := ⟨some 18, _, _, _, _, _⟩) (v := ?vc12) rfl (Or.inl ⟨by rfl, ?hyc12⟩) (KS.out _ K2.out) ?restc12
   case hyc12 => (intro w hSw; go_simp; try (with_reducible rfl))
   simp only [Act.put, sT, sZ, sS]
   refine tkH (i := 13) (oi := ⟨some 19, _, _, _, _, _⟩) (v := ?vc13) rfl (Or.inl ⟨by rfl, ?hyc13⟩) (KS.out _ K2.out) ?restc13
   case hyc13 => (intro w hSw; go_simp; try (with_reducible rfl))
   simp only [Act.put, sT, sZ, sS]
   have K3 := Lib.hid K2.out
   have M3 := Lib.hid M2.out
   refine anyH_one (i := 15) (o := ⟨none, _, _, _, _, _⟩) (by kernel_rfl) rfl (fun K hK => ?_)
   rw [if_pos (by rfl)]
   refine wp_store_mid 48 (.tmp 4) (.tmp 18) rfl wd.heap.size 0 ([.int .i64 ((allocM l.s l.c ps).1 : Int), .int .i64 ((allocM l.s l.c ps).2.1 : Int)] : List Value).toArray rfl rfl (blk_there z3.out 2 (Nat.le_refl _)) (by kernel_rfl) (by kernel_rfl) ?_
   have nb := Lib.hid (show w.heap.size ≤ wd.heap.size by have := KD.out.size; have := K2.out.size; first | omega | exact Nat.le_refl _ | assumption)
   have K4 := Lib.hid ((K3.out.setNew nb.out 0 (.int .i64 ((allocM l.s l.c ps).1 : Int))).setNew nb.out 1 (.int .i64 ((allocM l.s l.c ps).2.1 : Int)))
   have ks := Lib.hid (Kept.setCells [.int .i64 ((allocM l.s l.c ps).1 : Int), .int .i64 ((allocM l.s l.c ps).2.1 : Int)] 0 w2 (Kept.refl (fun x => x = wd.heap.size) w2))
   have M4 := Lib.hid (M3.out.keep ks.out (fun j hj e => o3.out (e ▸ hj)))
   have E4 := Lib.hid (E3.out.keepF ks.out z3.out (by decide))
   have r4 := Lib.hid (list_laid [.int .i64 ((allocM l.s l.c ps).1 : Int), .int .i64 ((allocM l.s l.c ps).2.1 : Int)] z3.out rfl)
   refine hK.out _ _ (KS.out _ K4.out) ?_
   clear hK K
   try simp only [Act.put]
   refine anyH_one (i := 16) (o := ⟨some 5, _, _, _, _, _⟩) (by kernel_rfl) rfl (fun K hK => ?_)
   rw [if_pos (by rfl)]
   go_simp
   refine hK.out _ _ (KS.out _ K4.out) ?_
   clear hK K
   try simp only [Act.put, sT, sZ, sS]
   refine wpAnyH_done (by kernel_rfl) ?_ _
   go_wp2
   go_meet
   case rel => exact ⟨_, S', rfl, E4.out, ⟨r4.out⟩, nb.out, o3.out, M4.out, F2.out, K4.out⟩
 case rest =>
  obtain ⟨xb, S', rfl, he, hR, hxb, hox, hM, hS, hk⟩ := hcut
  obtain ⟨wL, hwq⟩ : ∃ x, x = wc := ⟨_, rfl⟩
  subst hwq
  have M2 := Lib.hid hM
  have R2 := Lib.hid hR
  have E2 := Lib.hid he
  have K2 := Lib.hid (US.ms (b := b) hk)
  have I2 := Lib.hid (I0.out.keep hk HB.out)
  have F2 := Lib.hid hS
  have XB := Lib.hid hxb
  have OX := Lib.hid hox
  have HB2 := Lib.hid (show ¬ MS m S' b from fun hm => (hS b hm).elim HB.out (fun h => by have := I0.out.lt; omega))
  have NX := Lib.hid (show ¬ xb = b from fun e => by have := I0.out.lt; omega)
  clear hM hR hk hS hxb hox RC
  by_cases h0 : (allocM l.s l.c ps).2.2 = 0
  ·obtain rfl := he.nil h0
   have HE := Lib.hid h0
   clear h0 he
   go_wp2_with fail
   have ID := Lib.hid (I2.out.step (Below.refl _ _).drew)
   have MD := Lib.hid (M2.out.low (Below.refl _ _).drew)
   have RD := Lib.hid (R2.out.step (Below.refl _ _).drew)
   have KD := Lib.hid K2.out.drew
   have TH := Lib.hid (ID.out.there2 (85 + i.pt * 2) (by have := H5.out; omega))
   refine AnyBut.region (fun w' => InsAt w' b i ∧ RfB w' xb ((allocM l.s l.c ps).1 : Int) ((allocM l.s l.c ps).2.1 : Int)) 9 (by kernel_rfl) ?_
   generalize wL.drew = wd at *
   refine tkB (i := 0) (oi := ⟨some 25, _, _, _, _, _⟩) (v := ?vd0) rfl (Or.inl ⟨by rfl, ?hyd0⟩) ⟨ID.out, RD.out⟩ ?restd0
   case hyd0 => (intro w hSw; have q0 := hSw.1.cPt; have q1 := hSw.2.c0; have q2 := hSw.2.c1; go_simp; try (with_reducible rfl))
   simp only [Act.put, sT, sZ, sS]
   refine tkB (i := 1) (oi := ⟨some 26, _, _, _, _, _⟩) (v := ?vd1) rfl (Or.inl ⟨by rfl, ?hyd1⟩) ⟨ID.out, RD.out⟩ ?restd1
   case hyd1 => (intro w hSw; have q0 := hSw.1.cPt; have q1 := hSw.2.c0; have q2 := hSw.2.c1; go_simp; try (with_reducible rfl))
   simp only [Act.put, sT, sZ, sS]
   refine tkB (i := 2) (oi := ⟨some 27, _, _, _, _, _⟩) (v := ?vd2) rfl (Or.inl ⟨by rfl, ?hyd2⟩) ⟨ID.out, RD.out⟩ ?restd2
   case hyd2 => (intro w hSw; have q0 := hSw.1.cPt; have q1 := hSw.2.c0; have q2 := hSw.2.c1; go_simp; try (with_reducible rfl))
   simp only [Act.put, sT, sZ, sS]
   refine tkB (i := 3) (oi := ⟨some 28, _, _, _, _, _⟩) (v := ?vd3) rfl (Or.inl ⟨by rfl, ?hyd3⟩) ⟨ID.out, RD.out⟩ ?restd3
   case hyd3 => (intro w hSw; have q0 := hSw.1.cPt; have q1 := hSw.2.c0; have q2 := hSw.2.c1; go_simp; try (with_reducible rfl))
   simp only [Act.put, sT, sZ, sS]
   refine tkB (i := 4) (oi := ⟨some 29, _, _, _, _, _⟩) (v := ?vd4) rfl (Or.inl ⟨by rfl, ?hyd4⟩) ⟨ID.out, RD.out⟩ ?restd4
   case hyd4 => (intro w hSw; have q0 := hSw.1.cPt; have q1 := hSw.2.c0; have q2 := hSw.2.c1; go_simp; try (with_reducible rfl))
   simp only [Act.put, sT, sZ, sS]
   refine tkB (i := 5) (oi := ⟨some 30, _, _, _, _, _⟩) (v := ?vd5) rfl (Or.inl ⟨by rfl, ?hyd5⟩) ⟨ID.out, RD.out⟩ ?restd5
   case hyd5 => (intro w hSw; have q0 := hSw.1.cPt; have q1 := hSw.2.c0; have q2 := hSw.2.c1; go_simp; try (with_reducible rfl))
   simp only [Act.put, sT, sZ, sS]
   refine AnyBut.one (i := 6) (o := ⟨some 31, _, _, _, _, _⟩) (by kernel_rfl) rfl (fun K hK => ?_)
   rw [if_pos (by rfl)]
   have q0 := ID.out.cPt
   go_simp
   refine hK.out _ _ (fun _ => ⟨ID.out, RD.out⟩) ?_
   clear hK K
   try simp only [Act.put, sT, sZ, sS]
   refine AnyBut.one (i := 7) (o := ⟨some 32, _, _, _, _, _⟩) (by kernel_rfl) rfl (fun K hK => ?_)
   rw [if_pos (by rfl)]
   have q0 := ID.out.cPt
   go_simp
   refine hK.out _ _ (fun _ => ⟨ID.out, RD.out⟩) ?_
   clear hK K
   try simp only [Act.put, sT, sZ, sS]
   refine tkB (i := 8) (oi := ⟨some 33, _, _, _, _, _⟩) (v := ?vd8) rfl (Or.inl ⟨by rfl, ?hyd8⟩) ⟨ID.out, RD.out⟩ ?restd8
   case hyd8 => (intro w hSw; have q0 := hSw.1.cPt; have q1 := hSw.2.c0; have q2 := hSw.2.c1; go_simp; try (with_reducible rfl))
   simp only [Act.put, sT, sZ, sS]
   refine AnyBut.one (i := 9) (o := ⟨none, _, _, _, _, _⟩) (by kernel_rfl) rfl (fun K hK => ?_)
   rw [if_pos (by rfl)]
   refine wp_store_mid 48 (.tmp 33) (.tmp 30) rfl b (85 + i.pt * 2) ([.int .i64 ((allocM l.s l.c ps).1 : Int), .int .i64 ((allocM l.s l.c ps).2.1 : Int)] : List Value).toArray rfl rfl TH.out (by kernel_rfl) (by kernel_rfl) ?_
   refine hK.out _ _ (fun h => absurd rfl h) ?_
   clear hK K
   try simp only [Act.put]
   refine AnyBut.done (by kernel_rfl) ?_ _
   have I3 := Lib.hid (ID.out.sRf ((allocM l.s l.c ps).1 : Int) ((allocM l.s l.c ps).2.1 : Int) H5.out)
   have Kb := Lib.hid (((Kept.refl (fun j => j = b) wd).setCell (85 + i.pt * 2) (.int .i64 ((allocM l.s l.c ps).1 : Int))).setCell (85 + i.pt * 2 + 1) (.int .i64 ((allocM l.s l.c ps).2.1 : Int)))
   have M3 := Lib.hid (MD.out.off1 Kb.out HB2.out)
   have K3 := Lib.hid (KD.out.trans (US.one (m := m) (S := S) Kb.out))
   have hset : wd.setCells b (85 + i.pt * 2) ([.int .i64 ((allocM l.s l.c ps).1 : Int), .int .i64 ((allocM l.s l.c ps).2.1 : Int)] : List Value).toArray.toList = (wd.setCell ⟨b, 85 + i.pt * 2, none⟩ (.int .i64 ((allocM l.s l.c ps).1 : Int))).setCell ⟨b, 85 + i.pt * 2 + 1, none⟩ (.int .i64 ((allocM l.s l.c ps).2.1 : Int)) := rfl
   rw [hset]
   generalize hW : (wd.setCell ⟨b, 85 + i.pt * 2, none⟩ (.int .i64 ((allocM l.s l.c ps).1 : Int))).setCell ⟨b, 85 + i.pt * 2 + 1, none⟩ (.int .i64 ((allocM l.s l.c ps).2.1 : Int)) = W at *
   clear hW hset
   have y1 := I3.out.cPt
   have y2 := I3.out.free 96
   have hw : IntKind.i64.wrap ((i.pt : Int) + 1) = ((i.pt + 1 : Nat) : Int) := by rw [Go.IntWalk.i64_in _ (by have := H5.out; omega)]; omega
   have I4 := Lib.hid (I3.out.sPt (i.pt + 1))
   have Kc := Lib.hid ((Kept.refl (fun j => j = b) W).setCell 96 (.int .i64 ((i.pt + 1 : Nat) : Int)))
   have M4 := Lib.hid (M3.out.off1 Kc.out HB2.out)
   have K4 := Lib.hid (K3.out.trans (US.one (m := m) (S := S) Kc.out))
   try simp only [Act.put]
   go_wp2
   go_end0
   exact ⟨rfl, S', M4.out, K4.out, F2.out, .inl ⟨HE.out, I4.out⟩⟩
  ·obtain ⟨t, x, rfl⟩ := he.ifc h0
   have HE := Lib.hid h0
   clear h0 he
   go_wp2_with fail
   refine (undo_any _ b i _ E2.out.erv I2.out).mono ?_
   rintro ev w3 ⟨rfl, hI, hk⟩
   have I3 := Lib.hid hI
   have M3 := Lib.hid (M2.out.off1 hk HB2.out)
   have E3 := Lib.hid (E2.out.kept hk I2.out.fault)
   have K3 := Lib.hid (K2.out.trans (US.one (m := m) (S := S) hk))
   clear hI hk
   go_wp2
   refine bodyPost_ret (results_none rfl _ _ _) rfl ?_
   exact ⟨rfl, S', M3.out, K3.out, F2.out, .inr ⟨HE.out, _, E3.out, I3.out⟩⟩
theorem iSwap_any (w : World) (b : Nat) (i : Ins) (m : MB) (S : Nat → Prop) (l : LimN) (k : Int) (ps : List Pt) (L : List Pg) (c : Ck) (x os og : Int) (hi : InsAt w b i) (h : MemAt w m S l k ps L c) (hb : ¬ MS m S b) (h5 : i.sw < 5) :
  Calls Tryz.prog 42 #[.pointer (some ⟨b, 0, none⟩), .pointer (some ⟨m.mb, 0, none⟩), .int .i64 x, refV os og] w fun ev w' => ev = .returned (.bool (swapB L x (os, og))) ∧ MemAt w' m S l (inc k) ps (swapL L x (os, og) (i.rf i.sw)) c ∧ Kept (US m S b) w w' ∧
   ((swapB L x (os, og) = true ∧ InsAt w' b (swapI i)) ∨ (swapB L x (os, og) = false ∧ ∃ v, ErrF w' v (codeT L x) ∧ InsAt w' b (undoI i v))) := by
 have b0 := alloc_below0 w (.cells #[.int .i64 os, .int .i64 og] 48)
 have I0 := Lib.hid (hi.step b0)
 have M0 := Lib.hid (h.low b0)
 have B0 := Lib.hid b0
 have R0 := Lib.hid (RfB.mk (blk_new w (.cells #[.int .i64 os, .int .i64 og] 48)))
 have HB := Lib.hid hb
 have H5 := Lib.hid h5
 have hx : (0 : Int) ≤ (i.sw : Int) ∧ (i.sw : Int) < 5 := by omega
 have NR0 := Lib.hid (h.offB (Nat.le_refl w.heap.size))
 clear hi h hb h5 b0
 unfold refV
 go_enter Tryz.func42, Tryz.ntmps42
 go_wp2_with fail
 generalize hwa : w.alloc (.cells #[.int .i64 os, .int .i64 og] 48) = wa at *
 have ID := Lib.hid (I0.out.step (Below.refl _ _).drew)
 have MD := Lib.hid (M0.out.low (Below.refl _ _).drew)
 have RD := Lib.hid (R0.out.step (Below.refl _ _).drew)
 have KD := Lib.hid ((Kept.of_below (S := US m S b) B0.out).drew)
 have fc := fun w' h => nSwap_any w' m S l k ps L c x os og (i.rf i.sw).1 (i.rf i.sw).2 h
 unfold refV at fc
 have NR := Lib.hid (show ¬ MS m S w.heap.size from NR0.out)
 refine anyH_region (fun w' => InsAt w' b i ∧ RfB w' w.heap.size os og) (by kernel_rfl) ?_
 generalize wa.drew = wd at *
 refine tkH (i := 0) (oi := ⟨some 12, _, _, _, _, _⟩) (v := ?vs0) rfl (Or.inl ⟨by rfl, ?hys0⟩) ⟨ID.out, RD.out⟩ ?rests0
 case hys0 => (intro w hSw; have q0 := hSw.1.cSw; have q1 := hSw.2.c0; have q2 := hSw.2.c1; have q3 := hSw.1.cRf1 H5.out; have q4 := hSw.1.cRf2 H5.out; go_simp; try (with_reducible rfl))
 simp only [Act.put, sT, sZ, sS]
 refine tkH (i := 1) (oi := ⟨some 13, _, _, _, _, _⟩) (v := ?vs1) rfl (Or.inl ⟨by rfl, ?hys1⟩) ⟨ID.out, RD.out⟩ ?rests1
 case hys1 => (intro w hSw; have q0 := hSw.1.cSw; have q1 := hSw.2.c0; have q2 := hSw.2.c1; have q3 := hSw.1.cRf1 H5.out; have q4 := hSw.1.cRf2 H5.out; go_simp; try (with_reducible rfl))
 simp only [Act.put, sT, sZ, sS]
 refine tkH (i := 2) (oi := ⟨some 14, _, _, _, _, _⟩) (v := ?vs2) rfl (Or.inl ⟨by rfl, ?hys2⟩) ⟨ID.out, RD.out⟩ ?rests2
 case hys2 => (intro w hSw; have q0 := hSw.1.cSw; have q1 := hSw.2.c0; have q2 := hSw.2.c1; have q3 := hSw.1.cRf1 H5.out; have q4 := hSw.1.cRf2 H5.out; go_simp; try (with_reducible rfl))
 simp only [Act.put, sT, sZ, sS]
 refine tkH (i := 3) (oi := ⟨some 15, _, _, _, _, _⟩) (v := ?vs3) rfl (Or.inl ⟨by rfl, ?hys3⟩) ⟨ID.out, RD.out⟩ ?rests3
 case hys3 => (intro w hSw; have q0 := hSw.1.cSw; have q1 := hSw.2.c0; have q2 := hSw.2.c1; have q3 := hSw.1.cRf1 H5.out; have q4 := hSw.1.cRf2 H5.out; go_simp; try (with_reducible rfl))
 simp only [Act.put, sT, sZ, sS]
 refine tkH (i := 4) (oi := ⟨some 16, _, _, _, _, _⟩) (v := ?vs4) rfl (Or.inl ⟨by rfl, ?hys4⟩) ⟨ID.out, RD.out⟩ ?rests4
 case hys4 => (intro w hSw; have q0 := hSw.1.cSw; have q1 := hSw.2.c0; have q2 := hSw.2.c1; have q3 := hSw.1.cRf1 H5.out; have q4 := hSw.1.cRf2 H5.out; go_simp; try (with_reducible rfl))
 simp only [Act.put, sT, sZ, sS]
 refine tkH (i := 5) (oi := ⟨some 17, _, _, _, _, _⟩) (v := ?vs5) rfl (Or.inl ⟨by rfl, ?hys5⟩) ⟨ID.out, RD.out⟩ ?rests5
 case hys5 => (intro w hSw; have q0 := hSw.1.cSw; have q1 := hSw.2.c0; have q2 := hSw.2.c1; have q3 := hSw.1.cRf1 H5.out; have q4 := hSw.1.cRf2 H5.out; go_simp; try (with_reducible rfl))
 simp only [Act.put, sT, sZ, sS]
 refine tkH (i := 6) (oi := ⟨some 18, _, _, _, _, _⟩) (v := ?vs6) rfl (Or.inl ⟨by rfl, ?hys6⟩) ⟨ID.out, RD.out⟩ ?rests6
 case hys6 => (intro w hSw; have q0 := hSw.1.cSw; have q1 := hSw.2.c0; have q2 := hSw.2.c1; have q3 := hSw.1.cRf1 H5.out; have q4 := hSw.1.cRf2 H5.out; go_simp; try (with_reducible rfl))
 simp only [Act.put, sT, sZ, sS]
 refine tkH (i := 7) (oi := ⟨some 19, _, _, _, _, _⟩) (v := ?vs7) rfl (Or.inl ⟨by rfl, ?hys7⟩) ⟨ID.out, RD.out⟩ ?rests7
 case hys7 => (intro w hSw; have q0 := hSw.1.cSw; have q1 := hSw.2.c0; have q2 := hSw.2.c1; have q3 := hSw.1.cRf1 H5.out; have q4 := hSw.1.cRf2 H5.out; go_simp; try (with_reducible rfl))
 simp only [Act.put, sT, sZ, sS]
 refine tkH (i := 8) (oi := ⟨some 20, _, _, _, _, _⟩) (v := ?vs8) rfl (Or.inl ⟨by rfl, ?hys8⟩) ⟨ID.out, RD.out⟩ ?rests8
 case hys8 => (intro w hSw; have q0 := hSw.1.cSw; have q1 := hSw.2.c0; have q2 := hSw.2.c1; have q3 := hSw.1.cRf1 H5.out; have q4 := hSw.1.cRf2 H5.out; go_simp; try (with_reducible rfl))
 simp only [Act.put, sT, sZ, sS]
 refine tkH (i := 9) (oi := ⟨some 21, _, _, _, _, _⟩) (v := ?vs9) rfl (Or.inl ⟨by rfl, ?hys9⟩) ⟨ID.out, RD.out⟩ ?rests9
 case hys9 => (intro w hSw; have q0 := hSw.1.cSw; have q1 := hSw.2.c0; have q2 := hSw.2.c1; have q3 := hSw.1.cRf1 H5.out; have q4 := hSw.1.cRf2 H5.out; go_simp; try (with_reducible rfl))
 simp only [Act.put, sT, sZ, sS]
 refine tkH (i := 10) (oi := ⟨some 22, _, _, _, _, _⟩) (v := ?vs10) rfl (Or.inl ⟨by rfl, ?hys10⟩) ⟨ID.out, RD.out⟩ ?rests10
 case hys10 => (intro w hSw; have q0 := hSw.1.cSw; have q1 := hSw.2.c0; have q2 := hSw.2.c1; have q3 := hSw.1.cRf1 H5.out; have q4 := hSw.1.cRf2 H5.out; go_simp; try (with_reducible rfl))
 simp only [Act.put, sT, sZ, sS]
 refine tkH (i := 11) (oi := ⟨some 23, _, _, _, _, _⟩) (v := ?vs11) rfl (Or.inl ⟨by rfl, ?hys11⟩) ⟨ID.out, RD.out⟩ ?rests11
 case hys11 => (intro w hSw; have q0 := hSw.1.cSw; have q1 := hSw.2.c0; have q2 := hSw.2.c1; have q3 := hSw.1.cRf1 H5.out; have q4 := hSw.1.cRf2 H5.out; go_simp; try (with_reducible rfl))
 simp only [Act.put, sT, sZ, sS]
 refine anyH_one (i := 12) (o := ⟨some 24, _, _, _, _, _⟩) (by kernel_rfl) rfl (fun K hK => ?_)
 rw [if_pos (by rfl)]
 go_simp
 refine (fc _ MD.out).mono ?_
 rintro e2 w2 ⟨v, rfl, he, hM, hk⟩
 have M2 := Lib.hid hM
 have K2 := Lib.hid (KD.out.trans (US.ms (b := b) hk))
 have I2 := Lib.hid (ID.out.keep hk HB.out)
 have R2 := Lib.hid (RD.out.keep hk NR.out)
 have E2 := Lib.hid he
 clear he hM hk
 refine hK.out _ _ ⟨I2.out, R2.out⟩ ?_
 clear hK K
 try simp only [Act.put, sT, sZ, sS]
 refine tkH (i := 13) (oi := ⟨some 11, _, _, _, _, _⟩) (v := ?vs13) rfl (Or.inl ⟨by rfl, ?hys13⟩) ⟨I2.out, R2.out⟩ ?rests13
 case hys13 => (intro w hSw; have q0 := hSw.1.cSw; have q1 := hSw.2.c0; have q2 := hSw.2.c1; have q3 := hSw.1.cRf1 H5.out; have q4 := hSw.1.cRf2 H5.out; go_simp; try (with_reducible rfl))
 simp only [Act.put, sT, sZ, sS]
 refine tkH (i := 14) (oi := ⟨some 25, _, _, _, _, _⟩) (v := ?vs14) rfl (Or.inl ⟨by rfl, ?hys14⟩) ⟨I2.out, R2.out⟩ ?rests14
 case hys14 => (intro w hSw; have q0 := hSw.1.cSw; have q1 := hSw.2.c0; have q2 := hSw.2.c1; have q3 := hSw.1.cRf1 H5.out; have q4 := hSw.1.cRf2 H5.out; go_simp; try (with_reducible rfl))
 simp only [Act.put, sT, sZ, sS]
 refine tkH (i := 15) (oi := ⟨some 26, _, _, _, _, _⟩) (v := ?vs15) rfl (Or.inl ⟨by rfl, ?hys15⟩) ⟨I2.out, R2.out⟩ ?rests15
 case hys15 => (intro w hSw; have q0 := hSw.1.cSw; have q1 := hSw.2.c0; have q2 := hSw.2.c1; have q3 := hSw.1.cRf1 H5.out; have q4 := hSw.1.cRf2 H5.out; go_simp; try (with_reducible rfl))
 simp only [Act.put, sT, sZ, sS]
 refine anyH_one (i := 16) (o := ⟨some 9, _, _, _, _, _⟩) (by kernel_rfl) rfl (fun K hK => ?_)
 rw [if_pos (by rfl)]
 go_simp
 refine hK.out _ _ ⟨I2.out, R2.out⟩ ?_
 clear hK K
 try simp only [Act.put, sT, sZ, sS]
 refine anyH_one (i := 17) (o := ⟨some 10, _, _, _, _, _⟩) (by kernel_rfl) rfl (fun K hK => ?_)
 rw [if_pos (by rfl)]
 go_simp
 refine hK.out _ _ ⟨I2.out, R2.out⟩ ?_
 clear hK K
 try simp only [Act.put, sT, sZ, sS]
 refine wpAnyH_done (by kernel_rfl) ?_ _
 cases hs : swapB L x (os, og) with
 | false =>
  have HS := Lib.hid hs
  clear hs
  go_wp2_with fail
  refine (undo_any _ b i _ E2.out.erv I2.out).mono ?_
  rintro ev w3 ⟨rfl, hI, hk⟩
  have I3 := Lib.hid hI
  have M3 := Lib.hid (M2.out.off1 hk HB.out)
  have E3 := Lib.hid (E2.out.kept hk I2.out.fault)
  have K3 := Lib.hid (K2.out.trans (US.one (m := m) (S := S) hk))
  clear hI hk
  go_wp2
  go_ret
  rw [HS.out]
  exact ⟨rfl, M3.out, K3.out, .inr ⟨by trivial, _, E3.out, I3.out⟩⟩
 | true =>
  have y1 := I2.out.cSw
  have y2 := I2.out.free 97
  have hw : IntKind.i64.wrap ((i.sw : Int) + 1) = ((i.sw + 1 : Nat) : Int) := by rw [Go.IntWalk.i64_in _ (by have := H5.out; omega)]; omega
  have I4 := Lib.hid (I2.out.sSw (i.sw + 1))
  have Kc := Lib.hid ((Kept.refl (fun j => j = b) w2).setCell 97 (.int .i64 ((i.sw + 1 : Nat) : Int)))
  have M4 := Lib.hid (M2.out.off1 Kc.out HB.out)
  have K4 := Lib.hid (K2.out.trans (US.one (m := m) (S := S) Kc.out))
  have HS := Lib.hid hs
  clear hs
  go_wp2
  go_ret
  rw [HS.out]
  exact ⟨rfl, M4.out, K4.out, .inl ⟨by trivial, I4.out⟩⟩
open Go.RowKit
theorem clone_rows (v : Value) (xs : List Rw) (w : World) (hv : SV lRow w v xs) (hl : xs.length ≤ 100000) :
  Calls Tryz.prog 107 #[v] w fun ev w' => ∃ v', ev = .returned v' ∧ OwnS lRow w.heap.size w' v' xs ∧ Below w.heap.size w w' := by
 obtain ⟨a, cap, rfl, hlc, hcm⟩ := hv.lenform
 cases a with
 | none =>
  have hx : xs = [] := by
   obtain ⟨a', cap', h1, h2, h3, h4, -⟩ := hv
   obtain ⟨rfl, -, rfl⟩ := Value.slice.inj h1
   have := h4 rfl
   exact List.eq_nil_of_length_eq_zero (by omega)
  subst hx
  obtain rfl : cap = 0 := by
   obtain ⟨a', cap', h1, h2, h3, h4, -⟩ := hv
   obtain ⟨-, -, rfl⟩ := Value.slice.inj h1
   exact h4 (Value.slice.inj h1).1.symm
  have hq : ∀ w : World, (Go.binOp BinOp.eql 50 (.slice none 0 0) (.slice none 0 0)).run Tryz.prog w = .ok (.bool true) w := fun _ => rfl
  go_enter Tryz.func107, Tryz.ntmps107
  go_wp2
  go_ret
  exact ⟨_, rfl, OwnS.nil lRow _ _, Below.refl _ _⟩
 | some y =>
  have hq : ∀ w : World, (Go.binOp BinOp.eql 50 (.slice (some y) xs.length cap) (.slice none 0 0)).run Tryz.prog w = .ok (.bool false) w := fun _ => rfl
  have hb := alloc_below0 w (.cells #[] lRow.ty)
  have O1 := Lib.hid (show OwnS lRow w.heap.size (w.alloc (.cells #[] lRow.ty)) (.slice (some ⟨w.heap.size, 0, none⟩) 0 0) ([] : List Rw) from OwnS.lit lRow w.heap.size w w.heap.size rfl [] (Nat.le_refl _) (by simp))
  have S1 := Lib.hid (hv.below hb)
  have B1 := Lib.hid hb
  have H1 := Lib.hid (show ([] : List Rw).length + xs.length ≤ 100000 by simpa using hl)
  clear hv hl hb
  simp only [lRow] at B1
  go_enter Tryz.func107, Tryz.ntmps107
  go_wp2_with (refine wpList_appS lRow 50 Tryz.underlying50 lRow_known (by decide) (by decide) rfl (.tmp 5) (.tmp 6) rfl w.heap.size rfl rfl O1.out S1.out H1.out B1.out.size ?_; intro v6 w6 ho6 hg6; have O6 := Lib.hid ho6; have B6 := Lib.hid (B1.out.trans ((Kept.of_grown hg6).below (fun k hk => (O1.out.bounds k hk.symm).1) B1.out.size)); clear ho6 hg6)
  go_ret
  exact ⟨_, rfl, by simpa using O6.out, B6.out⟩
theorem clone_ents (v : Value) (xs : List En) (w : World) (hv : SV lEnt w v xs) (hl : xs.length ≤ 100000) :
  Calls Tryz.prog 108 #[v] w fun ev w' => ∃ v', ev = .returned v' ∧ OwnS lEnt w.heap.size w' v' xs ∧ Below w.heap.size w w' := by
 obtain ⟨a, cap, rfl, hlc, hcm⟩ := hv.lenform
 cases a with
 | none =>
  have hx : xs = [] := by
   obtain ⟨a', cap', h1, h2, h3, h4, -⟩ := hv
   obtain ⟨rfl, -, rfl⟩ := Value.slice.inj h1
   have := h4 rfl
   exact List.eq_nil_of_length_eq_zero (by omega)
  subst hx
  obtain rfl : cap = 0 := by
   obtain ⟨a', cap', h1, h2, h3, h4, -⟩ := hv
   obtain ⟨-, -, rfl⟩ := Value.slice.inj h1
   exact h4 (Value.slice.inj h1).1.symm
  have hq : ∀ w : World, (Go.binOp BinOp.eql 51 (.slice none 0 0) (.slice none 0 0)).run Tryz.prog w = .ok (.bool true) w := fun _ => rfl
  go_enter Tryz.func108, Tryz.ntmps108
  go_wp2
  go_ret
  exact ⟨_, rfl, OwnS.nil lEnt _ _, Below.refl _ _⟩
 | some y =>
  have hq : ∀ w : World, (Go.binOp BinOp.eql 51 (.slice (some y) xs.length cap) (.slice none 0 0)).run Tryz.prog w = .ok (.bool false) w := fun _ => rfl
  have hb := alloc_below0 w (.cells #[] lEnt.ty)
  have O1 := Lib.hid (show OwnS lEnt w.heap.size (w.alloc (.cells #[] lEnt.ty)) (.slice (some ⟨w.heap.size, 0, none⟩) 0 0) ([] : List En) from OwnS.lit lEnt w.heap.size w w.heap.size rfl [] (Nat.le_refl _) (by simp))
  have S1 := Lib.hid (hv.below hb)
  have B1 := Lib.hid hb
  have H1 := Lib.hid (show ([] : List En).length + xs.length ≤ 100000 by simpa using hl)
  clear hv hl hb
  simp only [lEnt] at B1
  go_enter Tryz.func108, Tryz.ntmps108
  go_wp2_with (refine wpList_appS lEnt 51 Tryz.underlying51 lEnt_known (by decide) (by decide) rfl (.tmp 5) (.tmp 6) rfl w.heap.size rfl rfl O1.out S1.out H1.out B1.out.size ?_; intro v6 w6 ho6 hg6; have O6 := Lib.hid ho6; have B6 := Lib.hid (B1.out.trans ((Kept.of_grown hg6).below (fun k hk => (O1.out.bounds k hk.symm).1) B1.out.size)); clear ho6 hg6)
  go_ret
  exact ⟨_, rfl, by simpa using O6.out, B6.out⟩
theorem clone_ints (v : Value) (xs : List Int) (w : World) (hv : SV lInt w v xs) (hl : xs.length ≤ 100000) :
  Calls Tryz.prog 61 #[v] w fun ev w' => ∃ v', ev = .returned v' ∧ OwnS lInt w.heap.size w' v' xs ∧ Below w.heap.size w w' := by
 obtain ⟨a, cap, rfl, hlc, hcm⟩ := hv.lenform
 cases a with
 | none =>
  have hx : xs = [] := by
   obtain ⟨a', cap', h1, h2, h3, h4, -⟩ := hv
   obtain ⟨rfl, -, rfl⟩ := Value.slice.inj h1
   have := h4 rfl
   exact List.eq_nil_of_length_eq_zero (by omega)
  subst hx
  obtain rfl : cap = 0 := by
   obtain ⟨a', cap', h1, h2, h3, h4, -⟩ := hv
   obtain ⟨-, -, rfl⟩ := Value.slice.inj h1
   exact h4 (Value.slice.inj h1).1.symm
  have hq : ∀ w : World, (Go.binOp BinOp.eql 39 (.slice none 0 0) (.slice none 0 0)).run Tryz.prog w = .ok (.bool true) w := fun _ => rfl
  go_enter Tryz.func61, Tryz.ntmps61
  go_wp2
  go_ret
  exact ⟨_, rfl, OwnS.nil lInt _ _, Below.refl _ _⟩
 | some y =>
  have hq : ∀ w : World, (Go.binOp BinOp.eql 39 (.slice (some y) xs.length cap) (.slice none 0 0)).run Tryz.prog w = .ok (.bool false) w := fun _ => rfl
  have hb := alloc_below0 w (.cells #[] lInt.ty)
  have O1 := Lib.hid (show OwnS lInt w.heap.size (w.alloc (.cells #[] lInt.ty)) (.slice (some ⟨w.heap.size, 0, none⟩) 0 0) ([] : List Int) from OwnS.lit lInt w.heap.size w w.heap.size rfl [] (Nat.le_refl _) (by simp))
  have S1 := Lib.hid (hv.below hb)
  have B1 := Lib.hid hb
  have H1 := Lib.hid (show ([] : List Int).length + xs.length ≤ 100000 by simpa using hl)
  clear hv hl hb
  simp only [lInt] at B1
  go_enter Tryz.func61, Tryz.ntmps61
  go_wp2_with (refine wpList_appS lInt 39 Tryz.underlying39 lInt_known (by decide) (by decide) rfl (.tmp 5) (.tmp 6) rfl w.heap.size rfl rfl O1.out S1.out H1.out B1.out.size ?_; intro v6 w6 ho6 hg6; have O6 := Lib.hid ho6; have B6 := Lib.hid (B1.out.trans ((Kept.of_grown hg6).below (fun k hk => (O1.out.bounds k hk.symm).1) B1.out.size)); clear ho6 hg6)
  go_ret
  exact ⟨_, rfl, by simpa using O6.out, B6.out⟩
open Go
section
variable {P : Program} {ops : Array Oper} {Q : Exit → Act → World → Prop} {md : Region.Mode} {S : World → Prop} {Z : List Nat}
def ButZ (P : Program) (md : Region.Mode) (ops : Array Oper) (Q : Exit → Act → World → Prop) (S : World → Prop) (Z : List Nat) : Nat → Array Bool → Act → World → Prop
 | 0, listed, a, w => Region.ready md ops listed = [] ∧ Q .normal a w
 | f + 1, listed, a, w => (Region.ready md ops listed = [] → Q .normal a w) ∧
  ∀ i ∈ Region.ready md ops listed, wpOp P ops Q i (fun a' w' => (i ∉ Z → S w') ∧ ButZ P md ops Q S Z f (listed.setIfInBounds i true) a' w') a w
theorem ButZ.plain : ∀ (f : Nat) (listed : Array Bool) (a : Act) (w : World), ButZ P md ops Q S Z f listed a w → wpAny P md ops Q f listed a w
 | 0, _, _, _, h => h
 | f + 1, _, _, _, h => ⟨h.1, fun i hi => wpOp_mono (fun a' w' k => ButZ.plain f _ a' w' k.2) (h.2 i hi)⟩
theorem ButZ.front {i : Nat} {oi : Oper} {v : Value} (hi : ops[i]? = some oi) (hsel : ∀ (j : Nat) (o : Oper) cs b, ops[j]? = some o → o.op ≠ .select cs b)
  (hQ : ∀ c a w, Q (.panic c) (a.put oi.dst v) w → Q (.panic c) a w) (hz : Z.all (fun z => Region.waitsFor md ops z i) = true) :
  ∀ (f : Nat) (listed : Array Bool) (a : Act) (w : World), Region.free md ops listed i = true → i ∈ Region.ready md ops listed → YieldsIf P ops S oi v a → S w →
   ButZ P md ops Q S Z f (listed.setIfInBounds i true) (a.put oi.dst v) w → ButZ P md ops Q S Z (f + 1) listed a w := by
 have nz : ∀ {listed : Array Bool} {j : Nat}, i ∈ Region.ready md ops listed → j ∈ Region.ready md ops listed → j ∉ Z := by
  intro listed j h1 h2 e
  obtain ⟨oz, ho, e, he, hb, hon⟩ := Region.waitsFor_spec (List.all_eq_true.1 hz j e)
  obtain ⟨-, o2, ho2, hall⟩ := mem_ready.1 h2
  rw [ho] at ho2
  obtain rfl := Option.some.inj ho2
  have h3 := hall e he hb
  rw [hon] at h3
  have h4 := getD_both (mem_ready.1 h1).1
  rw [h3] at h4
  exact absurd h4 (by decide)
 intro f
 induction f with
 | zero =>
  intro listed a w hf hr hy hS H
  refine ⟨fun h0 => absurd hr (by rw [h0]; simp), fun j hj => ?_⟩
  by_cases e : j = i
  ·subst e
   exact hy.wpOp hi hS ⟨fun _ => hS, H⟩
  ·have := ready_mono hj e
   rw [H.1] at this
   cases this
 | succ f ih =>
  intro listed a w hf hr hy hS H
  refine ⟨fun h0 => absurd hr (by rw [h0]; simp), fun j hj => ?_⟩
  by_cases e : j = i
  ·subst e
   exact hy.wpOp hi hS ⟨fun _ => hS, H⟩
  ·obtain ⟨hun, oj, hoj, hall⟩ := mem_ready.1 hj
   have hap : oi.apart ops oj = true := Region.free_spec hi hf j oj hoj e hun fun e2 he2 hb2 hon => by
    have h3 := hall e2 he2 hb2
    rw [hon, getD_both (mem_ready.1 hr).1] at h3
    exact absurd h3 (by decide)
   have hji : i ∈ Region.ready md ops (listed.setIfInBounds j true) := ready_mono hr (Ne.symm e)
   refine wpOp_mono (fun a' w' k => ?_) (wpOp_putIf hoj hap (fun cs b => hsel i oi cs b hi) (fun cs b => hsel j oj cs b hoj) hQ hy (H.2 j (ready_mono hj e)))
   obtain ⟨hy', hS', hW⟩ := k
   have hjz : j ∉ Z := nz hr hj
   refine ⟨fun _ => hS' hjz, ih _ a' w' (free_set hf) hji hy' (hS' hjz) ?_⟩
   rw [Array.setIfInBounds_comm _ _ (Ne.symm e)] at hW
   exact hW
theorem ButZ.take {i : Nat} {oi : Oper} {v : Value} {f : Nat} {listed : Array Bool} {a : Act} {w : World} (hi : ops[i]? = some oi)
  (hs : Region.noSelect ops = true) (hf : Region.free md ops listed i = true) (hr : (Region.ready md ops listed).contains i = true) (hz : Z.all (fun z => Region.waitsFor md ops z i) = true)
  (hQ : ∀ c a w, Q (.panic c) (a.put oi.dst v) w → Q (.panic c) a w) (hy : YieldsIf P ops S oi v a) (hS : S w)
  (h : ButZ P md ops Q S Z f (listed.setIfInBounds i true) (a.put oi.dst v) w) : ButZ P md ops Q S Z (f + 1) listed a w :=
 ButZ.front hi (Region.noSelect_spec hs) hQ hz f listed a w hf (by simpa using hr) hy hS h
theorem ButZ.one {i : Nat} {o : Oper} {f : Nat} {listed : Array Bool} {a : Act} {w : World} (hr : Region.ready md ops listed = [i]) (ho : ops[i]? = some o)
  (h : ∀ K' : Act → World → Prop, Shut (∀ a w, (i ∉ Z → S w) → ButZ P md ops Q S Z f (listed.setIfInBounds i true) a w → K' a w) → if Region.wanted o (yielded ops a.tmps) = true then Oper.wp P o a w K' Q else K' (a.put o.dst undef) w) :
  ButZ P md ops Q S Z (f + 1) listed a w := by
 refine ⟨fun h0 => (by rw [hr] at h0; cases h0), fun j hj => ?_⟩
 rw [hr, List.mem_singleton] at hj
 subst hj
 exact wpOp_step ho (fun K' hK => h K' (fun a w hS hW => hK a w ⟨hS, hW⟩))
theorem ButZ.done {listed : Array Bool} {a : Act} {w : World} (hr : Region.ready md ops listed = []) (h : Q .normal a w) : ∀ f, ButZ P md ops Q S Z f listed a w
 | 0 => ⟨hr, h⟩
 | _ + 1 => ⟨fun _ => h, by rw [hr]; simp⟩
theorem ButZ.region {id : Nat} {a : Act} {w : World} (S : World → Prop) (Z : List Nat) (hm : P.follows .mixedOrders = true)
  (h : ButZ P .any ops Q S Z ops.size (Array.replicate ops.size false) a w.drew) : (Code.region id ops true).wp P Q a w :=
 wp_region_any hm (ButZ.plain _ _ _ _ h)
end
open Go.RowKit
theorem RecV.parts {w : World} {sc : Sc} {rv en : Value} {d : RecD} (h : RecV w (recVal sc rv en) d) : sc = d.sc ∧ SV lRow w rv d.rows ∧ SV lEnt w en d.ents := by
 obtain ⟨rv', en', e, h1, h2⟩ := h
 unfold recVal at e
 simp only [Value.agg.injEq, Array.mk.injEq, List.cons.injEq, Value.int.injEq, Value.string.injEq, Value.bool.injEq] at e
 obtain ⟨⟨-, e0⟩, e1, e2, e3, ⟨-, e4⟩, rfl, rfl, e7, e8, ⟨-, e9⟩, ⟨-, e10⟩, ⟨-, e11⟩, e12, ⟨-, e13⟩, ⟨-, e14⟩, -⟩ := e
 refine ⟨?_, h1, h2⟩
 cases sc; cases hd : d.sc; simp_all
theorem iOwn_any (w : World) (d : RecD) (ra : Option Addr) (rn rc : Nat) (ea : Option Addr) (en ec : Nat) (hv : RecV w (recVal d.sc (.slice ra rn rc) (.slice ea en ec)) d) (h1 : d.rows.length ≤ 1000) (h2 : d.ents.length ≤ 1000) :
  Calls Tryz.prog 103 #[recVal d.sc (.slice ra rn rc) (.slice ea en ec)] w fun ev w' => ∃ rv' en', ev = .returned (recVal d.sc rv' en') ∧ OwnS lRow w.heap.size w' rv' d.rows ∧ OwnS lEnt w.heap.size w' en' d.ents ∧ Below w.heap.size w w' := by
 obtain ⟨-, sr, se⟩ := hv.parts
 obtain ⟨W0, hW0⟩ : ∃ W, W = (w.alloc (recObj d.sc (.slice ra rn rc) (.slice ea en ec))).alloc (recObj Sc.zero (.slice none 0 0) (.slice none 0 0)) := ⟨_, rfl⟩
 have b0 : Below w.heap.size w W0 := by rw [hW0]; exact (alloc_below0 _ _).trans ((alloc_below0 _ _).mono (alloc_below0 w _).size)
 have hr0 : W0.heap[w.heap.size]? = some (recObj d.sc (.slice ra rn rc) (.slice ea en ec)) := by rw [hW0]; exact blk_step (blk_new w _) (alloc_below0 _ _)
 have hz0 : W0.heap[w.heap.size + 1]? = some (recObj Sc.zero (.slice none 0 0) (.slice none 0 0)) := by rw [hW0, show w.heap.size + 1 = (w.alloc (recObj d.sc (.slice ra rn rc) (.slice ea en ec))).heap.size by simp]; exact blk_new _ _
 have B0 := Lib.hid b0
 have R0 := Lib.hid hr0
 have Z0 := Lib.hid hz0
 have N0 := Lib.hid (show W0.heap.size = w.heap.size + 2 by rw [hW0]; simp)
 have SR := Lib.hid (sr.below b0)
 have SE := Lib.hid (se.below b0)
 have HL := Lib.hid (show d.rows.length ≤ 100000 ∧ d.ents.length ≤ 100000 from ⟨by omega, by omega⟩)
 clear hv h1 h2 sr se b0 hr0 hz0
 unfold recVal
 unfold recObj Sc.zero at hW0
 dsimp only at hW0
 go_enter Tryz.func103, Tryz.ntmps103
 go_wp2_with fail
 rw [← hW0]
 clear hW0
 have BD := Lib.hid (B0.out.drew)
 have RD := Lib.hid (show W0.drew.heap[w.heap.size]? = some (recObj d.sc (.slice ra rn rc) (.slice ea en ec)) from R0.out)
 have ZD := Lib.hid (show W0.drew.heap[w.heap.size + 1]? = some (recObj Sc.zero (.slice none 0 0) (.slice none 0 0)) from Z0.out)
 have ND := Lib.hid (show W0.drew.heap.size = w.heap.size + 2 from N0.out)
 have SRD := Lib.hid (SR.out.below (Below.refl _ _).drew)
 have SED := Lib.hid (SE.out.below (Below.refl _ _).drew)
 refine ButZ.region (fun w' => w'.heap[w.heap.size]? = some (recObj d.sc (.slice ra rn rc) (.slice ea en ec))) [7, 8, 9] (by kernel_rfl) ?_
 generalize W0.drew = wd at *
 refine ButZ.take (i := 0) (oi := ⟨some 3, _, _, _, _, _⟩) (v := ?va0) rfl (by kernel_rfl) (by kernel_rfl) (by kernel_rfl) (by kernel_rfl) (fun _ _ _ h => h) (Or.inl ⟨by rfl, ?hya0⟩) RD.out ?resta0
 case hya0 => (intro w hSw; have q0 := (blk_cell hSw 5 : _ = some (Value.slice ra rn rc)); have q1 := (blk_cell hSw 6 : _ = some (Value.slice ea en ec)); go_simp; try (with_reducible rfl))
 simp only [Act.put, sT, sZ, sS]
 refine ButZ.take (i := 1) (oi := ⟨some 4, _, _, _, _, _⟩) (v := ?va1) rfl (by kernel_rfl) (by kernel_rfl) (by kernel_rfl) (by kernel_rfl) (fun _ _ _ h => h) (Or.inl ⟨by rfl, ?hya1⟩) RD.out ?resta1
 case hya1 => (intro w hSw; have q0 := (blk_cell hSw 5 : _ = some (Value.slice ra rn rc)); have q1 := (blk_cell hSw 6 : _ = some (Value.slice ea en ec)); go_simp; try (with_reducible rfl))
 simp only [Act.put, sT, sZ, sS]
 refine ButZ.take (i := 3) (oi := ⟨some 6, _, _, _, _, _⟩) (v := ?va3) rfl (by kernel_rfl) (by kernel_rfl) (by kernel_rfl) (by kernel_rfl) (fun _ _ _ h => h) (Or.inl ⟨by rfl, ?hya3⟩) RD.out ?resta3
 case hya3 => (intro w hSw; have q0 := (blk_cell hSw 5 : _ = some (Value.slice ra rn rc)); have q1 := (blk_cell hSw 6 : _ = some (Value.slice ea en ec)); go_simp; try (with_reducible rfl))
 simp only [Act.put, sT, sZ, sS]
 refine ButZ.take (i := 4) (oi := ⟨some 7, _, _, _, _, _⟩) (v := ?va4) rfl (by kernel_rfl) (by kernel_rfl) (by kernel_rfl) (by kernel_rfl) (fun _ _ _ h => h) (Or.inl ⟨by rfl, ?hya4⟩) RD.out ?resta4
 case hya4 => (intro w hSw; have q0 := (blk_cell hSw 5 : _ = some (Value.slice ra rn rc)); have q1 := (blk_cell hSw 6 : _ = some (Value.slice ea en ec)); go_simp; try (with_reducible rfl))
 simp only [Act.put, sT, sZ, sS]
 refine ButZ.one (i := 2) (o := ⟨some 5, _, _, _, _, _⟩) (by kernel_rfl) rfl (fun K hK => ?_)
 rw [if_pos (by rfl)]
 go_simp
 refine (clone_rows _ _ _ SRD.out HL.out.1).mono ?_
 rintro e2 w2 ⟨v2, rfl, ho, hs⟩
 obtain ⟨a2, c2, rfl, -, -⟩ := ho.sv.lenform
 have O2 := Lib.hid (ho.mono (b' := w.heap.size) (by have := ND.out; omega))
 have B2 := Lib.hid (BD.out.trans (hs.mono (by have := ND.out; omega)))
 have R2 := Lib.hid (blk_step RD.out hs)
 have Z2 := Lib.hid (blk_step ZD.out hs)
 have S2 := Lib.hid (SED.out.below hs)
 have N2 := Lib.hid (show w.heap.size + 2 ≤ w2.heap.size by have := hs.size; have := ND.out; omega)
 have Q2 := Lib.hid (show ∀ k, (Value.slice a2 d.rows.length c2).ownBlock = some k → w.heap.size + 2 ≤ k from fun k hk => by have := (ho.bounds k hk).1; have := ND.out; omega)
 clear ho hs
 refine hK.out _ _ (fun _ => R2.out) ?_
 clear hK K
 try simp only [Act.put, sT, sZ, sS]
 refine ButZ.take (i := 6) (oi := ⟨some 9, _, _, _, _, _⟩) (v := ?va6) rfl (by kernel_rfl) (by kernel_rfl) (by kernel_rfl) (by kernel_rfl) (fun _ _ _ h => h) (Or.inl ⟨by rfl, ?hya6⟩) R2.out ?resta6
 case hya6 => (intro w hSw; have q0 := (blk_cell hSw 5 : _ = some (Value.slice ra rn rc)); have q1 := (blk_cell hSw 6 : _ = some (Value.slice ea en ec)); go_simp; try (with_reducible rfl))
 simp only [Act.put, sT, sZ, sS]
 refine ButZ.one (i := 5) (o := ⟨some 8, _, _, _, _, _⟩) (by kernel_rfl) rfl (fun K hK => ?_)
 rw [if_pos (by rfl)]
 go_simp
 refine (clone_ents _ _ _ S2.out HL.out.2).mono ?_
 rintro e3 w3 ⟨v3, rfl, ho, hs⟩
 obtain ⟨a3, c3, rfl, -, -⟩ := ho.sv.lenform
 have P3 := Lib.hid (ho.mono (b' := w.heap.size) (by have := N2.out; omega))
 have O3 := Lib.hid (O2.out.below hs)
 have B3 := Lib.hid (B2.out.trans (hs.mono (by have := N2.out; omega)))
 have R3 := Lib.hid (blk_step R2.out hs)
 have Z3 := Lib.hid (blk_step Z2.out hs)
 have Q3 := Lib.hid (show ∀ k, (Value.slice a3 d.ents.length c3).ownBlock = some k → w.heap.size + 2 ≤ k from fun k hk => by have := (ho.bounds k hk).1; have := N2.out; omega)
 clear ho hs
 refine hK.out _ _ (fun _ => R3.out) ?_
 clear hK K
 try simp only [Act.put, sT, sZ, sS]
 refine ButZ.one (i := 7) (o := ⟨none, _, _, _, _, _⟩) (by kernel_rfl) rfl (fun K hK => ?_)
 rw [if_pos (by rfl)]
 have x5 := (blk_cell R3.out 5 : _ = some (Value.slice ra rn rc))
 have z5 := blk_free R3.out 5
 go_simp
 have R4 := Lib.hid (show (w3.setCell ⟨w.heap.size, 5, none⟩ (.slice a2 d.rows.length c2)).heap[w.heap.size]? = some (recObj d.sc (.slice a2 d.rows.length c2) (.slice ea en ec)) from blk_set R3.out 5 _)
 refine hK.out _ _ (fun h => absurd (by decide) h) ?_
 clear hK K
 try simp only [Act.put]
 have O4 := Lib.hid (O3.out.setOther (b := w.heap.size) (o := 5) (x := .slice a2 d.rows.length c2) (fun k hk => by have := Q2.out k hk; omega))
 have P4 := Lib.hid (P3.out.setOther (b := w.heap.size) (o := 5) (x := .slice a2 d.rows.length c2) (fun k hk => by have := Q3.out k hk; omega))
 have Z4 := Lib.hid (blk_off Z3.out (b := w.heap.size) (by omega) 5 (.slice a2 d.rows.length c2))
 have B4 := Lib.hid (below_set B3.out (Nat.le_refl w.heap.size) 5 (.slice a2 d.rows.length c2))
 clear x5 z5
 generalize hW4 : w3.setCell ⟨w.heap.size, 5, none⟩ (.slice a2 d.rows.length c2) = w4 at *
 clear hW4
 refine ButZ.one (i := 8) (o := ⟨some 10, _, _, _, _, _⟩) (by kernel_rfl) rfl (fun K hK => ?_)
 rw [if_pos (by rfl)]
 go_simp
 refine hK.out _ _ (fun h => absurd (by decide) h) ?_
 clear hK K
 try simp only [Act.put, sT, sZ, sS]
 refine ButZ.one (i := 9) (o := ⟨none, _, _, _, _, _⟩) (by kernel_rfl) rfl (fun K hK => ?_)
 rw [if_pos (by rfl)]
 have x6 := (blk_cell R4.out 6 : _ = some (Value.slice ea en ec))
 have z6 := blk_free R4.out 6
 go_simp
 have R5 := Lib.hid (show (w4.setCell ⟨w.heap.size, 6, none⟩ (.slice a3 d.ents.length c3)).heap[w.heap.size]? = some (recObj d.sc (.slice a2 d.rows.length c2) (.slice a3 d.ents.length c3)) from blk_set R4.out 6 _)
 refine hK.out _ _ (fun h => absurd (by decide) h) ?_
 clear hK K
 try simp only [Act.put]
 have O5 := Lib.hid (O4.out.setOther (b := w.heap.size) (o := 6) (x := .slice a3 d.ents.length c3) (fun k hk => by have := Q2.out k hk; omega))
 have P5 := Lib.hid (P4.out.setOther (b := w.heap.size) (o := 6) (x := .slice a3 d.ents.length c3) (fun k hk => by have := Q3.out k hk; omega))
 have Z5 := Lib.hid (blk_off Z4.out (b := w.heap.size) (by omega) 6 (.slice a3 d.ents.length c3))
 have B5 := Lib.hid (below_set B4.out (Nat.le_refl w.heap.size) 6 (.slice a3 d.ents.length c3))
 clear x6 z6
 generalize hW5 : w4.setCell ⟨w.heap.size, 6, none⟩ (.slice a3 d.ents.length c3) = w5 at *
 clear hW5
 refine ButZ.done (by kernel_rfl) ?_ _
 have RG := Lib.hid (rec_range R5.out)
 have TH := Lib.hid (blk_there Z5.out 15 (Nat.le_refl _))
 have LD := Lib.hid (list_laid (recCells d.sc (.slice a2 d.rows.length c2) (.slice a3 d.ents.length c3)) Z5.out rfl)
 have OT := Lib.hid (Kept.setCells (recCells d.sc (.slice a2 d.rows.length c2) (.slice a3 d.ents.length c3)) 0 w5 (Kept.refl (fun k => k = w.heap.size + 1) w5))
 have O6 := Lib.hid (O5.out.kept OT.out (fun a n c hv hs => by have := Q2.out a.block (by rw [hv]; rfl); omega))
 have P6 := Lib.hid (P5.out.kept OT.out (fun a n c hv hs => by have := Q3.out a.block (by rw [hv]; rfl); omega))
 have B6 := Lib.hid (B5.out.trans (OT.out.below (n := w.heap.size) (fun k hk => by omega) B5.out.size))
 go_wp2_with (first | (refine wpList_load_mid rfl 55 (.tmp 1) rfl w.heap.size 0 rfl (recCells d.sc (.slice a2 d.rows.length c2) (.slice a3 d.ents.length c3)) _ RG.out Tryz.underlying55 rfl recInfoS ?_) | (refine wpList_store_mid rfl 55 (.tmp 2) (.tmp 11) rfl (w.heap.size + 1) 0 (recCells d.sc (.slice a2 d.rows.length c2) (.slice a3 d.ents.length c3)).toArray rfl rfl TH.out (by kernel_rfl) (rec_one ..) ?_))
 exact bodyPost_ret (v := .agg (recCells d.sc (.slice a2 d.rows.length c2) (.slice a3 d.ents.length c3)).toArray) (results_cell1 rfl _ _ (w.heap.size + 1) (recCells d.sc (.slice a2 d.rows.length c2) (.slice a3 d.ents.length c3)) _ rfl (blk_rng LD.out) Tryz.underlying55 rfl recInfoS) rfl ⟨_, _, rfl, O6.out, P6.out, B6.out⟩
open Go.RowKit
section
variable {P : Program}
theorem wpList_store_to {ops : Array Oper} {rest : List Oper} {op : Oper} {a : Act} {w : World} {Q : Exit → Act → World → Prop} (hgd : op.guard = none) (ty : TypeId) (x y : Operand) (ho : op.op = .store ty x y)
  (b o : Nat) (cs : List Value) (hx : a.eval x = .pointer (some ⟨b, o, none⟩)) (hy : a.eval y = .agg cs.toArray)
  (ht : w.there b o cs.length) (hi : (P.info? ty).map (·.size) = some cs.length) (h1 : cs.toArray.all (·.oneCell') = true)
  (h : ∀ W, W = w.setCells b o cs → wpList P ops Q rest (a.put op.dst undef) W) : wpList P ops Q (op :: rest) a w :=
 wpList_store_mid hgd ty x y ho b o cs.toArray hx hy (by simpa using ht) (by simpa using hi) h1 (h _ rfl)
theorem wp_store_to {op : Oper} {a : Act} {w : World} {K : Act → World → Prop} {Q : Exit → Act → World → Prop} (ty : TypeId) (x y : Operand) (ho : op.op = .store ty x y)
  (b o : Nat) (cs : List Value) (hx : a.eval x = .pointer (some ⟨b, o, none⟩)) (hy : a.eval y = .agg cs.toArray)
  (ht : w.there b o cs.length) (hi : (P.info? ty).map (·.size) = some cs.length) (h1 : cs.toArray.all (·.oneCell') = true)
  (h : ∀ W, W = w.setCells b o cs → K (a.put op.dst undef) W) : op.wp P a w K Q :=
 wp_store_mid ty x y ho b o cs.toArray hx hy (by simpa using ht) (by simpa using hi) h1 (h _ rfl)
end
theorem refInfoS : (Tryz.prog.info? 48).map (·.size) = some 2 := by kernel_rfl
theorem rec_there2 {w : World} {b : Nat} {sc : Sc} {rv en : Value} (h : w.heap[b]? = some (recObj sc rv en)) : w.there b 13 2 := blk_thereN (cs := (recCells sc rv en).toArray) h 13 2 (Nat.le_refl 15)
theorem rec_set2 {w : World} {b : Nat} {d : RecD} {rv en : Value} (h : w.heap[b]? = some (recObj d.sc rv en)) : (w.setCells b 13 [.int .i64 0, .int .i64 0]).heap[b]? = some (recObj { d.sc with ns := 0, ng := 0 } rv en) := blk_set_two (cs := (recCells d.sc rv en).toArray) h 13 _ _
theorem n_there_new (w : World) (zs : Array Value) (ty : TypeId) : (w.alloc (.cells zs ty)).there w.heap.size 0 zs.size := fun j hj => by
 refine ⟨?_, World.frozen?_alloc_at _ _ _ _ rfl⟩
 rw [World.cell?_alloc_at _ _ _ _ rfl, Nat.zero_add]
 simp [hj]
def OutL (w : World) (T : Nat → Prop) (v : Value) : Prop := ∀ a n c, v = .slice (some a) n c → ¬ T a.block ∧ a.block < w.heap.size
def RecL (w : World) (T : Nat → Prop) (cs : List Value) (d : RecD) : Prop :=
 ∃ ra rn rc ea en ec, cs = recCells d.sc (.slice ra rn rc) (.slice ea en ec) ∧ RecV w (recVal d.sc (.slice ra rn rc) (.slice ea en ec)) d ∧ OutL w T (.slice ra rn rc) ∧ OutL w T (.slice ea en ec) ∧ d.rows.length ≤ 1000 ∧ d.ents.length ≤ 1000
theorem OutL.out {w : World} {T S : Nat → Prop} {v : Value} (h : OutL w T v) (hs : ∀ k, S k → T k) : Out S v := fun a n c e ht => (h a n c e).1 (hs _ ht)
theorem OutL.grow {w w' : World} {T T' : Nat → Prop} {v : Value} (h : OutL w T v) (hl : w.heap.size ≤ w'.heap.size) (hT : ∀ k, T' k → T k ∨ w.heap.size ≤ k) : OutL w' T' v := fun a n c e => by
 obtain ⟨h1, h2⟩ := h a n c e
 exact ⟨fun ht => (hT _ ht).elim h1 (fun h3 => by omega), by omega⟩
theorem RecL.grow {w w' : World} {T T' T0 : Nat → Prop} {cs : List Value} {d : RecD} (h : RecL w T cs d) (hk : Kept T0 w w') (h0 : ∀ k, T0 k → T k) (hT : ∀ k, T' k → T k ∨ w.heap.size ≤ k) : RecL w' T' cs d := by
 obtain ⟨ra, rn, rc, ea, en, ec, h1, h2, h3, h4, h5⟩ := h
 exact ⟨ra, rn, rc, ea, en, ec, h1, h2.kept hk (h3.out h0) (h4.out h0), h3.grow hk.size hT, h4.grow hk.size hT, h5⟩
theorem RecL.inn {w : World} {T S : Nat → Prop} {cs : List Value} {d : RecD} (h : RecL w T cs d) (hs : ∀ k, S k → T k) : RecIn w S cs d := by
 obtain ⟨ra, rn, rc, ea, en, ec, h1, h2, h3, h4, h5⟩ := h
 exact ⟨ra, rn, rc, ea, en, ec, h1, h2, h3.out hs, h4.out hs, h5⟩
theorem OwnS.outL {α : Type} {E : Lay α} {base : Nat} {w : World} {a : Option Addr} {n c : Nat} {xs : List α} (h : OwnS E base w (.slice a n c) xs) {T : Nat → Prop} (hT : ∀ k, T k → k < base) : OutL w T (.slice a n c) := fun x m d e => by
 obtain ⟨rfl, rfl, rfl⟩ := Value.slice.inj e
 have := h.bounds x.block rfl
 exact ⟨fun ht => by have := hT _ ht; omega, this.2⟩
theorem RecL.zero (w : World) (T : Nat → Prop) : RecL w T (recCells Sc.zero (.slice none 0 0) (.slice none 0 0)) RecD.zero :=
 ⟨none, 0, 0, none, 0, 0, rfl, RecV.zero w, (fun _ _ _ e => by cases e), (fun _ _ _ e => by cases e), by decide, by decide⟩
def RecD.bare (d : RecD) : RecD := { d with sc := { d.sc with ns := 0, ng := 0 } }
def recsM (ds : List RecD) (hd : RecD) (n k : Nat) : RecD := if k = n then hd else ((ds[k]?).map RecD.bare).getD RecD.zero
def rcLf (rc : Nat → Nat → Value) (k : Nat) : List Value := [rc k 0, rc k 1, rc k 2, rc k 3, rc k 4, rc k 5, rc k 6, rc k 7, rc k 8, rc k 9, rc k 10, rc k 11, rc k 12, rc k 13, rc k 14]
theorem rcLf_upd (rc : Nat → Nat → Value) (k : Nat) (v : Nat → Value) : rcLf (upd rc k v) k = [v 0, v 1, v 2, v 3, v 4, v 5, v 6, v 7, v 8, v 9, v 10, v 11, v 12, v 13, v 14] := by unfold rcLf; simp only [upd_at]
theorem rcLf_ne (rc : Nat → Nat → Value) {k j : Nat} (v : Nat → Value) (h : j ≠ k) : rcLf (upd rc k v) j = rcLf rc j := by unfold rcLf; simp only [upd_ne _ _ h]
def rcOf (cs : List Value) (o : Nat) : Value := cs.getD o undef
theorem rcOf_list (s : Sc) (rv en : Value) : [rcOf (recCells s rv en) 0, rcOf (recCells s rv en) 1, rcOf (recCells s rv en) 2, rcOf (recCells s rv en) 3, rcOf (recCells s rv en) 4, rcOf (recCells s rv en) 5, rcOf (recCells s rv en) 6, rcOf (recCells s rv en) 7, rcOf (recCells s rv en) 8, rcOf (recCells s rv en) 9, rcOf (recCells s rv en) 10, rcOf (recCells s rv en) 11, rcOf (recCells s rv en) 12, rcOf (recCells s rv en) 13, rcOf (recCells s rv en) 14] = recCells s rv en := rfl
theorem SV.range {α : Type} {E : Lay α} {w : World} {b off n cap : Nat} {xs : List α} (h : SV E w (.slice (some ⟨b, off, none⟩) n cap) xs) {i : Nat} {x : α} (hi : xs[i]? = some x) : w.rangeAt b (off + i * E.sz) (E.enc x) := fun j u hj => h.cellAt hi hj
structure RecsV (w : World) (T : Nat → Prop) (v : Value) (bs : List RcL) (ds : List RecD) : Prop where
 sv : SV lRec w v bs
 out : Out T v
 len : bs.length = ds.length
 lim : bs.length ≤ 1000
 each : ∀ (j : Nat) (x : RcL) (d : RecD), bs[j]? = some x → ds[j]? = some d → RecIn w T x.cells d
theorem RecsV.kept {w w' : World} {T : Nat → Prop} {v : Value} {bs : List RcL} {ds : List RecD} (h : RecsV w T v bs ds) (hk : Kept T w w') : RecsV w' T v bs ds :=
 ⟨h.sv.kept hk h.out, h.out, h.len, h.lim, fun j x d h1 h2 => (h.each j x d h1 h2).kept hk fun _ h => h⟩
theorem RecsV.low {w w' : World} {T : Nat → Prop} {v : Value} {bs : List RcL} {ds : List RecD} (h : RecsV w T v bs ds) (hk : Below w.heap.size w w') : RecsV w' T v bs ds := h.kept (Kept.of_below hk)
theorem iKeep_any (w : World) (b : Nat) (i : Ins) (T : Nat → Prop) (hT : ∀ k, T k → k < w.heap.size) (hTb : T b) (v : Value) (bs : List RcL) (ds : List RecD) (hd : RecD) (hra : Option Addr) (hrn hrc : Nat) (hea : Option Addr) (hen hec : Nat) (hi : InsAt w b i) (hz : i.rc = fun _ => rcZ) (hn : i.news ≤ 4)
  (hv : RecsV w (fun k => k = b) v bs ds) (hh : RecV w (recVal hd.sc (.slice hra hrn hrc) (.slice hea hen hec)) hd) (ho1 : Out (fun k => k = b) (.slice hra hrn hrc)) (ho2 : Out (fun k => k = b) (.slice hea hen hec)) (hl1 : hd.rows.length ≤ 1000) (hl2 : hd.ents.length ≤ 1000) :
  Calls Tryz.prog 80 #[.pointer (some ⟨b, 0, none⟩), v, recVal hd.sc (.slice hra hrn hrc) (.slice hea hen hec)] w fun ev w' => ev = .returned (.tuple #[]) ∧ Kept (fun k => k = b) w w' ∧ ∃ rc', InsAt w' b { i with rc := rc' } ∧ ∀ k, k ≤ i.news → RecL w' T (rcLf rc' k) (recsM ds hd i.news k) := by
 obtain ⟨la, lc, rfl, hlc, hcm⟩ := hv.sv.lenform
 obtain ⟨W0, hW0⟩ : ∃ W, W = w.alloc (recObj hd.sc (.slice hra hrn hrc) (.slice hea hen hec)) := ⟨_, rfl⟩
 have b0 : Below w.heap.size w W0 := by rw [hW0]; exact alloc_below0 _ _
 have h0 : W0.heap[w.heap.size]? = some (recObj hd.sc (.slice hra hrn hrc) (.slice hea hen hec)) := by rw [hW0]; exact blk_new _ _
 have I0 := Lib.hid (show InsAt W0 b { i with rc := fun _ => rcZ } by have := hi.step b0; rw [← hz]; exact this)
 have B0 := Lib.hid b0
 have H0 := Lib.hid h0
 have R0 := Lib.hid (hv.low b0)
 have HH := Lib.hid (show RecV W0 (recVal hd.sc (.slice hra hrn hrc) (.slice hea hen hec)) hd ∧ Out (fun k => k = b) (.slice hra hrn hrc) ∧ Out (fun k => k = b) (.slice hea hen hec) ∧ hd.rows.length ≤ 1000 ∧ hd.ents.length ≤ 1000 from ⟨hh.below b0, ho1, ho2, hl1, hl2⟩)
 have HN := Lib.hid hn
 have HT := Lib.hid hT
 have HTb := Lib.hid hTb
 have LC := Lib.hid hlc
 have x3 := I0.out.cNews
 obtain ⟨q, hq⟩ : ∃ q, q = min bs.length i.news := ⟨_, rfl⟩
 have Q := Lib.hid hq
 have hq2 : min ((bs.length : Nat) : Int) ((i.news : Nat) : Int) = (q : Int) := by omega
 have hq3 : (q : Int) ≤ (lc : Int) := by omega
 have hq4 : (q : Int) ≤ 4 := by omega
 clear hT hTb hi hz hn hv hh ho1 ho2 hl1 hl2 b0 h0 hq hlc hcm
 unfold recVal
 unfold recObj at hW0
 go_enter Tryz.func80, Tryz.ntmps80
 go_upto_region 1 with (fail)
 rw [← hW0]
 clear hW0
 have LA := Lib.hid (show la = none → q = 0 from fun e => by subst e; have := Q.out; by_cases h0 : bs.length = 0; · omega
                                                             ·obtain ⟨_, _, h⟩ := R0.out.sv.addr h0; cases h)
 go_cut [17, 18, 19] from 8 to 20 (fun s17 s18 s19 wc => s17 = .slice la q lc ∧ s18 = .int .i64 (q : Int) ∧ s19 = .int .i64 0 ∧ wc = W0)
 case first =>
  by_cases hm : bs.length ≤ i.news
  ·obtain rfl : q = bs.length := by have := Q.out; omega
   go_wp2_with fail
   all_goals (go_meet; case rel => exact ⟨rfl, rfl, rfl, rfl⟩)
  ·obtain rfl : q = i.news := by have := Q.out; omega
   go_wp2_with fail
   all_goals (go_meet; case rel => exact ⟨rfl, rfl, rfl, rfl⟩)
 case rest =>
  obtain ⟨rfl, rfl, rfl, rfl⟩ := hcut
  go_wp2_with fail
  go_loopg [19] q (fun g v19 wr => ∃ (k : Nat) (rc : Nat → Nat → Value), k + g = q ∧ v19 = .int .i64 (k : Int) ∧ InsAt wr b { i with rc := rc } ∧ (∀ j, j < k → RecL wr T (rcLf rc j) ((ds[j]?.map RecD.bare).getD RecD.zero)) ∧ (∀ j, k ≤ j → rcLf rc j = recCells Sc.zero (.slice none 0 0) (.slice none 0 0)) ∧ Kept (fun k => k = b) wc wr)
  case atStart => exact ⟨0, fun _ => rcZ, by omega, rfl, I0.out, (fun j hj => by omega), (fun _ _ => rfl), Kept.refl _ _⟩
  case round =>
   clear x3
   obtain ⟨k, rc, hk, rfl, hI, hR, hZ, hK⟩ := hrel
   have I1 := Lib.hid hI
   have K1 := Lib.hid hK
   have RR := Lib.hid hR
   have ZZ := Lib.hid hZ
   have G1 := Lib.hid hk
   clear hI hK hR hZ hk
   by_cases hkq : k < q
   ·obtain ⟨g, rfl⟩ : ∃ g, gk = g + 1 := ⟨gk - 1, by have := G1.out; omega⟩
    have V1 := Lib.hid (R0.out.kept K1.out)
    obtain ⟨x, hx⟩ : ∃ x, bs[k]? = some x := ⟨_, List.getElem?_eq_getElem (by have := Q.out; omega)⟩
    obtain ⟨d, hd'⟩ : ∃ d, ds[k]? = some d := ⟨_, List.getElem?_eq_getElem (by have := Q.out; have := R0.out.len; omega)⟩
    obtain ⟨lb, lo, rfl⟩ := R0.out.sv.addr (by have := Q.out; omega)
    obtain ⟨ra, rn, rc1, ea, en, ec, hc, hv, ho1, ho2, hl1, hl2⟩ := V1.out.each k x d hx hd'
    have RG := Lib.hid (show wr.rangeAt lb (lo + k * 15) (recCells d.sc (.slice ra rn rc1) (.slice ea en ec)) from hc ▸ V1.out.sv.range hx)
    have VV := Lib.hid hv
    have HL := Lib.hid (show d.rows.length ≤ 1000 ∧ d.ents.length ≤ 1000 from ⟨hl1, hl2⟩)
    have HD := Lib.hid (show ds[k]?.map RecD.bare = some d.bare by rw [hd']; rfl)
    have KQ := Lib.hid hkq
    clear hx hd' hc hv ho1 ho2 hl1 hl2
    have hkq1 : (k : Int) < (q : Int) := by have := KQ.out; omega
    have hkq2 : k < q := KQ.out
    have TH1 := Lib.hid (show (wr.alloc (.cells #[.int .i64 0, .string ⟨#[]⟩, .string ⟨#[]⟩, .bool false, .int .i64 0, .slice none 0 0, .slice none 0 0, .string ⟨#[]⟩, .string ⟨#[]⟩, .int .i64 0, .int .i64 0, .int .i64 0, .string ⟨#[]⟩, .int .i64 0, .int .i64 0] 55)).there wr.heap.size 0 15 from n_there_new wr _ _)
    have LD := Lib.hid (show ((wr.alloc (.cells #[.int .i64 0, .string ⟨#[]⟩, .string ⟨#[]⟩, .bool false, .int .i64 0, .slice none 0 0, .slice none 0 0, .string ⟨#[]⟩, .string ⟨#[]⟩, .int .i64 0, .int .i64 0, .int .i64 0, .string ⟨#[]⟩, .int .i64 0, .int .i64 0] 55)).setCells wr.heap.size 0 (recCells d.sc (.slice ra rn rc1) (.slice ea en ec))).heap[wr.heap.size]? = some (recObj d.sc (.slice ra rn rc1) (.slice ea en ec)) from list_laid (recCells d.sc (.slice ra rn rc1) (.slice ea en ec)) (blk_new wr _) rfl)
    have BW := Lib.hid (show Below wr.heap.size wr ((wr.alloc (.cells #[.int .i64 0, .string ⟨#[]⟩, .string ⟨#[]⟩, .bool false, .int .i64 0, .slice none 0 0, .slice none 0 0, .string ⟨#[]⟩, .string ⟨#[]⟩, .int .i64 0, .int .i64 0, .int .i64 0, .string ⟨#[]⟩, .int .i64 0, .int .i64 0] 55)).setCells wr.heap.size 0 (recCells d.sc (.slice ra rn rc1) (.slice ea en ec))) from below_setCells (Nat.le_refl wr.heap.size) (recCells d.sc (.slice ra rn rc1) (.slice ea en ec)) 0 _ (alloc_below0 wr _))
    go_wp2_with (first | (refine wpList_load_mid rfl 55 (.tmp 22) rfl lb (lo + k * 15) rfl (recCells d.sc (.slice ra rn rc1) (.slice ea en ec)) _ ?_ Tryz.underlying55 rfl recInfoS ?_; exact RG.out) | (refine wpList_store_to rfl 55 (.tmp 7) (.tmp 23) rfl wr.heap.size 0 (recCells d.sc (.slice ra rn rc1) (.slice ea en ec)) rfl rfl ?_ recInfoS (rec_one ..) ?_; exact TH1.out; intro W2 hW2; have L2 := Lib.hid (show W2.heap[wr.heap.size]? = some (recObj d.sc (.slice ra rn rc1) (.slice ea en ec)) by rw [hW2]; exact LD.out); have B2 := Lib.hid (show Below wr.heap.size wr W2 by rw [hW2]; exact BW.out); have T2 := Lib.hid (rec_there2 L2.out); clear hW2) | (refine wpList_store_to rfl 48 (.tmp 25) (.tmp 24) rfl wr.heap.size 13 [.int .i64 0, .int .i64 0] rfl rfl ?_ refInfoS (by kernel_rfl) ?_; exact T2.out; intro W3 hW3; have L3 := Lib.hid (show W3.heap[wr.heap.size]? = some (recObj d.bare.sc (.slice ra rn rc1) (.slice ea en ec)) by rw [hW3]; exact rec_set2 L2.out); have B3 := Lib.hid (show Below wr.heap.size wr W3 by rw [hW3]; exact below_setCells (Nat.le_refl _) _ 13 _ B2.out); clear hW3))
    try simp only [Act.put]
    go_wp2_with fail
    have I3 := Lib.hid (I1.out.step B3.out)
    have V3 := Lib.hid (show RecV W3 (recVal d.bare.sc (.slice ra rn rc1) (.slice ea en ec)) d.bare from ⟨_, _, rfl, VV.out.parts.2.1.below B3.out, VV.out.parts.2.2.below B3.out⟩)
    have K3 := Lib.hid (K1.out.trans (Kept.of_below B3.out))
    have ID := Lib.hid (I3.out.step (Below.refl _ _).drew)
    have VD := Lib.hid (V3.out.below (Below.refl _ _).drew)
    have KD := Lib.hid K3.out.drew
    have LX := Lib.hid (show W3.drew.heap[wr.heap.size]? = some (recObj d.bare.sc (.slice ra rn rc1) (.slice ea en ec)) from L3.out)
    have KW := Lib.hid ((Kept.of_below (S := fun k => k = b) B3.out).drew)
    have hk5 : (0 : Int) ≤ (k : Int) ∧ (k : Int) < 5 := by have := KQ.out; omega
    refine anyH_region (fun w' => w'.heap[wr.heap.size]? = some (recObj d.bare.sc (.slice ra rn rc1) (.slice ea en ec))) (by kernel_rfl) ?_
    generalize W3.drew = wd at *
    refine tkH (i := 0) (oi := ⟨some 26, _, _, _, _, _⟩) (v := ?va0) rfl (Or.inl ⟨by rfl, ?hya0⟩) LX.out ?resta0
    case hya0 => (intro w hSw; go_simp; try (with_reducible rfl))
    simp only [Act.put, sT, sZ, sS]
    refine tkH (i := 1) (oi := ⟨some 27, _, _, _, _, _⟩) (v := ?va1) rfl (Or.inl ⟨by rfl, ?hya1⟩) LX.out ?resta1
    case hya1 => (intro w hSw; go_simp; try (with_reducible rfl))
    simp only [Act.put, sT, sZ, sS]
    refine tkH (i := 2) (oi := ⟨some 28, _, _, _, _, _⟩) (v := .agg (recCells d.bare.sc (.slice ra rn rc1) (.slice ea en ec)).toArray) rfl (yieldsIf_load_mid (by rfl) 55 (.tmp 7) rfl wr.heap.size 0 rfl (recCells d.bare.sc (.slice ra rn rc1) (.slice ea en ec)) _ (fun w h => rec_range h) Tryz.underlying55 rfl recInfoS) LX.out ?resta2
    simp only [Act.put, sT, sZ, sS]
    refine tkH (i := 4) (oi := ⟨some 30, _, _, _, _, _⟩) (v := ?va4) rfl (Or.inl ⟨by rfl, ?hya4⟩) LX.out ?resta4
    case hya4 => (intro w hSw; go_simp; try (with_reducible rfl))
    simp only [Act.put, sT, sZ, sS]
    refine tkH (i := 5) (oi := ⟨some 31, _, _, _, _, _⟩) (v := ?va5) rfl (Or.inl ⟨by rfl, ?hya5⟩) LX.out ?resta5
    case hya5 => (intro w hSw; go_simp; try (with_reducible rfl))
    simp only [Act.put, sT, sZ, sS]
    refine anyH_one (i := 3) (o := ⟨some 29, _, _, _, _, _⟩) (by kernel_rfl) rfl (fun K hK => ?_)
    rw [if_pos (by rfl)]
    go_simp
    refine (iOwn_any _ d.bare ra rn rc1 ea en ec VD.out HL.out.1 HL.out.2).mono ?_
    rintro e4 w4 ⟨rv', en', rfl, ho1, ho2, hs⟩
    obtain ⟨a2, c2, rfl, -, -⟩ := ho1.sv.lenform
    obtain ⟨a3, c3, rfl, -, -⟩ := ho2.sv.lenform
    have O1 := Lib.hid ho1
    have O2 := Lib.hid ho2
    have I4 := Lib.hid (ID.out.step hs)
    have K4 := Lib.hid (KD.out.trans (Kept.of_below hs))
    have KW4 := Lib.hid (KW.out.trans (Kept.of_below hs))
    have LX4 := Lib.hid (blk_step LX.out hs)
    have BS4 := Lib.hid hs.size
    clear ho1 ho2 hs
    refine hK.out _ _ LX4.out ?_
    clear hK K
    try simp only [Act.put, sT, sZ, sS]
    refine anyH_one (i := 6) (o := ⟨some 32, _, _, _, _, _⟩) (by kernel_rfl) rfl (fun K hK => ?_)
    rw [if_pos (by rfl)]
    go_simp
    refine hK.out _ _ LX4.out ?_
    clear hK K
    try simp only [Act.put, sT, sZ, sS]
    refine anyH_one (i := 7) (o := ⟨none, _, _, _, _, _⟩) (by kernel_rfl) rfl (fun K hK => ?_)
    rw [if_pos (by rfl)]
    refine wp_store_to 55 (.tmp 32) (.tmp 29) rfl b (10 + k * 15) (recCells d.bare.sc (.slice a2 d.bare.rows.length c2) (.slice a3 d.bare.ents.length c3)) rfl rfl ?_ recInfoS (rec_one ..) ?_
    ·exact blk_thereN I4.out.blk (10 + k * 15) 15 (show 10 + k * 15 + 15 ≤ 100 by omega)
    intro W5 hW5
    have I5 := Lib.hid (show InsAt W5 b { i with rc := upd rc k (rcOf (recCells d.bare.sc (.slice a2 d.bare.rows.length c2) (.slice a3 d.bare.ents.length c3))) } by rw [hW5]; exact I4.out.sRec (rcOf (recCells d.bare.sc (.slice a2 d.bare.rows.length c2) (.slice a3 d.bare.ents.length c3))) (show k < 5 by omega))
    have KB := Lib.hid (show Kept (fun k => k = b) w4 W5 by rw [hW5]; exact Kept.setCells _ _ w4 (Kept.refl _ _))
    have LX5 := Lib.hid ((KB.out.block _ (Array.getElem?_eq_some_iff.1 LX4.out).1 (show ¬ wr.heap.size = b by have := I1.out.lt; omega)).trans LX4.out)
    clear hW5
    refine hK.out _ _ LX5.out ?_
    clear hK K
    try simp only [Act.put]
    refine wpAnyH_done (by kernel_rfl) ?_ _
    try simp only [Act.put]
    have hw : IntKind.i64.wrap ((k : Int) + 1) = ((k + 1 : Nat) : Int) := by rw [Go.IntWalk.i64_in _ (by omega)]; omega
    have K5 := Lib.hid (K4.out.trans KB.out)
    have KW5 := Lib.hid (KW4.out.trans KB.out)
    have LB := Lib.hid (show ∀ j, T j → j < wd.heap.size from fun j hj => by have h1 := HT.out j hj; have h2 := B0.out.size; have h3 := K1.out.size; have h4 := KW.out.size; omega)
    have RN := Lib.hid (show RecL W5 T (rcLf (upd rc k (rcOf (recCells d.bare.sc (.slice a2 d.bare.rows.length c2) (.slice a3 d.bare.ents.length c3)))) k) d.bare by
     rw [rcLf_upd]
     have nb : ∀ j, j = b → j < wd.heap.size := fun j e => by subst e; exact ID.out.lt
     refine ⟨_, _, _, _, _, _, rcOf_list _ _ _, ⟨_, _, rfl, (O1.out.kept KB.out (fun a n c e hs => by have h1 := nb _ hs; have h2 := (O1.out.bounds a.block (by rw [e]; rfl)).1; omega)).sv, (O2.out.kept KB.out (fun a n c e hs => by have h1 := nb _ hs; have h2 := (O2.out.bounds a.block (by rw [e]; rfl)).1; omega)).sv⟩, ?_, ?_, HL.out.1, HL.out.2⟩
     ·exact (O1.out.outL LB.out).grow KB.out.size (fun _ h => .inl h)
     ·exact (O2.out.outL LB.out).grow KB.out.size (fun _ h => .inl h))
    go_wp2_with fail
    go_roundg g
    case measure => omega
    case rel =>
     have g1 := G1.out
     refine ⟨k + 1, _, by omega, rfl, I5.out, fun j hj => ?_, fun j hj => ?_, K5.out⟩
     ·by_cases e : j = k
      ·subst e
       rw [HD.out]
       exact RN.out
      ·rw [rcLf_ne _ _ e]
       exact (RR.out j (by omega)).grow KW5.out (fun x e => e ▸ HTb.out) (fun _ h => .inl h)
     ·rw [rcLf_ne _ _ (by omega)]
      exact ZZ.out j (by omega)
   ·have hq5 : ¬ (k : Int) < (q : Int) := by omega
    have hkq9 : k = q := by have := G1.out; omega
    have E9 := Lib.hid hkq9
    have K9 := Lib.hid (Kept.drew K1.out)
    have b9 : b < w.heap.size := HT.out b HTb.out
    have H9 := Lib.hid (show wr.drew.heap[w.heap.size]? = some (recObj hd.sc (.slice hra hrn hrc) (.slice hea hen hec)) from (K1.out.block _ (Array.getElem?_eq_some_iff.1 H0.out).1 (by omega)).trans H0.out)
    have I9 := Lib.hid (I1.out.step (Below.refl _ _).drew)
    have V9 := Lib.hid ((HH.out.1.kept K1.out HH.out.2.1 HH.out.2.2.1).below (Below.refl _ _).drew)
    have S9 := Lib.hid (show wr.drew.cell? ⟨b, 3, none⟩ = some (.int .i64 (i.news : Int)) ∧ wr.drew.heap[w.heap.size]? = some (recObj hd.sc (.slice hra hrn hrc) (.slice hea hen hec)) from ⟨I9.out.cNews, H9.out⟩)
    have KR := Lib.hid ((Kept.refl (fun k => k = b) wr).drew)
    have hn5 : (0 : Int) ≤ (i.news : Int) ∧ (i.news : Int) < 5 := by have := HN.out; omega
    clear hkq9 b9
    go_wp2_with fail
    refine anyH_region (fun w' => w'.cell? ⟨b, 3, none⟩ = some (.int .i64 (i.news : Int)) ∧ w'.heap[w.heap.size]? = some (recObj hd.sc (.slice hra hrn hrc) (.slice hea hen hec))) (by kernel_rfl) ?_
    generalize wr.drew = wd at *
    refine tkH (i := 0) (oi := ⟨some 34, _, _, _, _, _⟩) (v := ?vz0) rfl (Or.inl ⟨by rfl, ?hyz0⟩) S9.out ?restz0
    case hyz0 => (intro w hSw; have q0 := hSw.1; go_simp; try (with_reducible rfl))
    simp only [Act.put, sT, sZ, sS]
    refine tkH (i := 1) (oi := ⟨some 35, _, _, _, _, _⟩) (v := ?vz1) rfl (Or.inl ⟨by rfl, ?hyz1⟩) S9.out ?restz1
    case hyz1 => (intro w hSw; have q0 := hSw.1; go_simp; try (with_reducible rfl))
    simp only [Act.put, sT, sZ, sS]
    refine tkH (i := 2) (oi := ⟨some 36, _, _, _, _, _⟩) (v := ?vz2) rfl (Or.inl ⟨by rfl, ?hyz2⟩) S9.out ?restz2
    case hyz2 => (intro w hSw; have q0 := hSw.1; go_simp; try (with_reducible rfl))
    simp only [Act.put, sT, sZ, sS]
    refine tkH (i := 3) (oi := ⟨some 37, _, _, _, _, _⟩) (v := ?vz3) rfl (Or.inl ⟨by rfl, ?hyz3⟩) S9.out ?restz3
    case hyz3 => (intro w hSw; have q0 := hSw.1; go_simp; try (with_reducible rfl))
    simp only [Act.put, sT, sZ, sS]
    refine tkH (i := 4) (oi := ⟨some 38, _, _, _, _, _⟩) (v := ?vz4) rfl (Or.inl ⟨by rfl, ?hyz4⟩) S9.out ?restz4
    case hyz4 => (intro w hSw; have q0 := hSw.1; go_simp; try (with_reducible rfl))
    simp only [Act.put, sT, sZ, sS]
    refine tkH (i := 5) (oi := ⟨some 39, _, _, _, _, _⟩) (v := ?vz5) rfl (Or.inl ⟨by rfl, ?hyz5⟩) S9.out ?restz5
    case hyz5 => (intro w hSw; have q0 := hSw.1; go_simp; try (with_reducible rfl))
    simp only [Act.put, sT, sZ, sS]
    refine tkH (i := 6) (oi := ⟨some 40, _, _, _, _, _⟩) (v := .agg (recCells hd.sc (.slice hra hrn hrc) (.slice hea hen hec)).toArray) rfl (yieldsIf_load_mid (by rfl) 55 (.tmp 5) rfl w.heap.size 0 rfl (recCells hd.sc (.slice hra hrn hrc) (.slice hea hen hec)) _ (fun w h => rec_range h.2) Tryz.underlying55 rfl recInfoS) S9.out ?restz6
    simp only [Act.put, sT, sZ, sS]
    refine tkH (i := 8) (oi := ⟨some 42, _, _, _, _, _⟩) (v := ?vz8) rfl (Or.inl ⟨by rfl, ?hyz8⟩) S9.out ?restz8
    case hyz8 => (intro w hSw; have q0 := hSw.1; go_simp; try (with_reducible rfl))
    simp only [Act.put, sT, sZ, sS]
    refine tkH (i := 9) (oi := ⟨some 43, _, _, _, _, _⟩) (v := ?vz9) rfl (Or.inl ⟨by rfl, ?hyz9⟩) S9.out ?restz9
    case hyz9 => (intro w hSw; have q0 := hSw.1; go_simp; try (with_reducible rfl))
    simp only [Act.put, sT, sZ, sS]
    refine anyH_one (i := 7) (o := ⟨some 41, _, _, _, _, _⟩) (by kernel_rfl) rfl (fun K hK => ?_)
    rw [if_pos (by rfl)]
    go_simp
    refine (iOwn_any _ hd hra hrn hrc hea hen hec V9.out HH.out.2.2.2.1 HH.out.2.2.2.2).mono ?_
    rintro e4 w4 ⟨rv', en', rfl, ho1, ho2, hs⟩
    obtain ⟨a2, c2, rfl, -, -⟩ := ho1.sv.lenform
    obtain ⟨a3, c3, rfl, -, -⟩ := ho2.sv.lenform
    have O1 := Lib.hid ho1
    have O2 := Lib.hid ho2
    have I4 := Lib.hid (I9.out.step hs)
    have K4 := Lib.hid (K9.out.trans (Kept.of_below hs))
    have KR4 := Lib.hid (KR.out.trans (Kept.of_below hs))
    have H4 := Lib.hid (blk_step H9.out hs)
    have S4 := Lib.hid (show (fun w' => w'.cell? ⟨b, 3, none⟩ = some (.int .i64 (i.news : Int)) ∧ w'.heap[w.heap.size]? = some (recObj hd.sc (.slice hra hrn hrc) (.slice hea hen hec))) w4 from ⟨I4.out.cNews, H4.out⟩)
    clear ho1 ho2 hs
    refine hK.out _ _ S4.out ?_
    clear hK K
    try simp only [Act.put, sT, sZ, sS]
    refine anyH_one (i := 10) (o := ⟨some 44, _, _, _, _, _⟩) (by kernel_rfl) rfl (fun K hK => ?_)
    rw [if_pos (by rfl)]
    go_simp
    refine hK.out _ _ S4.out ?_
    clear hK K
    try simp only [Act.put, sT, sZ, sS]
    refine anyH_one (i := 11) (o := ⟨none, _, _, _, _, _⟩) (by kernel_rfl) rfl (fun K hK => ?_)
    rw [if_pos (by rfl)]
    refine wp_store_to 55 (.tmp 44) (.tmp 41) rfl b (10 + i.news * 15) (recCells hd.sc (.slice a2 hd.rows.length c2) (.slice a3 hd.ents.length c3)) rfl rfl ?_ recInfoS (rec_one ..) ?_
    ·exact blk_thereN I4.out.blk (10 + i.news * 15) 15 (show 10 + i.news * 15 + 15 ≤ 100 by omega)
    intro W5 hW5
    have I5 := Lib.hid (show InsAt W5 b { i with rc := upd rc i.news (rcOf (recCells hd.sc (.slice a2 hd.rows.length c2) (.slice a3 hd.ents.length c3))) } by rw [hW5]; exact I4.out.sRec (rcOf (recCells hd.sc (.slice a2 hd.rows.length c2) (.slice a3 hd.ents.length c3))) (show i.news < 5 by omega))
    have KB := Lib.hid (show Kept (fun k => k = b) w4 W5 by rw [hW5]; exact Kept.setCells _ _ w4 (Kept.refl _ _))
    have H5 := Lib.hid ((KB.out.block _ (Array.getElem?_eq_some_iff.1 H4.out).1 (show ¬ w.heap.size = b by have := HT.out b HTb.out; omega)).trans H4.out)
    have S5 := Lib.hid (show (fun w' => w'.cell? ⟨b, 3, none⟩ = some (.int .i64 (i.news : Int)) ∧ w'.heap[w.heap.size]? = some (recObj hd.sc (.slice hra hrn hrc) (.slice hea hen hec))) W5 from ⟨I5.out.cNews, H5.out⟩)
    clear hW5
    refine hK.out _ _ S5.out ?_
    clear hK K
    try simp only [Act.put]
    refine wpAnyH_done (by kernel_rfl) ?_ _
    have LB := Lib.hid (show ∀ j, T j → j < wd.heap.size from fun j hj => by have h1 := HT.out j hj; have h2 := B0.out.size; have h3 := K1.out.size; have h4 := KR.out.size; omega)
    have RN := Lib.hid (show RecL W5 T (rcLf (upd rc i.news (rcOf (recCells hd.sc (.slice a2 hd.rows.length c2) (.slice a3 hd.ents.length c3)))) i.news) hd by
     rw [rcLf_upd]
     have nb : ∀ j, j = b → j < wd.heap.size := fun j e => by subst e; exact I9.out.lt
     refine ⟨_, _, _, _, _, _, rcOf_list _ _ _, ⟨_, _, rfl, (O1.out.kept KB.out (fun a n c e hs => by have h1 := nb _ hs; have h2 := (O1.out.bounds a.block (by rw [e]; rfl)).1; omega)).sv, (O2.out.kept KB.out (fun a n c e hs => by have h1 := nb _ hs; have h2 := (O2.out.bounds a.block (by rw [e]; rfl)).1; omega)).sv⟩, ?_, ?_, HH.out.2.2.2.1, HH.out.2.2.2.2⟩
     ·exact (O1.out.outL LB.out).grow KB.out.size (fun _ h => .inl h)
     ·exact (O2.out.outL LB.out).grow KB.out.size (fun _ h => .inl h))
    have KE := Lib.hid (KR4.out.trans KB.out)
    have KF := Lib.hid ((Kept.of_below (S := fun k => k = b) B0.out).trans (K4.out.trans KB.out))
    try simp only [Act.put]
    go_wp2
    go_end0
    refine ⟨rfl, KF.out, _, I5.out, fun j hj => ?_⟩
    by_cases e : j = i.news
    ·subst e
     have h1 : recsM ds hd i.news i.news = hd := if_pos rfl
     rw [h1]
     exact RN.out
    ·rw [rcLf_ne _ _ e]
     have h1 : recsM ds hd i.news j = ((ds[j]?).map RecD.bare).getD RecD.zero := if_neg e
     rw [h1]
     by_cases hjk : j < k
     ·exact (RR.out j hjk).grow KE.out (fun x e => e ▸ HTb.out) (fun _ h => .inl h)
     ·have h2 : ds[j]? = none := List.getElem?_eq_none (by have := Q.out; have := R0.out.len; have := E9.out; omega)
      rw [ZZ.out j (by omega), h2]
      exact RecL.zero _ _
end Go.Proofs.YtejmdmaebkdjoaaGreatDoor
