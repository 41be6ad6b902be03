/- Package mem's accesses, by contracts, with the count told: Take, Give, Free, Head. -/
import Derived.Test.YtaiaaljahnackaaMmOpsB
namespace Go.Proofs.Ytaiaaljahnackaa
open Go.RowKit

/-- the count behind an access -/
def inc (k : Int) : Int := wrap64 (k + 1)
theorem inc_at {k : Int} (h0 : 0 ≤ k) (h1 : k < 1000000000) : inc k = k + 1 := by unfold inc; exact Go.IntWalk.wrap64_in _ (by omega)
theorem RecV.kept {w w' : World} {sc : Sc} {rv en : Value} {d : RecD} {S : Nat → Prop} (h : RecV w (recVal sc rv en) d) (hk : Kept S w w') (o1 : Out S rv) (o2 : Out S en) : RecV w' (recVal sc rv en) d := by
  obtain ⟨rv', en', e, h1, h2⟩ := h
  have e' := e
  unfold recVal at e'
  simp only [Value.agg.injEq, Array.mk.injEq, List.cons.injEq] at e'
  obtain ⟨-, -, -, -, -, rfl, rfl, -⟩ := e'
  exact ⟨_, _, e, h1.kept hk o1, h2.kept hk o2⟩
theorem Out.sub {S T : Nat → Prop} {v : Value} (h : Out S v) (hs : ∀ k, T k → S k) : Out T v := fun a n c e ht => h a n c e (hs _ ht)
set_option maxRecDepth 100000 in
set_option maxHeartbeats 4000000 in
theorem access_inc (w : World) (m : MB) (S : Nat → Prop) (l : LimN) (k : Int) (ps : List Pt) (L : List Pg) (c : Ck) (h : MemAt w m S l k ps L c) :
    Calls Try.prog 30 #[.pointer (some ⟨m.mb, 0, none⟩)] w fun ev w' => ev = .returned (.tuple #[]) ∧ MemAt w' m S l (inc k) ps L c ∧ Kept (CM m) w w' := by
  have x0 := h.cN
  have M := Lib.hid h
  have fz := blk_free h.blk 0
  clear h
  go_enter Try.func30, Try.ntmps30
  go_wp2
  go_end0
  have hc := M.out.count (inc k)
  exact ⟨rfl, hc, ((Kept.refl (fun k => k = m.mb) w).setCell _ _).wide fun _ _ h => .inl h⟩
/-- it answers something -/
def SomeV (ev : Ending) : Prop := ∃ v, ev = .returned v
theorem SomeV.of (v : Value) : SomeV (.returned v) := ⟨v, rfl⟩
/-- what an access to the table may turn -/
def TM (m : MB) : Nat → Prop := fun k => k = m.mb ∨ k = m.cb ∨ k = m.kb ∨ k = m.pb
theorem TM.ms {m : MB} {S : Nat → Prop} : ∀ k, TM m k → MS m S k := fun _ h => h.elim .inl (fun h => h.elim (fun e => .inr (.inr (.inr (.inr (.inl e))))) (fun h => h.elim (fun e => .inr (.inr (.inr (.inr (.inr e))))) (fun e => .inr (.inr (.inr (.inl e))))))
set_option maxRecDepth 100000 in
set_option maxHeartbeats 4000000 in
theorem nTake_any (w : World) (m : MB) (S : Nat → Prop) (l : LimN) (k : Int) (ps : List Pt) (L : List Pg) (c : Ck) (h : MemAt w m S l k ps L c) :
    Calls Try.prog 61 #[.pointer (some ⟨m.mb, 0, none⟩)] w fun ev w' => ∃ v, ev = .returned (.tuple #[.int .i64 (takeN L : Int), v]) ∧ ErrF w' v (takeE L) ∧ MemAt w' m S l (inc k) ps (takeL L) c ∧ Kept (MS m S) w w' := by
  have M0 := Lib.hid h
  clear h
  go_enter Try.func61, Try.ntmps61
  go_wp2_with fail
  refine (access_inc _ m S l k ps L c M0.out).mono ?_
  rintro ev w1 ⟨rfl, hM, hk⟩
  have M1 := Lib.hid hM
  have K1 := Lib.hid (hk.wide fun _ _ h => CM.ms (S := S) _ h)
  have x1 := hM.cT
  clear hM hk
  go_wp2_with fail
  refine (take_any _ m.ab m.pb l.p L M1.out.tb).mono ?_
  rintro ev w2 ⟨rfl, hT, hk⟩
  have M2 := Lib.hid (M1.out.table hT hk)
  have K2 := Lib.hid (K1.out.trans (MS.tb hk))
  clear hT hk x1
  have fa := fun w => fAt_any ⟨#[116, 97, 98, 108, 101]⟩ 0 (takeE L) w
  go_wp2_with fail
  refine (fa _).mono ?_
  rintro ev w3 ⟨v, rfl, he, hs⟩
  have M3 := Lib.hid (M2.out.low hs)
  have K3 := Lib.hid (K2.out.trans (Kept.of_below hs))
  have E3 := Lib.hid he
  clear hs fa he
  go_wp2
  go_ret2
  exact ⟨v, rfl, E3.out, M3.out, K3.out⟩
set_option maxRecDepth 100000 in
set_option maxHeartbeats 4000000 in
theorem nGive_any (w : World) (m : MB) (S : Nat → Prop) (l : LimN) (k : Int) (ps : List Pt) (L : List Pg) (c : Ck) (x : Int) (h : MemAt w m S l k ps L c) :
    Calls Try.prog 44 #[.pointer (some ⟨m.mb, 0, none⟩), .int .i64 x] w fun ev w' => SomeV ev ∧ MemAt w' m S l (inc k) ps (giveL L x) c ∧ Kept (MS m S) w w' := by
  have M0 := Lib.hid h
  clear h
  go_enter Try.func44, Try.ntmps44
  go_wp2_with fail
  refine (access_inc _ m S l k ps L c M0.out).mono ?_
  rintro ev w1 ⟨rfl, hM, hk⟩
  have M1 := Lib.hid hM
  have K1 := Lib.hid (hk.wide fun _ _ h => CM.ms (S := S) _ h)
  have x1 := hM.cT
  clear hM hk
  go_wp2_with fail
  refine (give_any _ m.ab m.pb l.p L x M1.out.tb).mono ?_
  rintro ev w2 ⟨rfl, hT, hk⟩
  have M2 := Lib.hid (M1.out.table hT hk)
  have K2 := Lib.hid (K1.out.trans (MS.tb hk))
  clear hT hk x1
  have fa := fun w => fAt_any ⟨#[116, 97, 98, 108, 101]⟩ x (codeT L x) w
  go_wp2_with fail
  refine (fa _).mono ?_
  rintro ev w3 ⟨v, rfl, -, hs⟩
  have M3 := Lib.hid (M2.out.low hs)
  have K3 := Lib.hid (K2.out.trans (Kept.of_below hs))
  clear hs fa
  go_wp2
  go_ret
  exact ⟨SomeV.of _, M3.out, K3.out⟩
set_option maxRecDepth 100000 in
set_option maxHeartbeats 4000000 in
theorem nFree_any (w : World) (m : MB) (S : Nat → Prop) (l : LimN) (k : Int) (ps : List Pt) (L : List Pg) (c : Ck) (x y : Int) (h : MemAt w m S l k ps L c) :
    Calls Try.prog 43 #[.pointer (some ⟨m.mb, 0, none⟩), refV x y] w fun ev w' => SomeV ev ∧ ∃ S', MemAt w' m S' l (inc k) (freeM l.s ps x y) L c ∧ Kept (MS m S) w w' ∧ (∀ j, MS m S' j → MS m S j ∨ w.heap.size ≤ j) := by
  have b0 := alloc_below0 w (.cells #[.int .i64 x, .int .i64 y] 34)
  have M0 := Lib.hid (h.low b0)
  have B0 := Lib.hid b0
  have R0 := Lib.hid (RfB.mk (blk_new w (.cells #[.int .i64 x, .int .i64 y] 34)))
  have LTW := Lib.hid (show ∀ j, MS m S j → j < w.heap.size from h.lt)
  clear h b0
  have fc := fun w' h => ar_free_any m.aa S l.s l.c ps x y w' h
  unfold refV at fc ⊢
  go_enter Try.func43, Try.ntmps43
  go_wp2_with fail
  refine (access_inc _ m S l k ps L c M0.out).mono ?_
  rintro ev w1 ⟨rfl, hM, hk⟩
  have M1 := Lib.hid hM
  have K1 := Lib.hid ((Kept.of_below B0.out).trans (hk.wide fun _ _ h => CM.ms (S := S) _ h))
  have R1 := Lib.hid (R0.out.keep hk (M0.out.offC R0.out.blk (by decide) (by decide)))
  clear hM hk
  go_wp2_with fail
  have MD := Lib.hid (M1.out.low (Below.refl _ _).drew)
  have RD := Lib.hid (R1.out.step (Below.refl _ _).drew)
  have KD := Lib.hid K1.out.drew
  have SD := Lib.hid (show (fun w' => w'.cell? ⟨m.mb, 7, none⟩ = some (.pointer (some m.aa)) ∧ RfB w' w.heap.size x y) w1.drew from ⟨MD.out.cA, RD.out⟩)
  refine anyH_region (fun w' => w'.cell? ⟨m.mb, 7, none⟩ = some (.pointer (some m.aa)) ∧ RfB w' w.heap.size x y) (by kernel_rfl) ?_
  refine wpAnyH_take (i := 0) (oi := ⟨some 12, _, _, _, _, _⟩) (v := ?va0) rfl (by kernel_rfl) (by kernel_rfl) (by kernel_rfl) (fun _ _ _ h => h) (Or.inl ⟨by rfl, ?hya0⟩) SD.out ?resta0
  case hya0 => (intro w hSw; have q0 := hSw.1; have q1 := hSw.2.c0; have q2 := hSw.2.c1; go_simp; try (with_reducible rfl))
  simp only [Act.put, List.setIfInBounds_toArray, List.set_cons_zero, List.set_cons_succ]
  refine wpAnyH_take (i := 1) (oi := ⟨some 13, _, _, _, _, _⟩) (v := ?va1) rfl (by kernel_rfl) (by kernel_rfl) (by kernel_rfl) (fun _ _ _ h => h) (Or.inl ⟨by rfl, ?hya1⟩) SD.out ?resta1
  case hya1 => (intro w hSw; have q0 := hSw.1; have q1 := hSw.2.c0; have q2 := hSw.2.c1; go_simp; try (with_reducible rfl))
  simp only [Act.put, List.setIfInBounds_toArray, List.set_cons_zero, List.set_cons_succ]
  refine wpAnyH_take (i := 2) (oi := ⟨some 14, _, _, _, _, _⟩) (v := ?va2) rfl (by kernel_rfl) (by kernel_rfl) (by kernel_rfl) (fun _ _ _ h => h) (Or.inl ⟨by rfl, ?hya2⟩) SD.out ?resta2
  case hya2 => (intro w hSw; have q0 := hSw.1; have q1 := hSw.2.c0; have q2 := hSw.2.c1; go_simp; try (with_reducible rfl))
  simp only [Act.put, List.setIfInBounds_toArray, List.set_cons_zero, List.set_cons_succ]
  refine wpAnyH_take (i := 3) (oi := ⟨some 15, _, _, _, _, _⟩) (v := ?va3) rfl (by kernel_rfl) (by kernel_rfl) (by kernel_rfl) (fun _ _ _ h => h) (Or.inl ⟨by rfl, ?hya3⟩) SD.out ?resta3
  case hya3 => (intro w hSw; have q0 := hSw.1; have q1 := hSw.2.c0; have q2 := hSw.2.c1; go_simp; try (with_reducible rfl))
  simp only [Act.put, List.setIfInBounds_toArray, List.set_cons_zero, List.set_cons_succ]
  refine wpAnyH_take (i := 4) (oi := ⟨some 16, _, _, _, _, _⟩) (v := ?va4) rfl (by kernel_rfl) (by kernel_rfl) (by kernel_rfl) (fun _ _ _ h => h) (Or.inl ⟨by rfl, ?hya4⟩) SD.out ?resta4
  case hya4 => (intro w hSw; have q0 := hSw.1; have q1 := hSw.2.c0; have q2 := hSw.2.c1; go_simp; try (with_reducible rfl))
  simp only [Act.put, List.setIfInBounds_toArray, List.set_cons_zero, List.set_cons_succ]
  refine wpAnyH_take (i := 5) (oi := ⟨some 17, _, _, _, _, _⟩) (v := ?va5) rfl (by kernel_rfl) (by kernel_rfl) (by kernel_rfl) (fun _ _ _ h => h) (Or.inl ⟨by rfl, ?hya5⟩) SD.out ?resta5
  case hya5 => (intro w hSw; have q0 := hSw.1; have q1 := hSw.2.c0; have q2 := hSw.2.c1; go_simp; try (with_reducible rfl))
  simp only [Act.put, List.setIfInBounds_toArray, List.set_cons_zero, List.set_cons_succ]
  refine wpAnyH_take (i := 6) (oi := ⟨some 18, _, _, _, _, _⟩) (v := ?va6) rfl (by kernel_rfl) (by kernel_rfl) (by kernel_rfl) (fun _ _ _ h => h) (Or.inl ⟨by rfl, ?hya6⟩) SD.out ?resta6
  case hya6 => (intro w hSw; have q0 := hSw.1; have q1 := hSw.2.c0; have q2 := hSw.2.c1; go_simp; try (with_reducible rfl))
  simp only [Act.put, List.setIfInBounds_toArray, List.set_cons_zero, List.set_cons_succ]
  refine anyH_one (i := 7) (o := ⟨some 19, _, _, _, _, _⟩) (by kernel_rfl) rfl (fun K hK => ?_)
  rw [if_pos (by rfl)]
  go_simp
  refine (fc _ MD.out.ar).mono ?_
  rintro e2 w2 ⟨S', rfl, hI, hk, hS⟩
  have M2 := Lib.hid (MD.out.arena hI hk hS)
  have K2 := Lib.hid (KD.out.trans (MS.ar (m := m) hk))
  have R2 := Lib.hid (RD.out.keep hk (fun hs => Nat.lt_irrefl _ (LTW.out _ (.inr (.inl hs)))))
  have F2 := Lib.hid (show ∀ j, S' j → S j ∨ w.heap.size ≤ j from fun j hj => (hS j hj).imp id (fun h => by have := KD.out.size; omega))
  clear hI hk hS
  have S2 := Lib.hid (show (fun w' => w'.cell? ⟨m.mb, 7, none⟩ = some (.pointer (some m.aa)) ∧ RfB w' w.heap.size x y) w2 from ⟨M2.out.cA, R2.out⟩)
  refine hK.out _ _ S2.out ?_
  clear hK K
  try simp only [Act.put, List.setIfInBounds_toArray, List.set_cons_zero, List.set_cons_succ]
  refine anyH_one (i := 8) (o := ⟨some 20, _, _, _, _, _⟩) (by kernel_rfl) rfl (fun K hK => ?_)
  rw [if_pos (by rfl)]
  go_simp
  refine (fAt_any ⟨#[97, 114, 101, 110, 97]⟩ x (codeM l.s ps x y) _).mono ?_
  rintro e3 w3 ⟨v, rfl, -, hs⟩
  have M3 := Lib.hid (M2.out.low hs)
  have K3 := Lib.hid (K2.out.trans (Kept.of_below hs))
  have R3 := Lib.hid (R2.out.step hs)
  clear hs
  have S3 := Lib.hid (show (fun w' => w'.cell? ⟨m.mb, 7, none⟩ = some (.pointer (some m.aa)) ∧ RfB w' w.heap.size x y) w3 from ⟨M3.out.cA, R3.out⟩)
  refine hK.out _ _ S3.out ?_
  clear hK K
  try simp only [Act.put, List.setIfInBounds_toArray, List.set_cons_zero, List.set_cons_succ]
  refine anyH_one (i := 9) (o := ⟨some 4, _, _, _, _, _⟩) (by kernel_rfl) rfl (fun K hK => ?_)
  rw [if_pos (by rfl)]
  go_simp
  refine hK.out _ _ S3.out ?_
  clear hK K
  try simp only [Act.put, List.setIfInBounds_toArray, List.set_cons_zero, List.set_cons_succ]
  refine wpAnyH_done (by kernel_rfl) ?_ _
  go_wp2
  go_ret
  refine ⟨SomeV.of _, S', M3.out, K3.out, fun j hj => ?_⟩
  rcases hj with h | h | h
  · exact .inl (.inl h)
  · exact (F2.out j h).imp (fun h => .inr (.inl h)) id
  · exact .inl (.inr (.inr h))
end Go.Proofs.Ytaiaaljahnackaa
