/- Package mem's Chain, fault.At, by contracts. -/
import Derived.Test.YtejmdmaebkdjoaaGreatDoorMmNew
import Derived.Deep.CutRange
import Derived.Test.YtejmdmaebkdjoaaGreatDoorArLast
import Derived.Test.YtejmdmaebkdjoaaGreatDoorEpLies
namespace Go.Proofs.YtejmdmaebkdjoaaGreatDoor
set_option linter.unusedVariables false
set_option linter.unusedSimpArgs false
set_option maxRecDepth 100000
set_option maxHeartbeats 4000000
open Go.RowKit
theorem rngB {w : World} {b : Nat} {cs : Array Value} {T : TypeId} (h : w.heap[b]? = some (.cells cs T (0, 0))) (l : List Value) (hl : cs.toList = l) : w.rangeAt b 0 l := fun j u hj => by
 subst hl
 rw [Nat.zero_add, blk_cell h]
 simpa using hj
open Go.RowKit
structure RcL where
 sc : Sc
 ra : Option Addr
 rn : Nat
 rc : Nat
 ea : Option Addr
 en : Nat
 ec : Nat
def RcL.cells (d : RcL) : List Value := recCells d.sc (.slice d.ra d.rn d.rc) (.slice d.ea d.en d.ec)
theorem RcL.cells_one (d : RcL) : ∀ u ∈ d.cells, u.oneCell' = true := fun u h => by
 simp only [RcL.cells, recCells, List.mem_cons, List.not_mem_nil, or_false] at h
 rcases h with h | h | h | h | h | h | h | h | h | h | h | h | h | h | h <;> subst h <;> rfl
def lRec : Lay RcL := ⟨55, 15, RcL.cells, fun _ => rfl, RcL.cells_one⟩
theorem lRec_known : lRec.known 192 := known_of recInfo rfl rfl
/-! ### fault.At -/
def ErrF (w : World) (v : Value) (e : Int) : Prop :=
 (e = 0 ∧ v = .nilIface) ∨ (e ≠ 0 ∧ (v = .iface 65 (.int .i64 e) ∨ ∃ b pl x, v = .iface 198 (.pointer (some ⟨b, 0, none⟩)) ∧ w.heap[b]? = some (.cells #[.string pl, .int .i64 x, .iface 65 (.int .i64 e)] 200 (0, 0))))
theorem ErrF.below {w w' : World} {v : Value} {e : Int} (h : ErrF w v e) (hs : Below w.heap.size w w') : ErrF w' v e := by
 rcases h with h | ⟨h0, h | ⟨b, pl, x, h1, h2⟩⟩
 ·exact .inl h
 ·exact .inr ⟨h0, .inl h⟩
 ·exact .inr ⟨h0, .inr ⟨b, pl, x, h1, blk_step h2 hs⟩⟩
theorem fAt_nil (pl : ByteArray) (x : Int) (w : World) : Calls Tryz.prog 66 #[.string pl, .int .i64 x, .nilIface] w fun ev w' => ev = .returned .nilIface ∧ Below w.heap.size w w' := by
 go_enter Tryz.func66, Tryz.ntmps66
 go_wp2
 go_ret
 exact ⟨rfl, Below.refl _ _⟩
theorem fAt_code (pl : ByteArray) (x e : Int) (w : World) (he : e ≠ 0) : Calls Tryz.prog 66 #[.string pl, .int .i64 x, .iface 65 (.int .i64 e)] w fun ev w' => ∃ v, ev = .returned v ∧ ErrF w' v e ∧ Below w.heap.size w w' := by
 have B := Lib.hid (alloc_below0 w (.cells #[.string pl, .int .i64 x, .iface 65 (.int .i64 e)] 200))
 have K := Lib.hid (blk_new w (.cells #[.string pl, .int .i64 x, .iface 65 (.int .i64 e)] 200))
 have E := Lib.hid he
 clear he
 go_enter Tryz.func66, Tryz.ntmps66
 go_wp2
 go_ret
 exact ⟨_, rfl, .inr ⟨E.out, .inr ⟨_, _, _, rfl, K.out⟩⟩, B.out⟩
theorem fAt_any (pl : ByteArray) (x e : Int) (w : World) : Calls Tryz.prog 66 #[.string pl, .int .i64 x, errV e] w fun ev w' => ∃ v, ev = .returned v ∧ ErrF w' v e ∧ Below w.heap.size w w' := by
 by_cases h : e = 0
 ·rw [errV_at h]
  refine (fAt_nil pl x w).mono ?_
  rintro ev w' ⟨rfl, hs⟩
  exact ⟨_, rfl, .inl ⟨h, rfl⟩, hs⟩
 ·rw [errV_of h]
  exact fAt_code pl x e w h
/-! ### Chain -/
def chGo (n : Nat) (ps : List Pt) : Nat → Int → Int → List (Sc × Rf) × Int
 | 0, x, y => if x = 0 ∧ y = 0 then ([], 0) else ([], 10)
 | f + 1, x, y => if x = 0 ∧ y = 0 then ([], 0) else if codeM n ps x y ≠ 0 then ([], codeM n ps x y) else
  if (chGo n ps f (loadM n ps x y).sc.ns (loadM n ps x y).sc.ng).2 = 0 then (((loadM n ps x y).sc, (x, y)) :: (chGo n ps f (loadM n ps x y).sc.ns (loadM n ps x y).sc.ng).1, 0) else ([], (chGo n ps f (loadM n ps x y).sc.ns (loadM n ps x y).sc.ng).2)
def joinC (acc : List (Sc × Rf)) (r : List (Sc × Rf) × Int) : List (Sc × Rf) × Int := if r.2 = 0 then (acc ++ r.1, 0) else ([], r.2)
def chM (n : Nat) (ps : List Pt) (L : List Pg) (p : Int) : List (Sc × Rf) × Int := if codeT L p ≠ 0 then ([], codeT L p) else chGo n ps n (headT L p).1 (headT L p).2
theorem chGo_end (n : Nat) (ps : List Pt) (f : Nat) : chGo n ps f 0 0 = ([], 0) := by cases f <;> rfl
theorem chGo_zero {n : Nat} {ps : List Pt} {x y : Int} (h : ¬ (x = 0 ∧ y = 0)) : chGo n ps 0 x y = ([], 10) := by unfold chGo; rw [if_neg h]
theorem chGo_err {n : Nat} {ps : List Pt} {f : Nat} {x y : Int} (h : ¬ (x = 0 ∧ y = 0)) (hc : codeM n ps x y ≠ 0) : chGo n ps (f + 1) x y = ([], codeM n ps x y) := by unfold chGo; rw [if_neg h, if_pos hc]
theorem joinC_step {n : Nat} {ps : List Pt} {f : Nat} {x y : Int} (acc : List (Sc × Rf)) (h : ¬ (x = 0 ∧ y = 0)) (hc : codeM n ps x y = 0) : joinC acc (chGo n ps (f + 1) x y) = joinC (acc ++ [((loadM n ps x y).sc, (x, y))]) (chGo n ps f (loadM n ps x y).sc.ns (loadM n ps x y).sc.ng) := by
 rw [chGo, if_neg h, if_neg (by rw [hc]; decide)]
 unfold joinC
 by_cases e : (chGo n ps f (loadM n ps x y).sc.ns (loadM n ps x y).sc.ng).2 = 0
 ·rw [if_pos e, if_pos rfl, if_pos e, List.append_assoc]; rfl
 ·rw [if_neg e, if_neg e, if_neg e]
theorem joinC_nil (r : List (Sc × Rf) × Int) (h : r.2 ≠ 0 → r.1 = []) : joinC [] r = r := by
 unfold joinC
 obtain ⟨a, b⟩ := r
 by_cases e : b = 0
 ·subst e; simp
 ·simp only [if_neg e]; rw [← h e]
theorem chGo_no (n : Nat) (ps : List Pt) (f : Nat) (x y : Int) : (chGo n ps f x y).2 ≠ 0 → (chGo n ps f x y).1 = [] := by
 cases f with
 | zero => unfold chGo; split <;> simp
 | succ f => rw [chGo]; split; · simp
             split; · simp
             split <;> simp
def ChainOf (w : World) (r : List (Sc × Rf) × Int) (ev : Ending) (w' : World) : Prop :=
 ∃ v1 v2 v3 ds, ev = .returned (.tuple #[v1, v2, v3]) ∧ ds.map RcL.sc = r.1.map Prod.fst ∧ OwnS lRec w.heap.size w' v1 ds ∧ OwnS lRef w.heap.size w' v2 (r.1.map Prod.snd) ∧ ErrF w' v3 r.2 ∧ Below w.heap.size w w'
theorem ChainOf.none {w w' : World} {r : List (Sc × Rf) × Int} {v3 : Value} (h1 : r.1 = []) (h2 : ErrF w' v3 r.2) (hs : Below w.heap.size w w') : ChainOf w r (.returned (.tuple #[.slice none 0 0, .slice none 0 0, v3])) w' :=
 ⟨_, _, _, [], rfl, by rw [h1]; rfl, OwnS.nil _ _ _, by rw [h1]; exact OwnS.nil _ _ _, h2, hs⟩
def LoadedAt (sc : Sc) (e : Int) (w : World) (s t : Value) (w' : World) : Prop :=
 ∃ b ra rn rc ea en ec, s = .pointer (some ⟨b, 0, none⟩) ∧ t = errV e ∧ w'.heap[b]? = some (recObj sc (.slice ra rn rc) (.slice ea en ec)) ∧ w.heap.size ≤ b ∧ Below w.heap.size w w'
theorem chain_any (w : World) (m : MB) (S : Nat → Prop) (l : LimN) (k : Int) (ps : List Pt) (L : List Pg) (c : Ck) (p : Int) (h : MemAt w m S l k ps L c) :
  Calls Tryz.prog 23 #[.pointer (some ⟨m.mb, 0, none⟩), .int .i64 p] w (ChainOf w (chM l.s ps L p)) := by
 have M0 := Lib.hid h
 have OKL := Lib.hid h.ok
 have x0 := h.cT
 clear h
 go_enter Tryz.func23, Tryz.ntmps23
 go_wp2_with fail
 refine (head_any _ m.ab m.pb l.p L p M0.out.tb).mono ?_
 rintro ev w1 ⟨rfl, hs⟩
 have M1 := Lib.hid (M0.out.low hs)
 have B1 := Lib.hid hs
 clear hs x0
 by_cases hc : codeT L p = 0
 ·have HM := Lib.hid (show chM l.s ps L p = chGo l.s ps l.s (headT L p).1 (headT L p).2 by unfold chM; rw [if_neg (by rw [hc]; decide)])
  rw [errV_at hc]
  generalize (headT L p).1 = x at *
  generalize (headT L p).2 = y at *
  unfold refV
  have b2 := alloc_below0 w1 (.cells #[.int .i64 x, .int .i64 y] 48)
  have M2 := Lib.hid (M1.out.low b2)
  have B2 := Lib.hid (B1.out.trans (b2.mono B1.out.size))
  have R2 := Lib.hid (RfB.mk (blk_new w1 (.cells #[.int .i64 x, .int .i64 y] 48)))
  clear b2
  go_wp2_with fail
  go_loopg [9, 10] l.s (fun g v9 v10 wr => ∃ acc ds rs x y, (acc.length + g = l.s ∧ rs = acc.map Prod.snd) ∧ ds.map RcL.sc = acc.map Prod.fst ∧ OwnS lRec (w1.heap.size + 1) wr v9 ds ∧ OwnS lRef (w1.heap.size + 1) wr v10 rs ∧ RfB wr w1.heap.size x y ∧ MemAt wr m S l k ps L c ∧ chM l.s ps L p = joinC acc (chGo l.s ps g x y) ∧ Below w.heap.size w wr)
  case atStart => exact ⟨[], [], [], x, y, by simp, rfl, OwnS.nil _ _ _, OwnS.nil _ _ _, R2.out, M2.out, by rw [HM.out, joinC_nil _ (chGo_no _ _ _ _ _)], B2.out⟩
  case round =>
   clear HM R2 M2 B2
   obtain ⟨acc, ds, rs, x, y, hl, hm, o1, o2, hR, hM, hE, hB⟩ := hrel
   have c0 := hR.c0
   have c1 := hR.c1
   have R3 := Lib.hid hR
   have M3 := Lib.hid hM
   have B3 := Lib.hid hB
   have E3 := Lib.hid hE
   have HL := Lib.hid hl
   have HMp := Lib.hid hm
   have O1 := Lib.hid o1
   have O2 := Lib.hid o2
   have s1 := hM.cS
   obtain ⟨a9, c9, rfl, -, -⟩ := o1.sv.lenform
   obtain ⟨a10, c10, rfl, -, -⟩ := o2.sv.lenform
   clear hR hM hE hB hm o1 o2 hl
   by_cases hz : x = 0 ∧ y = 0
   ·obtain ⟨rfl, rfl⟩ := hz
    go_wp2
    refine bodyPost_ret (results_tmp3 rfl _ _ _) rfl ?_
    have e := E3.out
    rw [chGo_end] at e
    have e2 : chM l.s ps L p = (acc, 0) := by rw [e]; unfold joinC; simp
    rw [e2]
    have h1 := B1.out.size
    exact ⟨_, _, _, ds, rfl, HMp.out, O1.out.mono (by omega), by have o := O2.out.mono (b' := w.heap.size) (by omega); rw [HL.out.2] at o; simpa [HL.out.2] using o, .inl ⟨rfl, rfl⟩, B3.out⟩
   ·have HZ := Lib.hid hz
    go_upto_region 8 with (fail)
    go_cut [32] from 30 to 66 (fun s32 wc => s32 = .bool true ∧ wc = wr)
    case first =>
     go_wp2
     all_goals (go_meet; case rel => exact ⟨rfl, rfl⟩)
    case rest =>
     obtain ⟨rfl, hwc⟩ := hcut
     subst hwc
     have hdl : ds.length = acc.length := by have := congrArg List.length HMp.out; simpa using this
     have hl := HL.out.1
     cases gk with
     | zero =>
      have h9 : l.s ≤ ds.length := by omega
      clear hl hdl
      go_wp2
      refine bodyPost_ret (results_tmp3 rfl _ _ _) rfl ?_
      have e := E3.out
      rw [chGo_zero HZ.out] at e
      have e2 : chM l.s ps L p = ([], 10) := by rw [e]; unfold joinC; simp
      rw [e2]
      exact ChainOf.none rfl (.inr ⟨by decide, .inl rfl⟩) B3.out
     | succ g =>
      have h9 : ¬ l.s ≤ ds.length := by omega
      clear hl hdl
      have cA := M3.out.cA
      have fc := fun w' h => load_any m.aa S l.s l.c ps x y w' h
      unfold refV at fc
      go_upto_region 11 with (fail)
      go_cut [11, 12] from 30 to 66 (fun s11 s12 w' => LoadedAt (loadM l.s ps x y).sc (codeM l.s ps x y) wc s11 s12 w')
      case first =>
       go_wp2_with fail
       have HS := Lib.hid (show ∀ w', Below wc.heap.size wc w' → (fun w' => w'.cell? ⟨m.mb, 7, none⟩ = some (.pointer (some m.aa)) ∧ w'.cell? ⟨w1.heap.size, 0, none⟩ = some (.int .i64 x) ∧ w'.cell? ⟨w1.heap.size, 1, none⟩ = some (.int .i64 y)) w' from fun w' hb => ⟨cell_step cA hb, cell_step c0 hb, cell_step c1 hb⟩)
       refine AnyBut.region (fun w' => w'.cell? ⟨m.mb, 7, none⟩ = some (.pointer (some m.aa)) ∧ w'.cell? ⟨w1.heap.size, 0, none⟩ = some (.int .i64 x) ∧ w'.cell? ⟨w1.heap.size, 1, none⟩ = some (.int .i64 y)) 11 (by kernel_rfl) ?_
       refine tkB (i := 0) (oi := ⟨some 43, _, _, _, _, none⟩) (v := ?va0) rfl (Or.inl ⟨by rfl, ?hya0⟩) (HS.out _ (Below.refl _ _).drew) ?resta0
       case hya0 => (intro w hSw; go_simp; try (with_reducible rfl))
       simp only [Act.put, sT, sZ, sS]
       refine tkB (i := 1) (oi := ⟨some 44, _, _, _, _, none⟩) (v := ?va1) rfl (Or.inl ⟨by rfl, ?hya1⟩) (HS.out _ (Below.refl _ _).drew) ?resta1
       case hya1 => (intro w hSw; go_simp; try (with_reducible rfl))
       simp only [Act.put, sT, sZ, sS]
       refine tkB (i := 2) (oi := ⟨some 45, _, _, _, _, none⟩) (v := ?va2) rfl (Or.inl ⟨by rfl, ?hya2⟩) (HS.out _ (Below.refl _ _).drew) ?resta2
       case hya2 => (intro w hSw; go_simp; try (with_reducible rfl))
       simp only [Act.put, sT, sZ, sS]
       refine tkB (i := 3) (oi := ⟨some 46, _, _, _, _, none⟩) (v := ?va3) rfl (Or.inl ⟨by rfl, ?hya3⟩) (HS.out _ (Below.refl _ _).drew) ?resta3
       case hya3 => (intro w hSw; go_simp; try (with_reducible rfl))
       simp only [Act.put, sT, sZ, sS]
       refine tkB (i := 4) (oi := ⟨some 47, _, _, _, _, none⟩) (v := ?va4) rfl (Or.inl ⟨by rfl, ?hya4⟩) (HS.out _ (Below.refl _ _).drew) ?resta4
       case hya4 => (intro w hSw; go_simp; try (with_reducible rfl))
       simp only [Act.put, sT, sZ, sS]
       refine AnyBut.two (i := 5) (j := 9) (o := ⟨some 48, _, _, _, _, none⟩) (u := ⟨some 11, _, _, _, _, none⟩) (by kernel_rfl) rfl rfl (fun K hK => ?_) (fun K hK => ?_)
       ·go_simp
        refine (fc _ (M3.out.ar.low (Below.refl _ _).drew)).mono ?_
        rintro e2 w2 ⟨rv, en, rfl, o1, o2, hs⟩
        obtain ⟨ra, rc, rfl, -, -⟩ := o1.sv.lenform
        obtain ⟨ea, ec, rfl, -, -⟩ := o2.sv.lenform
        generalize (loadM l.s ps x y).rows.length = nr at *
        generalize (loadM l.s ps x y).ents.length = ne at *
        have BX := Lib.hid (((Below.refl wc.heap.size wc).drew).trans (hs.mono ((Below.refl wc.heap.size wc).drew).size))
        clear hs o1 o2
        refine hK.out _ _ (fun _ => HS.out _ BX.out) ?_
        clear hK K
        try simp only [Act.put, sT, sZ, sS]
        refine tkB (i := 6) (oi := ⟨some 42, _, _, _, _, none⟩) (v := ?vb6) rfl (Or.inl ⟨by rfl, ?hyb6⟩) (HS.out _ BX.out) ?restb6
        case hyb6 => (intro w hSw; go_simp; try (with_reducible rfl))
        simp only [Act.put, sT, sZ, sS]
        refine tkB (i := 7) (oi := ⟨some 49, _, _, _, _, none⟩) (v := ?vb7) rfl (Or.inl ⟨by rfl, ?hyb7⟩) (HS.out _ BX.out) ?restb7
        case hyb7 => (intro w hSw; go_simp; try (with_reducible rfl))
        simp only [Act.put, sT, sZ, sS]
        refine tkB (i := 8) (oi := ⟨some 50, _, _, _, _, none⟩) (v := ?vb8) rfl (Or.inl ⟨by rfl, ?hyb8⟩) (HS.out _ BX.out) ?restb8
        case hyb8 => (intro w hSw; go_simp; try (with_reducible rfl))
        simp only [Act.put, sT, sZ, sS]
        have b9 := BX.out.trans ((alloc_below0 w2 (recObj Sc.zero (.slice none 0 0) (.slice none 0 0))).mono BX.out.size)
        have k9 := blk_new w2 (recObj Sc.zero (.slice none 0 0) (.slice none 0 0))
        have B9 := Lib.hid b9
        have K9 := Lib.hid k9
        clear b9 k9
        refine AnyBut.one (i := 9) (o := ⟨some 11, _, _, _, _, none⟩) (by kernel_rfl) rfl (fun K hK => ?_)
        go_simp
        refine hK.out _ _ (fun _ => HS.out _ B9.out) ?_
        clear hK K
        try simp only [Act.put, sT, sZ, sS]
        have B10 := Lib.hid (below_setCells (b := w2.heap.size) (show wc.heap.size ≤ w2.heap.size by have := BX.out.size; omega) (recCells (loadM l.s ps x y).sc (.slice ra nr rc) (.slice ea ne ec)) 0 _ B9.out)
        have K10 := Lib.hid (show _ = some (recObj (loadM l.s ps x y).sc (.slice ra nr rc) (.slice ea ne ec)) from list_laid (recCells (loadM l.s ps x y).sc (.slice ra nr rc) (.slice ea ne ec)) K9.out rfl)
        refine AnyBut.one (i := 10) (o := ⟨none, _, _, _, _, none⟩) (by kernel_rfl) rfl (fun K hK => ?_)
        rw [if_pos (by rfl)]
        refine wp_store_mid 55 (.tmp 11) (.tmp 49) rfl w2.heap.size 0 (recCells (loadM l.s ps x y).sc (.slice ra nr rc) (.slice ea ne ec)).toArray rfl rfl (blk_there K9.out 15 (Nat.le_refl _)) (by kernel_rfl) (rec_one ..) ?_
        refine hK.out _ _ (fun _ => HS.out _ B10.out) ?_
        clear hK K
        try simp only [Act.put]
        refine AnyBut.one (i := 11) (o := ⟨some 12, _, _, _, _, none⟩) (by kernel_rfl) rfl (fun K hK => ?_)
        go_simp
        refine hK.out _ _ (fun h => absurd rfl h) ?_
        clear hK K
        try simp only [Act.put, sT, sZ, sS]
        refine AnyBut.done (by kernel_rfl) ?_ _
        go_wp2
        go_meet
        case rel => exact ⟨_, _, _, _, _, _, _, rfl, rfl, K10.out, (by have := BX.out.size; omega), B10.out⟩
       ·have k8 := Lib.hid (show (wc.drew.alloc (recObj Sc.zero (.slice none 0 0) (.slice none 0 0))).heap[wc.heap.size]? = some (recObj Sc.zero (.slice none 0 0) (.slice none 0 0)) from blk_new wc.drew (recObj Sc.zero (.slice none 0 0) (.slice none 0 0)))
        have b8 := Lib.hid ((Below.refl wc.heap.size wc).drew.alloc (Nat.le_refl _) (recObj Sc.zero (.slice none 0 0) (.slice none 0 0)))
        go_simp
        refine hK.out _ _ (fun _ => HS.out _ b8.out) ?_
        clear hK K
        try simp only [Act.put, sT, sZ, sS]
        refine AnyBut.one (i := 5) (o := ⟨some 48, _, _, _, _, none⟩) (by kernel_rfl) rfl (fun K hK => ?_)
        go_simp
        refine (fc _ (M3.out.ar.low b8.out)).mono ?_
        rintro e2 w2 ⟨rv, en, rfl, o1, o2, hs⟩
        obtain ⟨ra, rc, rfl, -, -⟩ := o1.sv.lenform
        obtain ⟨ea, ec, rfl, -, -⟩ := o2.sv.lenform
        generalize (loadM l.s ps x y).rows.length = nr at *
        generalize (loadM l.s ps x y).ents.length = ne at *
        have BX := Lib.hid (b8.out.trans (hs.mono b8.out.size))
        have K9 := Lib.hid (blk_step k8.out hs)
        clear hs o1 o2
        refine hK.out _ _ (fun _ => HS.out _ BX.out) ?_
        clear hK K
        try simp only [Act.put, sT, sZ, sS]
        refine tkB (i := 6) (oi := ⟨some 42, _, _, _, _, none⟩) (v := ?vc6) rfl (Or.inl ⟨by rfl, ?hyc6⟩) (HS.out _ BX.out) ?restc6
        case hyc6 => (intro w hSw; go_simp; try (with_reducible rfl))
        simp only [Act.put, sT, sZ, sS]
        refine tkB (i := 7) (oi := ⟨some 49, _, _, _, _, none⟩) (v := ?vc7) rfl (Or.inl ⟨by rfl, ?hyc7⟩) (HS.out _ BX.out) ?restc7
        case hyc7 => (intro w hSw; go_simp; try (with_reducible rfl))
        simp only [Act.put, sT, sZ, sS]
        refine tkB (i := 8) (oi := ⟨some 50, _, _, _, _, none⟩) (v := ?vc8) rfl (Or.inl ⟨by rfl, ?hyc8⟩) (HS.out _ BX.out) ?restc8
        case hyc8 => (intro w hSw; go_simp; try (with_reducible rfl))
        simp only [Act.put, sT, sZ, sS]
        have B10 := Lib.hid (below_setCells (b := wc.heap.size) (show wc.heap.size ≤ wc.heap.size by exact Nat.le_refl _) (recCells (loadM l.s ps x y).sc (.slice ra nr rc) (.slice ea ne ec)) 0 _ BX.out)
        have K10 := Lib.hid (show _ = some (recObj (loadM l.s ps x y).sc (.slice ra nr rc) (.slice ea ne ec)) from list_laid (recCells (loadM l.s ps x y).sc (.slice ra nr rc) (.slice ea ne ec)) K9.out rfl)
        refine AnyBut.one (i := 10) (o := ⟨none, _, _, _, _, none⟩) (by kernel_rfl) rfl (fun K hK => ?_)
        rw [if_pos (by rfl)]
        refine wp_store_mid 55 (.tmp 11) (.tmp 49) rfl wc.heap.size 0 (recCells (loadM l.s ps x y).sc (.slice ra nr rc) (.slice ea ne ec)).toArray rfl rfl (blk_there K9.out 15 (Nat.le_refl _)) (by kernel_rfl) (rec_one ..) ?_
        refine hK.out _ _ (fun _ => HS.out _ B10.out) ?_
        clear hK K
        try simp only [Act.put]
        refine AnyBut.one (i := 11) (o := ⟨some 12, _, _, _, _, none⟩) (by kernel_rfl) rfl (fun K hK => ?_)
        go_simp
        refine hK.out _ _ (fun h => absurd rfl h) ?_
        clear hK K
        try simp only [Act.put, sT, sZ, sS]
        refine AnyBut.done (by kernel_rfl) ?_ _
        go_wp2
        go_meet
        case rel => exact ⟨_, _, _, _, _, _, _, rfl, rfl, K10.out, (Nat.le_refl _), B10.out⟩
      case rest =>
       obtain ⟨b, ra, nr, rc, ea, ne, ec, rfl, rfl, hb, hlb, hs⟩ := hcut
       have M4 := Lib.hid (M3.out.low hs)
       have B4 := Lib.hid (B3.out.trans (hs.mono B3.out.size))
       have R4 := Lib.hid (R3.out.step hs)
       have O14 := Lib.hid (O1.out.below hs)
       have O24 := Lib.hid (O2.out.below hs)
       have K4 := Lib.hid hb
       have HB := Lib.hid hlb
       have BO := Lib.hid O1.out.bounds
       have BP := Lib.hid O2.out.bounds
       clear hb hlb hs c0 c1 s1 cA fc
       have c0 := R4.out.c0
       have c1 := R4.out.c1
       by_cases hcd : codeM l.s ps x y = 0
       ·rw [errV_at hcd]
        have HC := Lib.hid hcd
        clear hcd
        have EJ := Lib.hid (joinC_step acc HZ.out HC.out (f := g))
        generalize (loadM l.s ps x y).sc = sc at *
        have hrng : wc.rangeAt b 0 [.int .i64 sc.kind, .string sc.low, .string sc.high, .bool sc.unb, .int .i64 sc.right, .slice ra nr rc, .slice ea ne ec, .string sc.key, .string sc.value, .int .i64 sc.page, .int .i64 sc.hp, .int .i64 sc.hl, .string sc.hk, .int .i64 sc.ns, .int .i64 sc.ng] := rngB K4.out _ rfl
        have bz := alloc_below0 wc (.cells #[.int .i64 sc.kind, .string sc.low, .string sc.high, .bool sc.unb, .int .i64 sc.right, .slice ra nr rc, .slice ea ne ec, .string sc.key, .string sc.value, .int .i64 sc.page, .int .i64 sc.hp, .int .i64 sc.hl, .string sc.hk, .int .i64 sc.ns, .int .i64 sc.ng] 55)
        have SR := Lib.hid (show OwnS lRec 0 (wc.alloc (.cells #[.int .i64 sc.kind, .string sc.low, .string sc.high, .bool sc.unb, .int .i64 sc.right, .slice ra nr rc, .slice ea ne ec, .string sc.key, .string sc.value, .int .i64 sc.page, .int .i64 sc.hp, .int .i64 sc.hl, .string sc.hk, .int .i64 sc.ns, .int .i64 sc.ng] 55)) (.slice (some ⟨wc.heap.size, 0, none⟩) 1 1) [(⟨sc, ra, nr, rc, ea, ne, ec⟩ : RcL)] from OwnS.lit lRec 0 wc wc.heap.size rfl [(⟨sc, ra, nr, rc, ea, ne, ec⟩ : RcL)] (Nat.zero_le _) (by unfold maxLen; simp))
        have M5 := Lib.hid (M4.out.low bz)
        have B5 := Lib.hid (B4.out.trans (bz.mono B4.out.size))
        have R5 := Lib.hid (R4.out.step bz)
        have O15 := Lib.hid (O14.out.below bz)
        have O25 := Lib.hid (O24.out.below bz)
        have K5 := Lib.hid (blk_step K4.out bz)
        clear bz
        have h15 : ds.length + 1 ≤ 100000 := by have := OKL.out.s2; have := HL.out.1; have h9 : ds.length = acc.length := (by have := congrArg List.length HMp.out; simpa using this); omega
        have H15 := Lib.hid h15
        have Z5 := Lib.hid (show w1.heap.size + 1 ≤ (wc.alloc (.cells #[.int .i64 sc.kind, .string sc.low, .string sc.high, .bool sc.unb, .int .i64 sc.right, .slice ra nr rc, .slice ea ne ec, .string sc.key, .string sc.value, .int .i64 sc.page, .int .i64 sc.hp, .int .i64 sc.hl, .string sc.hk, .int .i64 sc.ns, .int .i64 sc.ng] 55)).heap.size by have := R5.out.lt; omega)
        have H16 := Lib.hid (show rs.length + 1 ≤ 100000 by have h1 := H15.out; have h2 := HL.out.2; have h3 : ds.length = acc.length := (by have := congrArg List.length HMp.out; simpa using this); rw [h2, List.length_map]; omega)
        clear h15
        go_wp2_with (first | (refine wpList_load_mid rfl 55 (.tmp 11) rfl b 0 rfl _ _ hrng Tryz.underlying55 rfl (by kernel_rfl) ?_) | (refine wpList_appS lRec 49 Tryz.underlying49 lRec_known (by decide) (by decide) rfl (.tmp 57) (.tmp 59) rfl (w1.heap.size + 1) rfl rfl O15.out SR.out.sv (by have := H15.out; simpa using this) Z5.out ?_; intro v6 w6 ho6 hg6; (have M6 := Lib.hid (M5.out.keep (Kept.of_grown hg6) (fun k hk hs => by have h1 := M0.out.lt k hk; have h2 := (O15.out.bounds k hs.symm).1; have h3 := B1.out.size; omega))); (have R6 := Lib.hid (R5.out.keep (Kept.of_grown hg6) (fun hs => by have h2 := (O15.out.bounds _ hs.symm).1; omega))); (have O26 := Lib.hid (O25.out.kept (Kept.of_grown hg6) (fun a n c hv hs => (O15.out.neB O25.out (by decide)) a n c hv hs.symm))); (have K6 := Lib.hid ((hg6.block b (Array.getElem?_eq_some_iff.1 K5.out).1 (fun hs => by have h2 := (BO.out b hs.symm).2; have h3 := HB.out; omega)).trans K5.out)); (have B6 := Lib.hid (ep_grown_below B5.out (O15.out.mono (b' := w.heap.size) (by have := B1.out.size; omega)) hg6 B5.out.size)); (have O16 := Lib.hid ho6); clear c0 c1; have c0 := R6.out.c0; have c1 := R6.out.c1; clear ho6 hg6; have b7 := alloc_below0 w6 (.cells #[.int .i64 x, .int .i64 y] 48); have M7 := Lib.hid (M6.out.low b7); have R7 := Lib.hid (R6.out.step b7); have O17 := Lib.hid (O16.out.below b7); have O27 := Lib.hid (O26.out.below b7); have K7 := Lib.hid (blk_step K6.out b7); have B7 := Lib.hid (B6.out.trans (b7.mono B6.out.size)); have SX := Lib.hid (show OwnS lRef 0 (w6.alloc (.cells #[.int .i64 x, .int .i64 y] 48)) (.slice (some ⟨w6.heap.size, 0, none⟩) 1 1) [((x, y) : Rf)] from OwnS.lit lRef 0 w6 w6.heap.size rfl [(x, y)] (Nat.zero_le _) (by unfold maxLen; simp)); clear b7) | (refine wpList_appS lRef 66 Tryz.underlying66 lRef_known (by decide) (by decide) rfl (.tmp 61) (.tmp 63) rfl (w1.heap.size + 1) rfl rfl O27.out SX.out.sv (by have := H16.out; simpa using this) (by have := R7.out.lt; omega) ?_; intro v8 w8 ho8 hg8; (have M8 := Lib.hid (M7.out.keep (Kept.of_grown hg8) (fun k hk hs => by have h1 := M0.out.lt k hk; have h2 := (O27.out.bounds k hs.symm).1; have h3 := B1.out.size; omega))); (have R8 := Lib.hid (R7.out.keep (Kept.of_grown hg8) (fun hs => by have h2 := (O27.out.bounds _ hs.symm).1; omega))); (have O18 := Lib.hid (O17.out.kept (Kept.of_grown hg8) (fun a n c hv hs => (O27.out.neB O17.out (by decide)) a n c hv hs.symm))); (have K8 := Lib.hid ((hg8.block b (Array.getElem?_eq_some_iff.1 K7.out).1 (fun hs => by have h2 := (BP.out b hs.symm).2; have h3 := HB.out; omega)).trans K7.out)); (have B8 := Lib.hid (ep_grown_below B7.out (O27.out.mono (b' := w.heap.size) (by have := B1.out.size; omega)) hg8 B7.out.size)); (have O28 := Lib.hid ho8); clear ho8 hg8 c0 c1; (have e0 : w8.cell? ⟨b, 13, none⟩ = some (.int .i64 sc.ns) := blk_cell K8.out 13); (have e1 : w8.cell? ⟨b, 14, none⟩ = some (.int .i64 sc.ng) := blk_cell K8.out 14); obtain ⟨f0, f1, f2, f3, f4⟩ := two_facts R8.out.blk (.int .i64 sc.ns) (.int .i64 sc.ng); (have R9 := Lib.hid f4); clear f4))
        go_roundg g
        case measure => omega
        case rel =>
         have hK : Kept (fun k => k = w1.heap.size) w8 ((w8.setCell ⟨w1.heap.size, 0, none⟩ (.int .i64 sc.ns)).setCell ⟨w1.heap.size, 1, none⟩ (.int .i64 sc.ng)) := ((Kept.refl _ w8).setCell _ _).setCell _ _
         have h1 := B1.out.size
         refine ⟨acc ++ [(sc, (x, y))], ds ++ [⟨sc, ra, nr, rc, ea, ne, ec⟩], rs ++ [(x, y)], sc.ns, sc.ng, ⟨?_, ?_⟩, ?_, ?_, ?_, ⟨R9.out⟩, ?_, ?_, ?_⟩
         ·have := HL.out.1; rw [List.length_append]; simp only [List.length_cons, List.length_nil]; omega
         ·rw [HL.out.2, List.map_append]; rfl
         ·rw [List.map_append, List.map_append, HMp.out]; rfl
         ·exact O18.out.kept hK (fun a n c hv hs => by have := (O18.out.bounds a.block (by rw [hv]; rfl)).1; omega)
         ·exact O28.out.kept hK (fun a n c hv hs => by have := (O28.out.bounds a.block (by rw [hv]; rfl)).1; omega)
         ·exact M8.out.keep hK (fun k hk hs => by have := M0.out.lt k hk; omega)
         ·rw [E3.out, EJ.out]
         ·exact below_set (below_set B8.out h1 _ _) h1 _ _
       ·rw [errV_of hcd]
        have HC := Lib.hid hcd
        have fa := fun w => fAt_code ⟨#[97, 114, 101, 110, 97]⟩ x (codeM l.s ps x y) w hcd
        clear hcd
        go_wp2_with fail
        refine (fa _).mono ?_
        rintro ev w5 ⟨v, rfl, he, hs⟩
        obtain ⟨vt, vv, hv⟩ : ∃ x y, v = .iface x y := by
         rcases he with ⟨h, -⟩ | ⟨-, h | ⟨b, pl, z, h, -⟩⟩
         ·exact absurd h HC.out
         ·exact ⟨_, _, h⟩
         ·exact ⟨_, _, h⟩
        have E5 := Lib.hid he
        have B5 := Lib.hid (B4.out.trans (hs.mono B4.out.size))
        subst hv
        clear he hs fa
        go_wp2
        refine bodyPost_ret (results_tmp3 rfl _ _ _) rfl ?_
        have e := E3.out
        rw [chGo_err HZ.out HC.out] at e
        have e2 : chM l.s ps L p = ([], codeM l.s ps x y) := by rw [e]; unfold joinC; simp only [if_neg HC.out]
        rw [e2]
        exact ChainOf.none rfl E5.out B5.out
 ·have HM := Lib.hid (show chM l.s ps L p = ([], codeT L p) by unfold chM; rw [if_pos hc])
  have HC := Lib.hid hc
  rw [errV_of hc]
  generalize headT L p = hh at *
  obtain ⟨hx, hy⟩ := hh
  unfold refV
  have b2 := alloc_below0 w1 (.cells #[.int .i64 hx, .int .i64 hy] 48)
  have B2 := Lib.hid (B1.out.trans (b2.mono B1.out.size))
  have fc := fun w => fAt_code ⟨#[116, 97, 98, 108, 101]⟩ p (codeT L p) w hc
  clear b2 hc
  go_wp2_with fail
  refine (fc _).mono ?_
  rintro ev w3 ⟨v, rfl, he, hs⟩
  obtain ⟨x, y, hv⟩ : ∃ x y, v = .iface x y := by
   rcases he with ⟨h, -⟩ | ⟨-, h | ⟨b, pl, z, h, -⟩⟩
   ·exact absurd h HC.out
   ·exact ⟨_, _, h⟩
   ·exact ⟨_, _, h⟩
  have E3 := Lib.hid he
  have B3 := Lib.hid (B2.out.trans (hs.mono B2.out.size))
  subst hv
  clear he hs fc
  go_wp2
  refine bodyPost_ret (results_tmp3 rfl _ _ _) rfl ?_
  rw [HM.out]
  exact ChainOf.none rfl E3.out B3.out
end Go.Proofs.YtejmdmaebkdjoaaGreatDoor
