/- Package install's made, by contract, for any Make. -/
import Derived.Test.YtejmdmaebkdjoaaGreatDoorNsKeep
import Derived.Defers
import Derived.Recover
namespace Go.Proofs.YtejmdmaebkdjoaaGreatDoor
set_option linter.unusedVariables false
set_option linter.unusedSimpArgs false
set_option maxRecDepth 100000
set_option maxHeartbeats 4000000
open Go.RowKit Go.Extern.Stop Go.Stop Go.Extern
variable {A B : Array Value → Prop}
def BlkAt (A : Array Value → Prop) (w : World) (k : Nat) : Prop := ∃ cs, A cs ∧ w.heap[k]? = some (.cells cs 3 (0, 0))
theorem BlkAt.lt {A : Array Value → Prop} {w : World} {k : Nat} (h : BlkAt A w k) : k < w.heap.size := by obtain ⟨cs, -, h⟩ := h; exact (Array.getElem?_eq_some_iff.1 h).1
theorem BlkAt.kept {A : Array Value → Prop} {S : Nat → Prop} {w w' : World} {k : Nat} (h : BlkAt A w k) (hk : Kept S w w') (hs : ¬ S k) : BlkAt A w' k := by
 have hl := h.lt
 obtain ⟨cs, h0, h⟩ := h
 exact ⟨cs, h0, (hk.block k hl hs).trans h⟩
theorem BlkAt.low {A : Array Value → Prop} {w w' : World} {k : Nat} (h : BlkAt A w k) (hb : Below w.heap.size w w') : BlkAt A w' k := h.kept (Kept.of_below (S := fun _ => False) hb) (fun h => h)
def MadeP (A B : Array Value → Prop) (w1 : World) (C Z : Nat → Prop) (ds : List RecD) (hd : RecD) (ev : Ending) (w2 : World) : Prop :=
 ∃ la ln lc ra rn rc ea en ec bs, ev = .returned (.tuple #[.slice la ln lc, recVal hd.sc (.slice ra rn rc) (.slice ea en ec)]) ∧ RecsV w2 (fun k => k < w1.heap.size) (.slice la ln lc) bs ds ∧ RecV w2 (recVal hd.sc (.slice ra rn rc) (.slice ea en ec)) hd ∧
  Out (fun k => k < w1.heap.size) (.slice ra rn rc) ∧ Out (fun k => k < w1.heap.size) (.slice ea en ec) ∧ hd.rows.length ≤ 1000 ∧ hd.ents.length ≤ 1000 ∧ Kept C w1 w2 ∧ ∀ k, Z k → BlkAt A w1 k → BlkAt B w2 k
def MadeQ (A B : Array Value → Prop) (w : World) (C Z : Nat → Prop) (ds : List RecD) (hd : RecD) (ev : Ending) (w2 : World) : Prop :=
 ∃ la ln lc ra rn rc ea en ec bs, ev = .returned (.tuple #[.slice la ln lc, recVal hd.sc (.slice ra rn rc) (.slice ea en ec), .bool true]) ∧ RecsV w2 (fun k => k < w.heap.size) (.slice la ln lc) bs ds ∧ RecV w2 (recVal hd.sc (.slice ra rn rc) (.slice ea en ec)) hd ∧
  Out (fun k => k < w.heap.size) (.slice ra rn rc) ∧ Out (fun k => k < w.heap.size) (.slice ea en ec) ∧ hd.rows.length ≤ 1000 ∧ hd.ents.length ≤ 1000 ∧ Kept C w w2 ∧ ∀ k, Z k → BlkAt A w k → BlkAt B w2 k
theorem kept_new {S D : Nat → Prop} {w w1 w2 : World} (h : Kept S w w1) (k : Kept D w1 w2) (hD : ∀ j, D j → w.heap.size ≤ j) : Kept S w w2 :=
 ⟨k.os.trans h.os, k.tape.trans h.tape, k.output.trans h.output, Nat.le_trans h.size k.size, fun j hj hn => (k.block j (Nat.lt_of_lt_of_le hj h.size) (fun hd => by have := hD j hd; omega)).trans (h.block j hj hn)⟩
theorem RecsV.subT {w : World} {T S : Nat → Prop} {v : Value} {bs : List RcL} {ds : List RecD} (h : RecsV w T v bs ds) (hs : ∀ k, S k → T k) : RecsV w S v bs ds := ⟨h.sv, h.out.sub hs, h.len, h.lim, fun j x d h1 h2 => (h.each j x d h1 h2).sub hs⟩
theorem results_made {fn : Func} (h : fn.results = #[.cell 4 49, .cell 5 55, .cell 6 4]) (tmps : Array Value) (w : World) (b : Nat) (la : Option Addr) (ln lc : Nat) (sc : Sc) (ra : Option Addr) (rn rc : Nat) (ea : Option Addr) (en ec : Nat) (h4 : tmps.getD 4 undef = .pointer (some ⟨b, 0, none⟩)) (h5 : tmps.getD 5 undef = .pointer (some ⟨b + 1, 0, none⟩)) (h6 : tmps.getD 6 undef = .pointer (some ⟨b + 1 + 1, 0, none⟩))
  (x0 : w.cell? ⟨b, 0, none⟩ = some (.slice la ln lc)) (hb : w.heap[b + 1]? = some (recObj sc (.slice ra rn rc) (.slice ea en ec))) (x2 : w.cell? ⟨b + 1 + 1, 0, none⟩ = some (.bool true)) :
  (results fn tmps).run Tryz.prog w = .ok (.tuple #[.slice la ln lc, recVal sc (.slice ra rn rc) (.slice ea en ec), .bool true]) w := by
 have e4 : tmps[4]?.getD undef = .pointer (some ⟨b, 0, none⟩) := by simpa using h4
 have e5 : tmps[5]?.getD undef = .pointer (some ⟨b + 1, 0, none⟩) := by simpa using h5
 have e6 : tmps[6]?.getD undef = .pointer (some ⟨b + 1 + 1, 0, none⟩) := by simpa using h6
 have c0 : w.cell? ⟨b + 1, 0, none⟩ = some (.int .i64 sc.kind) := blk_cell hb 0
 have c1 : w.cell? ⟨b + 1, 1, none⟩ = some (.string sc.low) := blk_cell hb 1
 have c2 : w.cell? ⟨b + 1, 2, none⟩ = some (.string sc.high) := blk_cell hb 2
 have c3 : w.cell? ⟨b + 1, 3, none⟩ = some (.bool sc.unb) := blk_cell hb 3
 have c4 : w.cell? ⟨b + 1, 4, none⟩ = some (.int .i64 sc.right) := blk_cell hb 4
 have c5 : w.cell? ⟨b + 1, 5, none⟩ = some (.slice ra rn rc) := blk_cell hb 5
 have c6 : w.cell? ⟨b + 1, 6, none⟩ = some (.slice ea en ec) := blk_cell hb 6
 have c7 : w.cell? ⟨b + 1, 7, none⟩ = some (.string sc.key) := blk_cell hb 7
 have c8 : w.cell? ⟨b + 1, 8, none⟩ = some (.string sc.value) := blk_cell hb 8
 have c9 : w.cell? ⟨b + 1, 9, none⟩ = some (.int .i64 sc.page) := blk_cell hb 9
 have c10 : w.cell? ⟨b + 1, 10, none⟩ = some (.int .i64 sc.hp) := blk_cell hb 10
 have c11 : w.cell? ⟨b + 1, 11, none⟩ = some (.int .i64 sc.hl) := blk_cell hb 11
 have c12 : w.cell? ⟨b + 1, 12, none⟩ = some (.string sc.hk) := blk_cell hb 12
 have c13 : w.cell? ⟨b + 1, 13, none⟩ = some (.int .i64 sc.ns) := blk_cell hb 13
 have c14 : w.cell? ⟨b + 1, 14, none⟩ = some (.int .i64 sc.ng) := blk_cell hb 14
 simp only [results, h]
 simp [e4, e5, e6, asAddr, x0, x2, go_sem, c0, c1, c2, c3, c4, c5, c6, c7, c8, c9, c10, c11, c12, c13, c14]
 rfl
theorem made_idle (p q r : Addr) (w : World) :
  CallsD Tryz.prog 102 #[.pointer (some p), .pointer (some q), .pointer (some r)] .returning w fun e u' w' => e = .returned (.tuple #[]) ∧ u' = .returning ∧ w' = w := by
 refine callsD_of_wpS Tryz.func102 rfl fun c₀ cs hu => ?_
 apply wpS_seq
 apply wpS_region
 simp [wpOpsS, go_sem, recoverD, hu, Tryz.ntmps102, Exit.thenS]
 refine wpS_cond (t := false) (by simp [Act.eval, Array.replicate]) ?_
 simp only [Bool.false_eq_true, if_false]
 refine wpS_of_wp (wp_skip ?_)
 cases c₀
 simp_all [bodyPostS, results, Tryz.results102]
theorem iMade_any (F : FuncId) (hF : ∀ args w, (callFunc F args).run Tryz.prog w = .ok (.enter F args) w) (caps : Array Value) (pv : Value) (w : World) (C Z : Nat → Prop) (hC : ∀ k, C k → k < w.heap.size) (ds : List RecD) (hd : RecD) (hmk : ∀ w1, Below w.heap.size w w1 → Calls Tryz.prog F (#[pv] ++ caps) w1 (MadeP A B w1 C Z ds hd)) :
  Calls Tryz.prog 78 #[.func (.func F) #[] caps, pv] w (MadeQ A B w C Z ds hd) := by
 have hmf := run_makeFunc
 have HM := Lib.hid hmk
 have HC := Lib.hid hC
 clear hmk hC
 obtain ⟨W0, hW0⟩ : ∃ W, W = ((w.alloc (.cells #[.slice none 0 0] 49)).alloc (.cells #[.int .i64 0, .string ⟨#[]⟩, .string ⟨#[]⟩, .bool false, .int .i64 0, .slice none 0 0, .slice none 0 0, .string ⟨#[]⟩, .string ⟨#[]⟩, .int .i64 0, .int .i64 0, .int .i64 0, .string ⟨#[]⟩, .int .i64 0, .int .i64 0] 55)).alloc (.cells #[.bool false] 4) := ⟨_, rfl⟩
 have B0 := Lib.hid (show Below w.heap.size w W0 by rw [hW0]; exact (alloc_below0 _ _).trans (((alloc_below0 _ _).trans ((alloc_below0 _ _).mono (alloc_below0 _ _).size)).mono (alloc_below0 w _).size))
 have N0 := Lib.hid (show W0.heap.size = w.heap.size + 3 by rw [hW0]; simp)
 have X0 := Lib.hid (show W0.heap[w.heap.size]? = some (.cells #[.slice none 0 0] 49 (0, 0)) by rw [hW0]; exact blk_step (blk_step (blk_new w _) (alloc_below0 _ _)) (alloc_below0 _ _))
 have X1 := Lib.hid (show W0.heap[w.heap.size + 1]? = some (.cells #[.int .i64 0, .string ⟨#[]⟩, .string ⟨#[]⟩, .bool false, .int .i64 0, .slice none 0 0, .slice none 0 0, .string ⟨#[]⟩, .string ⟨#[]⟩, .int .i64 0, .int .i64 0, .int .i64 0, .string ⟨#[]⟩, .int .i64 0, .int .i64 0] 55 (0, 0)) by rw [hW0, show w.heap.size + 1 = (w.alloc (.cells #[.slice none 0 0] 49)).heap.size by simp]; exact blk_step (blk_new _ _) (alloc_below0 _ _))
 have X2 := Lib.hid (show W0.heap[w.heap.size + 1 + 1]? = some (.cells #[.bool false] 4 (0, 0)) by rw [hW0, show w.heap.size + 1 + 1 = ((w.alloc (.cells #[.slice none 0 0] 49)).alloc (.cells #[.int .i64 0, .string ⟨#[]⟩, .string ⟨#[]⟩, .bool false, .int .i64 0, .slice none 0 0, .slice none 0 0, .string ⟨#[]⟩, .string ⟨#[]⟩, .int .i64 0, .int .i64 0, .int .i64 0, .string ⟨#[]⟩, .int .i64 0, .int .i64 0] 55)).heap.size by simp]; exact blk_new _ _)
 go_enter_defers Tryz.func78, Tryz.ntmps78
 go_upto_region 2 with (fail)
 rw [← hW0]
 clear hW0
 have HQ := Lib.hid (HM.out W0 B0.out)
 go_wp2_with fail
 refine HQ.out.mono ?_
 rintro ev w2 ⟨la, ln, lc, ra, rn, rc, ea, en, ec, bs, rfl, hr, hv, o1, o2, h1, h2, hk, hz⟩
 have R2 := Lib.hid hr
 have V2 := Lib.hid (show RecV w2 (recVal hd.sc (.slice ra rn rc) (.slice ea en ec)) hd ∧ Out (fun k => k < W0.heap.size) (.slice ra rn rc) ∧ Out (fun k => k < W0.heap.size) (.slice ea en ec) ∧ hd.rows.length ≤ 1000 ∧ hd.ents.length ≤ 1000 from ⟨hv, o1, o2, h1, h2⟩)
 have K2 := Lib.hid (show Kept C W0 w2 from hk)
 have HZ := Lib.hid (show ∀ k, Z k → BlkAt A w k → BlkAt B w2 k from fun k h1 h2 => hz k h1 (h2.low B0.out))
 clear hz
 have Y0 := Lib.hid ((hk.block w.heap.size (by have := N0.out; omega) (fun h => by have := HC.out _ h; omega)).trans X0.out)
 have Y1 := Lib.hid ((hk.block (w.heap.size + 1) (by have := N0.out; omega) (fun h => by have := HC.out _ h; omega)).trans X1.out)
 have Y2 := Lib.hid ((hk.block (w.heap.size + 1 + 1) (by have := N0.out; omega) (fun h => by have := HC.out _ h; omega)).trans X2.out)
 clear hr hv o1 o2 h1 h2 hk HQ
 unfold recVal
 have y0 := blk_cell Y0.out 0
 have z0 := blk_free Y0.out 0
 have P0 := Lib.hid (show (w2.setCell ⟨w.heap.size, 0, none⟩ (.slice la ln lc)).heap[w.heap.size]? = some (.cells #[.slice la ln lc] 49 (0, 0)) from blk_set Y0.out 0 _)
 have P1 := Lib.hid (blk_off Y1.out (b := w.heap.size) (by omega) 0 (.slice la ln lc))
 have P2 := Lib.hid (blk_off Y2.out (b := w.heap.size) (by omega) 0 (.slice la ln lc))
 have KP := Lib.hid (((Kept.refl (fun k => w.heap.size ≤ k ∧ k < w.heap.size + 3) w2)).trans (((Kept.refl (fun k => k = w.heap.size) w2).setCell 0 (.slice la ln lc)).wide fun k _ e => (show w.heap.size ≤ k ∧ k < w.heap.size + 3 by omega)))
 have TH := Lib.hid (blk_there P1.out 15 (Nat.le_refl _))
 go_wp2_with (refine wpList_store_to rfl 55 (.tmp 5) (.tmp 13) rfl (w.heap.size + 1) 0 (recCells hd.sc (.slice ra rn rc) (.slice ea en ec)) rfl rfl ?_ recInfoS (rec_one ..) ?_; exact TH.out; intro W3 hW3; have Z1 := Lib.hid (show W3.heap[w.heap.size + 1]? = some (recObj hd.sc (.slice ra rn rc) (.slice ea en ec)) by rw [hW3]; exact list_laid (recCells hd.sc (.slice ra rn rc) (.slice ea en ec)) P1.out rfl); have KB := Lib.hid (show Kept (fun k => k = w.heap.size + 1) (w2.setCell ⟨w.heap.size, 0, none⟩ (.slice la ln lc)) W3 by rw [hW3]; exact Kept.setCells _ _ _ (Kept.refl _ _)); clear hW3)
 have Z0 := Lib.hid ((KB.out.block w.heap.size (Array.getElem?_eq_some_iff.1 P0.out).1 (by omega)).trans P0.out)
 have Z2 := Lib.hid ((KB.out.block (w.heap.size + 1 + 1) (Array.getElem?_eq_some_iff.1 P2.out).1 (by omega)).trans P2.out)
 have K3 := Lib.hid (KP.out.trans (KB.out.wide fun k _ e => (show w.heap.size ≤ k ∧ k < w.heap.size + 3 by omega)))
 clear y0 z0
 try simp only [Act.put]
 go_wp2_with fail
 have KD := Lib.hid K3.out.drew
 have D0 := Lib.hid (show W3.drew.heap[w.heap.size]? = some (.cells #[.slice la ln lc] 49 (0, 0)) from Z0.out)
 have D1 := Lib.hid (show W3.drew.heap[w.heap.size + 1]? = some (recObj hd.sc (.slice ra rn rc) (.slice ea en ec)) from Z1.out)
 have D2 := Lib.hid (show W3.drew.heap[w.heap.size + 1 + 1]? = some (.cells #[.bool false] 4 (0, 0)) from Z2.out)
 refine anyH_region (fun w' => w'.heap[w.heap.size]? = some (.cells #[.slice la ln lc] 49 (0, 0)) ∧ w'.heap[w.heap.size + 1]? = some (recObj hd.sc (.slice ra rn rc) (.slice ea en ec))) (by kernel_rfl) ?_
 generalize W3.drew = wd at *
 refine anyH_two (i := 0) (j := 1) (o := ⟨some 14, _, _, _, _, _⟩) (u := ⟨some 15, _, _, _, _, _⟩) (by kernel_rfl) rfl rfl (fun K hK => ?_) (fun K hK => ?_)
 ·rw [if_pos (by rfl)]
  have y0 := (blk_cell D0.out 0 : _ = some (Value.slice la ln lc))
  go_simp
  refine hK.out _ _ ⟨D0.out, D1.out⟩ ?_
  clear hK K
  try simp only [Act.put, sT, sZ, sS]
  refine anyH_two (i := 1) (j := 2) (o := ⟨some 15, _, _, _, _, _⟩) (u := ⟨none, _, _, _, _, _⟩) (by kernel_rfl) rfl rfl (fun K hK => ?_) (fun K hK => ?_)
  ·rw [if_pos (by rfl)]
   refine wp_load_mid 55 (.tmp 5) rfl (w.heap.size + 1) 0 rfl (recCells hd.sc (.slice ra rn rc) (.slice ea en ec)) _ (rec_range D1.out) Tryz.underlying55 rfl recInfoS ?_
   refine hK.out _ _ ⟨D0.out, D1.out⟩ ?_
   clear hK K
   try simp only [Act.put, sT, sZ, sS]
   refine anyH_one (i := 2) (o := ⟨none, _, _, _, _, _⟩) (by kernel_rfl) rfl (fun K hK => ?_)
   rw [if_pos (by rfl)]
   have y0 := (blk_cell D0.out 0 : _ = some (Value.slice la ln lc))
   have z0 := blk_free D0.out 0
   go_simp
   have E0 := Lib.hid (show (wd.setCell ⟨w.heap.size, 0, none⟩ (.slice la ln lc)).heap[w.heap.size]? = some (.cells #[.slice la ln lc] 49 (0, 0)) from blk_set D0.out 0 _)
   have E1 := Lib.hid (blk_off D1.out (b := w.heap.size) (by omega) 0 (.slice la ln lc))
   have E2 := Lib.hid (blk_off D2.out (b := w.heap.size) (by omega) 0 (.slice la ln lc))
   have KE := Lib.hid (KD.out.trans (((Kept.refl (fun k => k = w.heap.size) wd).setCell 0 (.slice la ln lc)).wide fun k _ e => (show w.heap.size ≤ k ∧ k < w.heap.size + 3 by omega)))
   clear y0 z0
   generalize hwe : wd.setCell ⟨w.heap.size, 0, none⟩ (.slice la ln lc) = we at *
   clear hwe
   refine hK.out _ _ ⟨E0.out, E1.out⟩ ?_
   clear hK K
   try simp only [Act.put, sT, sZ, sS]
   refine anyH_one (i := 3) (o := ⟨none, _, _, _, _, _⟩) (by kernel_rfl) rfl (fun K hK => ?_)
   rw [if_pos (by rfl)]
   refine wp_store_to 55 (.tmp 5) (.tmp 15) rfl (w.heap.size + 1) 0 (recCells hd.sc (.slice ra rn rc) (.slice ea en ec)) rfl rfl ?_ recInfoS (rec_one ..) ?_
   ·exact blk_there E1.out 15 (Nat.le_refl _)
   intro wf hwf
   have F1 := Lib.hid (show wf.heap[w.heap.size + 1]? = some (recObj hd.sc (.slice ra rn rc) (.slice ea en ec)) by rw [hwf]; exact list_laid (recCells hd.sc (.slice ra rn rc) (.slice ea en ec)) E1.out rfl)
   have KG := Lib.hid (show Kept (fun k => k = w.heap.size + 1) we wf by rw [hwf]; exact Kept.setCells _ _ _ (Kept.refl _ _))
   have F0 := Lib.hid ((KG.out.block w.heap.size (Array.getElem?_eq_some_iff.1 E0.out).1 (by omega)).trans E0.out)
   have F2 := Lib.hid ((KG.out.block (w.heap.size + 1 + 1) (Array.getElem?_eq_some_iff.1 E2.out).1 (by omega)).trans E2.out)
   have KF := Lib.hid (KE.out.trans (KG.out.wide fun k _ e => (show w.heap.size ≤ k ∧ k < w.heap.size + 3 by omega)))
   clear hwf
   refine hK.out _ _ ⟨F0.out, F1.out⟩ ?_
   clear hK K
   try simp only [Act.put, sT, sZ, sS]
   refine anyH_one (i := 4) (o := ⟨none, _, _, _, _, _⟩) (by kernel_rfl) rfl (fun K hK => ?_)
   rw [if_pos (by rfl)]
   have y2 := (blk_cell F2.out 0 : _ = some (Value.bool false))
   have z2 := blk_free F2.out 0
   go_simp
   have G0 := Lib.hid (blk_off F0.out (b := w.heap.size + 1 + 1) (by omega) 0 (.bool true))
   have G1 := Lib.hid (blk_off F1.out (b := w.heap.size + 1 + 1) (by omega) 0 (.bool true))
   have G2 := Lib.hid (show (wf.setCell ⟨w.heap.size + 1 + 1, 0, none⟩ (.bool true)).heap[w.heap.size + 1 + 1]? = some (.cells #[.bool true] 4 (0, 0)) from blk_set F2.out 0 _)
   have KH := Lib.hid (KF.out.trans (((Kept.refl (fun k => k = w.heap.size + 1 + 1) wf).setCell 0 (.bool true)).wide fun k _ e => (show w.heap.size ≤ k ∧ k < w.heap.size + 3 by omega)))
   clear y2 z2
   generalize hwg : wf.setCell ⟨w.heap.size + 1 + 1, 0, none⟩ (.bool true) = wg at *
   clear hwg
   refine hK.out _ _ ⟨G0.out, G1.out⟩ ?_
   clear hK K
   try simp only [Act.put, sT, sZ, sS]
   refine wpAnyH_done (by kernel_rfl) ?_ _
   try simp only [Act.put]
   go_wp2
   refine leaves_cons (f := 102) (args := #[.pointer (some ⟨w.heap.size, 0, none⟩), .pointer (some ⟨w.heap.size + 1, 0, none⟩), .pointer (some ⟨w.heap.size + 1 + 1, 0, none⟩)]) (by simp) (by simp [go_sem]) ?_
   refine (made_idle ⟨w.heap.size, 0, none⟩ ⟨w.heap.size + 1, 0, none⟩ ⟨w.heap.size + 1 + 1, 0, none⟩ _).mono ?_
   rintro e u' w'' ⟨rfl, rfl, rfl⟩
   have KN := Lib.hid (show ∀ k, (w.heap.size ≤ k ∧ k < w.heap.size + 3) → w.heap.size ≤ k from fun _ h => h.1)
   have KC := Lib.hid (kept_new ((Kept.of_below (S := C) B0.out).trans K2.out) KH.out KN.out)
   have RQ := Lib.hid ((R2.out.kept (KH.out.wide fun k _ h => (show k < W0.heap.size by have := N0.out; omega))).subT (fun k (h : k < w.heap.size) => (show k < W0.heap.size by have := N0.out; omega)))
   have VQ := Lib.hid (V2.out.1.kept KH.out (V2.out.2.1.sub fun k h => (show k < W0.heap.size by have := N0.out; omega)) (V2.out.2.2.1.sub fun k h => (show k < W0.heap.size by have := N0.out; omega)))
   show Leaves _ _ _ (MadeQ A B w C Z ds hd) [] (settle .returning) w''
   refine ⟨_, results_made rfl _ w'' w.heap.size la ln lc hd.sc ra rn rc ea en ec rfl rfl rfl (blk_cell G0.out 0) G1.out (blk_cell G2.out 0), la, ln, lc, ra, rn, rc, ea, en, ec, bs, rfl, RQ.out, VQ.out, V2.out.2.1.sub (fun k (h : k < w.heap.size) => (show k < W0.heap.size by have := N0.out; omega)), V2.out.2.2.1.sub (fun k (h : k < w.heap.size) => (show k < W0.heap.size by have := N0.out; omega)), V2.out.2.2.2.1, V2.out.2.2.2.2, KC.out, fun k h1 h2 => (HZ.out k h1 h2).kept KH.out (fun h => by have h3 := h2.lt; have h4 := h.1; omega)⟩
  ·rw [if_pos (by rfl)]
   have y0 := (blk_cell D0.out 0 : _ = some (Value.slice la ln lc))
   have z0 := blk_free D0.out 0
   go_simp
   have E0 := Lib.hid (show (wd.setCell ⟨w.heap.size, 0, none⟩ (.slice la ln lc)).heap[w.heap.size]? = some (.cells #[.slice la ln lc] 49 (0, 0)) from blk_set D0.out 0 _)
   have E1 := Lib.hid (blk_off D1.out (b := w.heap.size) (by omega) 0 (.slice la ln lc))
   have E2 := Lib.hid (blk_off D2.out (b := w.heap.size) (by omega) 0 (.slice la ln lc))
   have KE := Lib.hid (KD.out.trans (((Kept.refl (fun k => k = w.heap.size) wd).setCell 0 (.slice la ln lc)).wide fun k _ e => (show w.heap.size ≤ k ∧ k < w.heap.size + 3 by omega)))
   clear y0 z0
   generalize hwe : wd.setCell ⟨w.heap.size, 0, none⟩ (.slice la ln lc) = we at *
   clear hwe
   refine hK.out _ _ ⟨E0.out, E1.out⟩ ?_
   clear hK K
   try simp only [Act.put, sT, sZ, sS]
   refine anyH_one (i := 1) (o := ⟨some 15, _, _, _, _, _⟩) (by kernel_rfl) rfl (fun K hK => ?_)
   rw [if_pos (by rfl)]
   refine wp_load_mid 55 (.tmp 5) rfl (w.heap.size + 1) 0 rfl (recCells hd.sc (.slice ra rn rc) (.slice ea en ec)) _ (rec_range E1.out) Tryz.underlying55 rfl recInfoS ?_
   refine hK.out _ _ ⟨E0.out, E1.out⟩ ?_
   clear hK K
   try simp only [Act.put, sT, sZ, sS]
   refine anyH_one (i := 3) (o := ⟨none, _, _, _, _, _⟩) (by kernel_rfl) rfl (fun K hK => ?_)
   rw [if_pos (by rfl)]
   refine wp_store_to 55 (.tmp 5) (.tmp 15) rfl (w.heap.size + 1) 0 (recCells hd.sc (.slice ra rn rc) (.slice ea en ec)) rfl rfl ?_ recInfoS (rec_one ..) ?_
   ·exact blk_there E1.out 15 (Nat.le_refl _)
   intro wf hwf
   have F1 := Lib.hid (show wf.heap[w.heap.size + 1]? = some (recObj hd.sc (.slice ra rn rc) (.slice ea en ec)) by rw [hwf]; exact list_laid (recCells hd.sc (.slice ra rn rc) (.slice ea en ec)) E1.out rfl)
   have KG := Lib.hid (show Kept (fun k => k = w.heap.size + 1) we wf by rw [hwf]; exact Kept.setCells _ _ _ (Kept.refl _ _))
   have F0 := Lib.hid ((KG.out.block w.heap.size (Array.getElem?_eq_some_iff.1 E0.out).1 (by omega)).trans E0.out)
   have F2 := Lib.hid ((KG.out.block (w.heap.size + 1 + 1) (Array.getElem?_eq_some_iff.1 E2.out).1 (by omega)).trans E2.out)
   have KF := Lib.hid (KE.out.trans (KG.out.wide fun k _ e => (show w.heap.size ≤ k ∧ k < w.heap.size + 3 by omega)))
   clear hwf
   refine hK.out _ _ ⟨F0.out, F1.out⟩ ?_
   clear hK K
   try simp only [Act.put, sT, sZ, sS]
   refine anyH_one (i := 4) (o := ⟨none, _, _, _, _, _⟩) (by kernel_rfl) rfl (fun K hK => ?_)
   rw [if_pos (by rfl)]
   have y2 := (blk_cell F2.out 0 : _ = some (Value.bool false))
   have z2 := blk_free F2.out 0
   go_simp
   have G0 := Lib.hid (blk_off F0.out (b := w.heap.size + 1 + 1) (by omega) 0 (.bool true))
   have G1 := Lib.hid (blk_off F1.out (b := w.heap.size + 1 + 1) (by omega) 0 (.bool true))
   have G2 := Lib.hid (show (wf.setCell ⟨w.heap.size + 1 + 1, 0, none⟩ (.bool true)).heap[w.heap.size + 1 + 1]? = some (.cells #[.bool true] 4 (0, 0)) from blk_set F2.out 0 _)
   have KH := Lib.hid (KF.out.trans (((Kept.refl (fun k => k = w.heap.size + 1 + 1) wf).setCell 0 (.bool true)).wide fun k _ e => (show w.heap.size ≤ k ∧ k < w.heap.size + 3 by omega)))
   clear y2 z2
   generalize hwg : wf.setCell ⟨w.heap.size + 1 + 1, 0, none⟩ (.bool true) = wg at *
   clear hwg
   refine hK.out _ _ ⟨G0.out, G1.out⟩ ?_
   clear hK K
   try simp only [Act.put, sT, sZ, sS]
   refine wpAnyH_done (by kernel_rfl) ?_ _
   try simp only [Act.put]
   go_wp2
   refine leaves_cons (f := 102) (args := #[.pointer (some ⟨w.heap.size, 0, none⟩), .pointer (some ⟨w.heap.size + 1, 0, none⟩), .pointer (some ⟨w.heap.size + 1 + 1, 0, none⟩)]) (by simp) (by simp [go_sem]) ?_
   refine (made_idle ⟨w.heap.size, 0, none⟩ ⟨w.heap.size + 1, 0, none⟩ ⟨w.heap.size + 1 + 1, 0, none⟩ _).mono ?_
   rintro e u' w'' ⟨rfl, rfl, rfl⟩
   have KN := Lib.hid (show ∀ k, (w.heap.size ≤ k ∧ k < w.heap.size + 3) → w.heap.size ≤ k from fun _ h => h.1)
   have KC := Lib.hid (kept_new ((Kept.of_below (S := C) B0.out).trans K2.out) KH.out KN.out)
   have RQ := Lib.hid ((R2.out.kept (KH.out.wide fun k _ h => (show k < W0.heap.size by have := N0.out; omega))).subT (fun k (h : k < w.heap.size) => (show k < W0.heap.size by have := N0.out; omega)))
   have VQ := Lib.hid (V2.out.1.kept KH.out (V2.out.2.1.sub fun k h => (show k < W0.heap.size by have := N0.out; omega)) (V2.out.2.2.1.sub fun k h => (show k < W0.heap.size by have := N0.out; omega)))
   show Leaves _ _ _ (MadeQ A B w C Z ds hd) [] (settle .returning) w''
   refine ⟨_, results_made rfl _ w'' w.heap.size la ln lc hd.sc ra rn rc ea en ec rfl rfl rfl (blk_cell G0.out 0) G1.out (blk_cell G2.out 0), la, ln, lc, ra, rn, rc, ea, en, ec, bs, rfl, RQ.out, VQ.out, V2.out.2.1.sub (fun k (h : k < w.heap.size) => (show k < W0.heap.size by have := N0.out; omega)), V2.out.2.2.1.sub (fun k (h : k < w.heap.size) => (show k < W0.heap.size by have := N0.out; omega)), V2.out.2.2.2.1, V2.out.2.2.2.2, KC.out, fun k h1 h2 => (HZ.out k h1 h2).kept KH.out (fun h => by have h3 := h2.lt; have h4 := h.1; omega)⟩
 ·rw [if_pos (by rfl)]
  refine wp_load_mid 55 (.tmp 5) rfl (w.heap.size + 1) 0 rfl (recCells hd.sc (.slice ra rn rc) (.slice ea en ec)) _ (rec_range D1.out) Tryz.underlying55 rfl recInfoS ?_
  refine hK.out _ _ ⟨D0.out, D1.out⟩ ?_
  clear hK K
  try simp only [Act.put, sT, sZ, sS]
  refine anyH_one (i := 0) (o := ⟨some 14, _, _, _, _, _⟩) (by kernel_rfl) rfl (fun K hK => ?_)
  rw [if_pos (by rfl)]
  have y0 := (blk_cell D0.out 0 : _ = some (Value.slice la ln lc))
  go_simp
  refine hK.out _ _ ⟨D0.out, D1.out⟩ ?_
  clear hK K
  try simp only [Act.put, sT, sZ, sS]
  refine anyH_one (i := 2) (o := ⟨none, _, _, _, _, _⟩) (by kernel_rfl) rfl (fun K hK => ?_)
  rw [if_pos (by rfl)]
  have y0 := (blk_cell D0.out 0 : _ = some (Value.slice la ln lc))
  have z0 := blk_free D0.out 0
  go_simp
  have E0 := Lib.hid (show (wd.setCell ⟨w.heap.size, 0, none⟩ (.slice la ln lc)).heap[w.heap.size]? = some (.cells #[.slice la ln lc] 49 (0, 0)) from blk_set D0.out 0 _)
  have E1 := Lib.hid (blk_off D1.out (b := w.heap.size) (by omega) 0 (.slice la ln lc))
  have E2 := Lib.hid (blk_off D2.out (b := w.heap.size) (by omega) 0 (.slice la ln lc))
  have KE := Lib.hid (KD.out.trans (((Kept.refl (fun k => k = w.heap.size) wd).setCell 0 (.slice la ln lc)).wide fun k _ e => (show w.heap.size ≤ k ∧ k < w.heap.size + 3 by omega)))
  clear y0 z0
  generalize hwe : wd.setCell ⟨w.heap.size, 0, none⟩ (.slice la ln lc) = we at *
  clear hwe
  refine hK.out _ _ ⟨E0.out, E1.out⟩ ?_
  clear hK K
  try simp only [Act.put, sT, sZ, sS]
  refine anyH_one (i := 3) (o := ⟨none, _, _, _, _, _⟩) (by kernel_rfl) rfl (fun K hK => ?_)
  rw [if_pos (by rfl)]
  refine wp_store_to 55 (.tmp 5) (.tmp 15) rfl (w.heap.size + 1) 0 (recCells hd.sc (.slice ra rn rc) (.slice ea en ec)) rfl rfl ?_ recInfoS (rec_one ..) ?_
  ·exact blk_there E1.out 15 (Nat.le_refl _)
  intro wf hwf
  have F1 := Lib.hid (show wf.heap[w.heap.size + 1]? = some (recObj hd.sc (.slice ra rn rc) (.slice ea en ec)) by rw [hwf]; exact list_laid (recCells hd.sc (.slice ra rn rc) (.slice ea en ec)) E1.out rfl)
  have KG := Lib.hid (show Kept (fun k => k = w.heap.size + 1) we wf by rw [hwf]; exact Kept.setCells _ _ _ (Kept.refl _ _))
  have F0 := Lib.hid ((KG.out.block w.heap.size (Array.getElem?_eq_some_iff.1 E0.out).1 (by omega)).trans E0.out)
  have F2 := Lib.hid ((KG.out.block (w.heap.size + 1 + 1) (Array.getElem?_eq_some_iff.1 E2.out).1 (by omega)).trans E2.out)
  have KF := Lib.hid (KE.out.trans (KG.out.wide fun k _ e => (show w.heap.size ≤ k ∧ k < w.heap.size + 3 by omega)))
  clear hwf
  refine hK.out _ _ ⟨F0.out, F1.out⟩ ?_
  clear hK K
  try simp only [Act.put, sT, sZ, sS]
  refine anyH_one (i := 4) (o := ⟨none, _, _, _, _, _⟩) (by kernel_rfl) rfl (fun K hK => ?_)
  rw [if_pos (by rfl)]
  have y2 := (blk_cell F2.out 0 : _ = some (Value.bool false))
  have z2 := blk_free F2.out 0
  go_simp
  have G0 := Lib.hid (blk_off F0.out (b := w.heap.size + 1 + 1) (by omega) 0 (.bool true))
  have G1 := Lib.hid (blk_off F1.out (b := w.heap.size + 1 + 1) (by omega) 0 (.bool true))
  have G2 := Lib.hid (show (wf.setCell ⟨w.heap.size + 1 + 1, 0, none⟩ (.bool true)).heap[w.heap.size + 1 + 1]? = some (.cells #[.bool true] 4 (0, 0)) from blk_set F2.out 0 _)
  have KH := Lib.hid (KF.out.trans (((Kept.refl (fun k => k = w.heap.size + 1 + 1) wf).setCell 0 (.bool true)).wide fun k _ e => (show w.heap.size ≤ k ∧ k < w.heap.size + 3 by omega)))
  clear y2 z2
  generalize hwg : wf.setCell ⟨w.heap.size + 1 + 1, 0, none⟩ (.bool true) = wg at *
  clear hwg
  refine hK.out _ _ ⟨G0.out, G1.out⟩ ?_
  clear hK K
  try simp only [Act.put, sT, sZ, sS]
  refine wpAnyH_done (by kernel_rfl) ?_ _
  try simp only [Act.put]
  go_wp2
  refine leaves_cons (f := 102) (args := #[.pointer (some ⟨w.heap.size, 0, none⟩), .pointer (some ⟨w.heap.size + 1, 0, none⟩), .pointer (some ⟨w.heap.size + 1 + 1, 0, none⟩)]) (by simp) (by simp [go_sem]) ?_
  refine (made_idle ⟨w.heap.size, 0, none⟩ ⟨w.heap.size + 1, 0, none⟩ ⟨w.heap.size + 1 + 1, 0, none⟩ _).mono ?_
  rintro e u' w'' ⟨rfl, rfl, rfl⟩
  have KN := Lib.hid (show ∀ k, (w.heap.size ≤ k ∧ k < w.heap.size + 3) → w.heap.size ≤ k from fun _ h => h.1)
  have KC := Lib.hid (kept_new ((Kept.of_below (S := C) B0.out).trans K2.out) KH.out KN.out)
  have RQ := Lib.hid ((R2.out.kept (KH.out.wide fun k _ h => (show k < W0.heap.size by have := N0.out; omega))).subT (fun k (h : k < w.heap.size) => (show k < W0.heap.size by have := N0.out; omega)))
  have VQ := Lib.hid (V2.out.1.kept KH.out (V2.out.2.1.sub fun k h => (show k < W0.heap.size by have := N0.out; omega)) (V2.out.2.2.1.sub fun k h => (show k < W0.heap.size by have := N0.out; omega)))
  show Leaves _ _ _ (MadeQ A B w C Z ds hd) [] (settle .returning) w''
  refine ⟨_, results_made rfl _ w'' w.heap.size la ln lc hd.sc ra rn rc ea en ec rfl rfl rfl (blk_cell G0.out 0) G1.out (blk_cell G2.out 0), la, ln, lc, ra, rn, rc, ea, en, ec, bs, rfl, RQ.out, VQ.out, V2.out.2.1.sub (fun k (h : k < w.heap.size) => (show k < W0.heap.size by have := N0.out; omega)), V2.out.2.2.1.sub (fun k (h : k < w.heap.size) => (show k < W0.heap.size by have := N0.out; omega)), V2.out.2.2.2.1, V2.out.2.2.2.2, KC.out, fun k h1 h2 => (HZ.out k h1 h2).kept KH.out (fun h => by have h3 := h2.lt; have h4 := h.1; omega)⟩
end Go.Proofs.YtejmdmaebkdjoaaGreatDoor
