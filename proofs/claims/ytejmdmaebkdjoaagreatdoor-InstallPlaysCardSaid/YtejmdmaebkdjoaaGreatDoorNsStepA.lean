/- Package install's Step, by contract, stage by stage. -/
import Derived.Test.YtejmdmaebkdjoaaGreatDoorNsMade
import Derived.Deep.CutRange
namespace Go.Proofs.YtejmdmaebkdjoaaGreatDoor
set_option linter.unusedVariables false
set_option linter.unusedSimpArgs false
set_option maxRecDepth 100000
set_option maxHeartbeats 4000000
open Go.RowKit
variable {A B : Array Value → Prop}
def Ins.pgsL (i : Ins) : List Int := (List.range i.tk).map i.pg
theorem lInt_at : ∀ (xs : List Int) (j : Nat), (lInt.flat xs)[j]? = (xs[j]?).map (Value.int .i64)
 | [], j => by simp [Lay.flat]
 | x :: xs, 0 => by simp [Lay.flat, lInt]
 | x :: xs, j + 1 => by
  have := lInt_at xs j
  simp only [Lay.flat] at *
  simpa [lInt] using this
theorem InsAt.pgs {w : World} {b : Nat} {i : Ins} (h : InsAt w b i) (h4 : i.tk ≤ 4) : SV lInt w (.slice (some ⟨b, 6, none⟩) i.tk 4) i.pgsL := by
 have hl : i.pgsL.length = i.tk := by simp [Ins.pgsL]
 refine ⟨some ⟨b, 6, none⟩, 4, by rw [hl], by omega, by decide, (fun e => by cases e), b, 6, fun _ x e => (Option.some.inj e).symm, fun j u hu => ?_⟩
 rw [lInt_at] at hu
 have hj : j < i.tk := by
  rcases Nat.lt_or_ge j i.tk with h' | h'
  ·exact h'
  ·rw [List.getElem?_eq_none (by omega)] at hu; cases hu
 have he : i.pgsL[j]? = some (i.pg j) := by simp [Ins.pgsL, hj]
 rw [he] at hu
 obtain rfl : u = .int .i64 (i.pg j) := (Option.some.inj hu).symm
 exact h.cPg (by omega)
theorem Kept.after {S D : Nat → Prop} {w w1 w2 : World} (h : Kept S w w1) (k : Kept D w1 w2) (hD : ∀ j, D j → S j ∨ w.heap.size ≤ j) : Kept S w w2 :=
 ⟨k.os.trans h.os, k.tape.trans h.tape, k.output.trans h.output, Nat.le_trans h.size k.size, fun j hj hn => (k.block j (Nat.lt_of_lt_of_le hj h.size) (fun hd => (hD j hd).elim hn (fun h => by omega))).trans (h.block j hj hn)⟩
theorem Kept.both {S T : Nat → Prop} {a b c : World} (h : Kept S a b) (k : Kept T b c) : Kept (fun j => S j ∨ T j) a c := h.trans2 k (fun _ h => .inl h) (fun _ h => .inr h)
theorem iPrep_any (F : FuncId) (hF : ∀ args w, (callFunc F args).run Tryz.prog w = .ok (.enter F args) w) (caps : Array Value) (w : World) (b : Nat) (i : Ins) (C ZI T : Nat → Prop) (hZb : ¬ ZI b) (ds : List RecD) (hd : RecD) (hi : InsAt w b i) (hst : i.st = 2) (hfn : i.fn = .func (.func F) #[] caps) (hz : i.rc = fun _ => rcZ) (hn : i.news ≤ 4) (ht4 : i.tk ≤ 4)
  (hT : ∀ k, T k → k < w.heap.size) (hTb : T b) (hC : ∀ k, C k → k < w.heap.size) (hCb : ¬ C b)
  (hmk : ∀ w1 pv, Kept (fun k => k = b) w w1 → OwnS lInt w.heap.size w1 pv i.pgsL → Calls Tryz.prog F (#[pv] ++ caps) w1 (MadeP A B w1 (fun k => C k ∨ pv.ownBlock = some k) ZI ds hd)) :
  Calls Tryz.prog 39 #[.pointer (some ⟨b, 0, none⟩)] w fun ev w' => ev = .returned (.tuple #[]) ∧ Kept (fun k => C k ∨ k = b) w w' ∧ (∀ k, ZI k → BlkAt A w k → BlkAt B w' k) ∧ ∃ rc', InsAt w' b { i with fn := .nilFunc, rc := rc' } ∧ ∀ k, k ≤ i.news → RecL w' T (rcLf rc' k) (recsM ds hd i.news k) := by
 have I0 := Lib.hid hi
 have x4 := hi.cFn
 rw [hfn] at x4
 have f4 := hi.free 4
 have s4 : (store ⟨b, 4, none⟩ .nilFunc).run Tryz.prog w = .ok () (w.setCell ⟨b, 4, none⟩ .nilFunc) := by
  rw [run_store Tryz.prog w ⟨b, 4, none⟩ .nilFunc _ rfl]
  simp [x4, f4]
 have I1 := Lib.hid (hi.sFn .nilFunc)
 have KA := Lib.hid ((Kept.refl (fun k => k = b) w).setCell 4 .nilFunc)
 have HH := Lib.hid (show i.st = 2 ∧ (i.rc = fun _ => rcZ) ∧ i.news ≤ 4 ∧ i.tk ≤ 4 from ⟨hst, hz, hn, ht4⟩)
 have HT := Lib.hid hT
 have HTb := Lib.hid hTb
 have HC := Lib.hid hC
 have HCb := Lib.hid hCb
 have HZb := Lib.hid hZb
 have HM := Lib.hid hmk
 have hx : (0 : Int) ≤ (i.tk : Int) ∧ (i.tk : Int) ≤ 4 := by omega
 clear hi hst hfn hz hn ht4 hT hTb hC hCb hZb hmk
 go_enter Tryz.func39, Tryz.ntmps39
 go_upto_region 2 with (fail)
 clear x4 f4 s4
 generalize hw1 : w.setCell ⟨b, 4, none⟩ .nilFunc = w1 at *
 clear hw1
 go_cut [3, 4, 5] from 15 to 30 (fun s3 s4 s5 wc => ∃ (xb : Nat) (la : Option Addr) (ln lc : Nat) (ra : Option Addr) (rn rc : Nat) (ea : Option Addr) (en ec : Nat) (bs : List RcL), s3 = .slice la ln lc ∧ s4 = .pointer (some ⟨xb, 0, none⟩) ∧ s5 = .bool true ∧ w.heap.size ≤ xb ∧ wc.heap[xb]? = some (recObj hd.sc (.slice ra rn rc) (.slice ea en ec)) ∧ RecsV wc (fun k => k < w.heap.size) (.slice la ln lc) bs ds ∧ RecV wc (recVal hd.sc (.slice ra rn rc) (.slice ea en ec)) hd ∧ Out (fun k => k < w.heap.size) (.slice ra rn rc) ∧ Out (fun k => k < w.heap.size) (.slice ea en ec) ∧ hd.rows.length ≤ 1000 ∧ hd.ents.length ≤ 1000 ∧ Kept C w1 wc ∧ ∀ k, ZI k → BlkAt A w k → BlkAt B wc k)
 case first =>
  go_wp2_with fail
  have ID := Lib.hid (I1.out.step (Below.refl _ _).drew)
  have KD := Lib.hid (Kept.refl C w1).drew
  have KW := Lib.hid KA.out.drew
  refine anyH_region (fun w' => InsAt w' b { i with fn := .nilFunc }) (by kernel_rfl) ?_
  generalize w1.drew = wd at *
  refine tkH (i := 0) (oi := ⟨some 16, _, _, _, _, _⟩) (v := ?va0) rfl (Or.inl ⟨by rfl, ?hya0⟩) ID.out ?resta0
  case hya0 => (intro w hSw; have q0 := hSw.cTk; go_simp; try (with_reducible rfl))
  simp only [Act.put, sT, sZ, sS]
  refine tkH (i := 1) (oi := ⟨some 17, _, _, _, _, _⟩) (v := ?va1) rfl (Or.inl ⟨by rfl, ?hya1⟩) ID.out ?resta1
  case hya1 => (intro w hSw; have q0 := hSw.cTk; go_simp; try (with_reducible rfl))
  simp only [Act.put, sT, sZ, sS]
  refine tkH (i := 2) (oi := ⟨some 18, _, _, _, _, _⟩) (v := ?va2) rfl (Or.inl ⟨by rfl, ?hya2⟩) ID.out ?resta2
  case hya2 => (intro w hSw; have q0 := hSw.cTk; go_simp; try (with_reducible rfl))
  simp only [Act.put, sT, sZ, sS]
  refine tkH (i := 3) (oi := ⟨some 19, _, _, _, _, _⟩) (v := ?va3) rfl (Or.inl ⟨by rfl, ?hya3⟩) ID.out ?resta3
  case hya3 => (intro w hSw; have q0 := hSw.cTk; go_simp; try (with_reducible rfl))
  simp only [Act.put, sT, sZ, sS]
  refine tkH (i := 4) (oi := ⟨some 20, _, _, _, _, _⟩) (v := ?va4) rfl (Or.inl ⟨by rfl, ?hya4⟩) ID.out ?resta4
  case hya4 => (intro w hSw; have q0 := hSw.cTk; go_simp; try (with_reducible rfl))
  simp only [Act.put, sT, sZ, sS]
  refine tkH (i := 5) (oi := ⟨some 21, _, _, _, _, _⟩) (v := ?va5) rfl (Or.inl ⟨by rfl, ?hya5⟩) ID.out ?resta5
  case hya5 => (intro w hSw; have q0 := hSw.cTk; go_simp; try (with_reducible rfl))
  simp only [Act.put, sT, sZ, sS]
  refine tkH (i := 6) (oi := ⟨some 22, _, _, _, _, _⟩) (v := ?va6) rfl (Or.inl ⟨by rfl, ?hya6⟩) ID.out ?resta6
  case hya6 => (intro w hSw; have q0 := hSw.cTk; go_simp; try (with_reducible rfl))
  simp only [Act.put, sT, sZ, sS]
  refine tkH (i := 7) (oi := ⟨some 23, _, _, _, _, _⟩) (v := ?va7) rfl (Or.inl ⟨by rfl, ?hya7⟩) ID.out ?resta7
  case hya7 => (intro w hSw; have q0 := hSw.cTk; go_simp; try (with_reducible rfl))
  simp only [Act.put, sT, sZ, sS]
  refine tkH (i := 8) (oi := ⟨some 24, _, _, _, _, _⟩) (v := ?va8) rfl (Or.inl ⟨by rfl, ?hya8⟩) ID.out ?resta8
  case hya8 => (intro w hSw; have q0 := hSw.cTk; go_simp; try (with_reducible rfl))
  simp only [Act.put, sT, sZ, sS]
  have NW1 := Lib.hid (show w.heap.size ≤ w1.heap.size from KA.out.size)
  have I := Lib.hid ID.out
  have K := Lib.hid KD.out
  have W := Lib.hid KW.out
  refine anyH_two (i := 9) (j := 15) (o := ⟨some 25, _, _, _, _, _⟩) (u := ⟨some 4, _, _, _, _, _⟩) (by kernel_rfl) rfl rfl (fun K' hK => ?_) (fun K' hK => ?_)
  ·rw [if_pos (by rfl)]
   go_simp
   refine (clone_ints _ i.pgsL _ (show SV lInt _ (.slice (some ⟨b, 6, none⟩) i.tk 4) i.pgsL from I.out.pgs HH.out.2.2.2) (by simp [Ins.pgsL]; have := HH.out.2.2.2; omega)).mono ?_
   rintro e2 w2 ⟨pv, rfl, ho, hs⟩
   have PN := Lib.hid (show ∀ j, pv.ownBlock = some j → w1.heap.size ≤ j from fun j hj => by have := (ho.bounds j hj).1; have := K.out.size; omega)
   have PO := Lib.hid (ho.mono (b' := w.heap.size) (by have := W.out.size; omega))
   have I := Lib.hid (I.out.step hs)
   have K := Lib.hid (K.out.trans (Kept.of_below hs))
   have W := Lib.hid (W.out.trans (Kept.of_below hs))
   clear ho hs
   refine hK.out _ _ I.out ?_
   clear hK K'
   try simp only [Act.put, sT, sZ, sS]
   refine anyH_two (i := 10) (j := 15) (o := ⟨some 26, _, _, _, _, _⟩) (u := ⟨some 4, _, _, _, _, _⟩) (by kernel_rfl) rfl rfl (fun K' hK => ?_) (fun K' hK => ?_)
   ·rw [if_pos (by rfl)]
    go_simp
    refine (iMade_any F hF caps pv _ (fun j => C j ∨ pv.ownBlock = some j) ZI (fun j hj => hj.elim (fun h => by have := HC.out j h; have := W.out.size; omega) (fun h => (PO.out.bounds j h).2)) ds hd (fun w9 hb => HM.out w9 pv (W.out.trans (Kept.of_below hb)) (PO.out.below hb))).mono ?_
    rintro e3 w3 ⟨la, ln, lc, ra, rn, rc, ea, en, ec, bs, rfl, hr, hv, o1, o2, h1, h2, hk, hz⟩
    have HZ := Lib.hid (show ∀ k, ZI k → BlkAt A w k → BlkAt B w3 k from fun k q1 q2 => hz k q1 (q2.kept W.out (fun e => HZb.out (e ▸ q1))))
    clear hz
    have LW := Lib.hid W.out.size
    have RR := Lib.hid hr
    have RV := Lib.hid (show RecV w3 (recVal hd.sc (.slice ra rn rc) (.slice ea en ec)) hd from hv)
    have RO := Lib.hid (show Out _ (.slice ra rn rc) ∧ Out _ (.slice ea en ec) ∧ hd.rows.length ≤ 1000 ∧ hd.ents.length ≤ 1000 from ⟨o1, o2, h1, h2⟩)
    have K := Lib.hid (K.out.after hk (fun j hj => hj.imp id (PN.out j)))
    have I := Lib.hid (I1.out.keep K.out HCb.out)
    clear hr hv o1 o2 h1 h2 hk
    unfold recVal
    refine hK.out _ _ I.out ?_
    clear hK K'
    try simp only [Act.put, sT, sZ, sS]
    refine tkH (i := 11) (oi := ⟨some 15, _, _, _, _, _⟩) (v := ?vta11) rfl (Or.inl ⟨by rfl, ?hyta11⟩) I.out ?restta11
    case hyta11 => (intro w hSw; go_simp; try (with_reducible rfl))
    simp only [Act.put, sT, sZ, sS]
    refine tkH (i := 12) (oi := ⟨some 27, _, _, _, _, _⟩) (v := ?vta12) rfl (Or.inl ⟨by rfl, ?hyta12⟩) I.out ?restta12
    case hyta12 => (intro w hSw; go_simp; try (with_reducible rfl))
    simp only [Act.put, sT, sZ, sS]
    refine tkH (i := 13) (oi := ⟨some 28, _, _, _, _, _⟩) (v := ?vta13) rfl (Or.inl ⟨by rfl, ?hyta13⟩) I.out ?restta13
    case hyta13 => (intro w hSw; go_simp; try (with_reducible rfl))
    simp only [Act.put, sT, sZ, sS]
    refine tkH (i := 14) (oi := ⟨some 29, _, _, _, _, _⟩) (v := ?vta14) rfl (Or.inl ⟨by rfl, ?hyta14⟩) I.out ?restta14
    case hyta14 => (intro w hSw; go_simp; try (with_reducible rfl))
    simp only [Act.put, sT, sZ, sS]
    refine anyH_one (i := 15) (o := ⟨some 4, _, _, _, _, _⟩) (by kernel_rfl) rfl (fun K' hK => ?_)
    rw [if_pos (by rfl)]
    go_simp
    have bA := Lib.hid (alloc_below0 w3 (.cells #[.int .i64 0, .string ⟨#[]⟩, .string ⟨#[]⟩, .bool false, .int .i64 0, .slice none 0 0, .slice none 0 0, .string ⟨#[]⟩, .string ⟨#[]⟩, .int .i64 0, .int .i64 0, .int .i64 0, .string ⟨#[]⟩, .int .i64 0, .int .i64 0] 55))
    have NX := Lib.hid (show w1.heap.size ≤ w3.heap.size from K.out.size)
    have I := Lib.hid (I.out.step bA.out)
    have K := Lib.hid (K.out.trans (Kept.of_below bA.out))
    have Z := Lib.hid (show (w3.alloc (.cells #[.int .i64 0, .string ⟨#[]⟩, .string ⟨#[]⟩, .bool false, .int .i64 0, .slice none 0 0, .slice none 0 0, .string ⟨#[]⟩, .string ⟨#[]⟩, .int .i64 0, .int .i64 0, .int .i64 0, .string ⟨#[]⟩, .int .i64 0, .int .i64 0] 55)).heap[w3.heap.size]? = some (.cells #[.int .i64 0, .string ⟨#[]⟩, .string ⟨#[]⟩, .bool false, .int .i64 0, .slice none 0 0, .slice none 0 0, .string ⟨#[]⟩, .string ⟨#[]⟩, .int .i64 0, .int .i64 0, .int .i64 0, .string ⟨#[]⟩, .int .i64 0, .int .i64 0] 55 (0, 0)) from blk_new w3 _)
    have SA := Lib.hid (show (w3.alloc (.cells #[.int .i64 0, .string ⟨#[]⟩, .string ⟨#[]⟩, .bool false, .int .i64 0, .slice none 0 0, .slice none 0 0, .string ⟨#[]⟩, .string ⟨#[]⟩, .int .i64 0, .int .i64 0, .int .i64 0, .string ⟨#[]⟩, .int .i64 0, .int .i64 0] 55)).heap.size = w3.heap.size + 1 by simp)
    refine hK.out _ _ I.out ?_
    clear hK K'
    try simp only [Act.put, sT, sZ, sS]
    refine anyH_one (i := 16) (o := ⟨some 3, _, _, _, _, _⟩) (by kernel_rfl) rfl (fun K' hK => ?_)
    rw [if_pos (by rfl)]
    go_simp
    refine hK.out _ _ I.out ?_
    clear hK K'
    try simp only [Act.put, sT, sZ, sS]
    refine anyH_one (i := 17) (o := ⟨none, _, _, _, _, _⟩) (by kernel_rfl) rfl (fun K' hK => ?_)
    rw [if_pos (by rfl)]
    refine wp_store_to 55 (.tmp 4) (.tmp 28) rfl (w3.heap.size) 0 (recCells hd.sc (.slice ra rn rc) (.slice ea en ec)) rfl rfl ?_ recInfoS (rec_one ..) ?_
    ·exact blk_there Z.out 15 (Nat.le_refl _)
    intro wz hwz
    have ZZ := Lib.hid (show wz.heap[w3.heap.size]? = some (recObj hd.sc (.slice ra rn rc) (.slice ea en ec)) by rw [hwz]; exact list_laid (recCells hd.sc (.slice ra rn rc) (.slice ea en ec)) Z.out rfl)
    have KB := Lib.hid (show Kept (fun j => j = w3.heap.size) (w3.alloc (.cells #[.int .i64 0, .string ⟨#[]⟩, .string ⟨#[]⟩, .bool false, .int .i64 0, .slice none 0 0, .slice none 0 0, .string ⟨#[]⟩, .string ⟨#[]⟩, .int .i64 0, .int .i64 0, .int .i64 0, .string ⟨#[]⟩, .int .i64 0, .int .i64 0] 55)) wz by rw [hwz]; exact Kept.setCells _ _ _ (Kept.refl _ _))
    have KZ := Lib.hid (K.out.after KB.out (fun j (e : j = w3.heap.size) => .inr (by have := NX.out; omega)))
    have IZ := Lib.hid (I1.out.keep KZ.out HCb.out)
    have BZ := Lib.hid (show Below w3.heap.size w3 wz by rw [hwz]; exact below_setCells (Nat.le_refl _) _ 0 _ (alloc_below0 _ _))
    have HZ := Lib.hid (show ∀ k, ZI k → BlkAt A w k → BlkAt B wz k from fun k q1 q2 => (HZ.out k q1 q2).low BZ.out)
    have RRz := Lib.hid ((RR.out.low BZ.out).subT (S := fun j => j < w.heap.size) (fun j (h : j < w.heap.size) => (show j < _ by have := LW.out; omega)))
    have RVz := Lib.hid (RV.out.below BZ.out)
    clear hwz
    refine hK.out _ _ IZ.out ?_
    clear hK K'
    try simp only [Act.put, sT, sZ, sS]
    refine anyH_one (i := 18) (o := ⟨some 5, _, _, _, _, _⟩) (by kernel_rfl) rfl (fun K' hK => ?_)
    rw [if_pos (by rfl)]
    go_simp
    refine hK.out _ _ IZ.out ?_
    clear hK K'
    try simp only [Act.put, sT, sZ, sS]
    refine wpAnyH_done (by kernel_rfl) ?_ _
    go_wp2
    go_meet
    case rel => exact ⟨_, la, ln, lc, ra, rn, rc, ea, en, ec, bs, rfl, rfl, rfl, (by have := NX.out; have := NW1.out; omega), ZZ.out, RRz.out, RVz.out, RO.out.1.sub (fun j (h : j < w.heap.size) => (show j < _ by have := LW.out; omega)), RO.out.2.1.sub (fun j (h : j < w.heap.size) => (show j < _ by have := LW.out; omega)), RO.out.2.2.1, RO.out.2.2.2, KZ.out, HZ.out⟩
   ·rw [if_pos (by rfl)]
    go_simp
    have bA := Lib.hid (alloc_below0 w2 (.cells #[.int .i64 0, .string ⟨#[]⟩, .string ⟨#[]⟩, .bool false, .int .i64 0, .slice none 0 0, .slice none 0 0, .string ⟨#[]⟩, .string ⟨#[]⟩, .int .i64 0, .int .i64 0, .int .i64 0, .string ⟨#[]⟩, .int .i64 0, .int .i64 0] 55))
    have NX := Lib.hid (show w1.heap.size ≤ w2.heap.size from K.out.size)
    have PZ := Lib.hid (show ∀ j, pv.ownBlock = some j → j ≠ w2.heap.size from fun j hj => by have := (PO.out.bounds j hj).2; omega)
    have I := Lib.hid (I.out.step bA.out)
    have K := Lib.hid (K.out.trans (Kept.of_below bA.out))
    have W := Lib.hid (W.out.trans (Kept.of_below bA.out))
    have PO := Lib.hid (PO.out.below bA.out)
    have Z := Lib.hid (show (w2.alloc (.cells #[.int .i64 0, .string ⟨#[]⟩, .string ⟨#[]⟩, .bool false, .int .i64 0, .slice none 0 0, .slice none 0 0, .string ⟨#[]⟩, .string ⟨#[]⟩, .int .i64 0, .int .i64 0, .int .i64 0, .string ⟨#[]⟩, .int .i64 0, .int .i64 0] 55)).heap[w2.heap.size]? = some (.cells #[.int .i64 0, .string ⟨#[]⟩, .string ⟨#[]⟩, .bool false, .int .i64 0, .slice none 0 0, .slice none 0 0, .string ⟨#[]⟩, .string ⟨#[]⟩, .int .i64 0, .int .i64 0, .int .i64 0, .string ⟨#[]⟩, .int .i64 0, .int .i64 0] 55 (0, 0)) from blk_new w2 _)
    have SA := Lib.hid (show (w2.alloc (.cells #[.int .i64 0, .string ⟨#[]⟩, .string ⟨#[]⟩, .bool false, .int .i64 0, .slice none 0 0, .slice none 0 0, .string ⟨#[]⟩, .string ⟨#[]⟩, .int .i64 0, .int .i64 0, .int .i64 0, .string ⟨#[]⟩, .int .i64 0, .int .i64 0] 55)).heap.size = w2.heap.size + 1 by simp)
    refine hK.out _ _ I.out ?_
    clear hK K'
    try simp only [Act.put, sT, sZ, sS]
    refine anyH_one (i := 10) (o := ⟨some 26, _, _, _, _, _⟩) (by kernel_rfl) rfl (fun K' hK => ?_)
    rw [if_pos (by rfl)]
    go_simp
    refine (iMade_any F hF caps pv _ (fun j => C j ∨ pv.ownBlock = some j) ZI (fun j hj => hj.elim (fun h => by have := HC.out j h; have := W.out.size; omega) (fun h => (PO.out.bounds j h).2)) ds hd (fun w9 hb => HM.out w9 pv (W.out.trans (Kept.of_below hb)) (PO.out.below hb))).mono ?_
    rintro e3 w3 ⟨la, ln, lc, ra, rn, rc, ea, en, ec, bs, rfl, hr, hv, o1, o2, h1, h2, hk, hz⟩
    have HZ := Lib.hid (show ∀ k, ZI k → BlkAt A w k → BlkAt B w3 k from fun k q1 q2 => hz k q1 (q2.kept W.out (fun e => HZb.out (e ▸ q1))))
    clear hz
    have LW := Lib.hid W.out.size
    have XL := Lib.hid (Array.getElem?_eq_some_iff.1 Z.out).1
    have Z := Lib.hid ((hk.block _ (Array.getElem?_eq_some_iff.1 Z.out).1 (fun h => h.elim (fun h => by have h1 := HC.out _ h; have h2 := NX.out; have h3 := NW1.out; omega) (fun h => PZ.out _ h rfl))).trans Z.out)
    have RR := Lib.hid hr
    have RV := Lib.hid (show RecV w3 (recVal hd.sc (.slice ra rn rc) (.slice ea en ec)) hd from hv)
    have RO := Lib.hid (show Out _ (.slice ra rn rc) ∧ Out _ (.slice ea en ec) ∧ hd.rows.length ≤ 1000 ∧ hd.ents.length ≤ 1000 from ⟨o1, o2, h1, h2⟩)
    have K := Lib.hid (K.out.after hk (fun j hj => hj.imp id (PN.out j)))
    have I := Lib.hid (I1.out.keep K.out HCb.out)
    clear hr hv o1 o2 h1 h2 hk
    unfold recVal
    refine hK.out _ _ I.out ?_
    clear hK K'
    try simp only [Act.put, sT, sZ, sS]
    refine tkH (i := 11) (oi := ⟨some 15, _, _, _, _, _⟩) (v := ?vtb11) rfl (Or.inl ⟨by rfl, ?hytb11⟩) I.out ?resttb11
    case hytb11 => (intro w hSw; go_simp; try (with_reducible rfl))
    simp only [Act.put, sT, sZ, sS]
    refine tkH (i := 12) (oi := ⟨some 27, _, _, _, _, _⟩) (v := ?vtb12) rfl (Or.inl ⟨by rfl, ?hytb12⟩) I.out ?resttb12
    case hytb12 => (intro w hSw; go_simp; try (with_reducible rfl))
    simp only [Act.put, sT, sZ, sS]
    refine tkH (i := 13) (oi := ⟨some 28, _, _, _, _, _⟩) (v := ?vtb13) rfl (Or.inl ⟨by rfl, ?hytb13⟩) I.out ?resttb13
    case hytb13 => (intro w hSw; go_simp; try (with_reducible rfl))
    simp only [Act.put, sT, sZ, sS]
    refine tkH (i := 14) (oi := ⟨some 29, _, _, _, _, _⟩) (v := ?vtb14) rfl (Or.inl ⟨by rfl, ?hytb14⟩) I.out ?resttb14
    case hytb14 => (intro w hSw; go_simp; try (with_reducible rfl))
    simp only [Act.put, sT, sZ, sS]
    refine anyH_one (i := 16) (o := ⟨some 3, _, _, _, _, _⟩) (by kernel_rfl) rfl (fun K' hK => ?_)
    rw [if_pos (by rfl)]
    go_simp
    refine hK.out _ _ I.out ?_
    clear hK K'
    try simp only [Act.put, sT, sZ, sS]
    refine anyH_one (i := 17) (o := ⟨none, _, _, _, _, _⟩) (by kernel_rfl) rfl (fun K' hK => ?_)
    rw [if_pos (by rfl)]
    refine wp_store_to 55 (.tmp 4) (.tmp 28) rfl (w2.heap.size) 0 (recCells hd.sc (.slice ra rn rc) (.slice ea en ec)) rfl rfl ?_ recInfoS (rec_one ..) ?_
    ·exact blk_there Z.out 15 (Nat.le_refl _)
    intro wz hwz
    have ZZ := Lib.hid (show wz.heap[w2.heap.size]? = some (recObj hd.sc (.slice ra rn rc) (.slice ea en ec)) by rw [hwz]; exact list_laid (recCells hd.sc (.slice ra rn rc) (.slice ea en ec)) Z.out rfl)
    have KB := Lib.hid (show Kept (fun j => j = w2.heap.size) w3 wz by rw [hwz]; exact Kept.setCells _ _ _ (Kept.refl _ _))
    have KZ := Lib.hid (K.out.after KB.out (fun j (e : j = w2.heap.size) => .inr (by have := NX.out; omega)))
    have IZ := Lib.hid (I1.out.keep KZ.out HCb.out)
    have HZ := Lib.hid (show ∀ k, ZI k → BlkAt A w k → BlkAt B wz k from fun k q1 q2 => (HZ.out k q1 q2).kept KB.out (fun (e : k = w2.heap.size) => by have h1 := q2.lt; have h2 := NX.out; have h3 := NW1.out; omega))
    have KT := Lib.hid (KB.out.wide fun j _ (e : j = w2.heap.size) => (show j < _ from e ▸ XL.out))
    have RRz := Lib.hid ((RR.out.kept KT.out).subT (S := fun j => j < w.heap.size) (fun j (h : j < w.heap.size) => (show j < _ by have := LW.out; omega)))
    have RVz := Lib.hid (RV.out.kept KT.out RO.out.1 RO.out.2.1)
    clear hwz
    refine hK.out _ _ IZ.out ?_
    clear hK K'
    try simp only [Act.put, sT, sZ, sS]
    refine anyH_one (i := 18) (o := ⟨some 5, _, _, _, _, _⟩) (by kernel_rfl) rfl (fun K' hK => ?_)
    rw [if_pos (by rfl)]
    go_simp
    refine hK.out _ _ IZ.out ?_
    clear hK K'
    try simp only [Act.put, sT, sZ, sS]
    refine wpAnyH_done (by kernel_rfl) ?_ _
    go_wp2
    go_meet
    case rel => exact ⟨_, la, ln, lc, ra, rn, rc, ea, en, ec, bs, rfl, rfl, rfl, (by have := NX.out; have := NW1.out; omega), ZZ.out, RRz.out, RVz.out, RO.out.1.sub (fun j (h : j < w.heap.size) => (show j < _ by have := LW.out; omega)), RO.out.2.1.sub (fun j (h : j < w.heap.size) => (show j < _ by have := LW.out; omega)), RO.out.2.2.1, RO.out.2.2.2, KZ.out, HZ.out⟩
  ·rw [if_pos (by rfl)]
   go_simp
   have bA := Lib.hid (alloc_below0 wd (.cells #[.int .i64 0, .string ⟨#[]⟩, .string ⟨#[]⟩, .bool false, .int .i64 0, .slice none 0 0, .slice none 0 0, .string ⟨#[]⟩, .string ⟨#[]⟩, .int .i64 0, .int .i64 0, .int .i64 0, .string ⟨#[]⟩, .int .i64 0, .int .i64 0] 55))
   have NX := Lib.hid (show w1.heap.size ≤ wd.heap.size from K.out.size)
   have I := Lib.hid (I.out.step bA.out)
   have K := Lib.hid (K.out.trans (Kept.of_below bA.out))
   have W := Lib.hid (W.out.trans (Kept.of_below bA.out))
   have Z := Lib.hid (show (wd.alloc (.cells #[.int .i64 0, .string ⟨#[]⟩, .string ⟨#[]⟩, .bool false, .int .i64 0, .slice none 0 0, .slice none 0 0, .string ⟨#[]⟩, .string ⟨#[]⟩, .int .i64 0, .int .i64 0, .int .i64 0, .string ⟨#[]⟩, .int .i64 0, .int .i64 0] 55)).heap[wd.heap.size]? = some (.cells #[.int .i64 0, .string ⟨#[]⟩, .string ⟨#[]⟩, .bool false, .int .i64 0, .slice none 0 0, .slice none 0 0, .string ⟨#[]⟩, .string ⟨#[]⟩, .int .i64 0, .int .i64 0, .int .i64 0, .string ⟨#[]⟩, .int .i64 0, .int .i64 0] 55 (0, 0)) from blk_new wd _)
   have SA := Lib.hid (show (wd.alloc (.cells #[.int .i64 0, .string ⟨#[]⟩, .string ⟨#[]⟩, .bool false, .int .i64 0, .slice none 0 0, .slice none 0 0, .string ⟨#[]⟩, .string ⟨#[]⟩, .int .i64 0, .int .i64 0, .int .i64 0, .string ⟨#[]⟩, .int .i64 0, .int .i64 0] 55)).heap.size = wd.heap.size + 1 by simp)
   refine hK.out _ _ I.out ?_
   clear hK K'
   try simp only [Act.put, sT, sZ, sS]
   refine anyH_one (i := 9) (o := ⟨some 25, _, _, _, _, _⟩) (by kernel_rfl) rfl (fun K' hK => ?_)
   rw [if_pos (by rfl)]
   go_simp
   refine (clone_ints _ i.pgsL _ (show SV lInt _ (.slice (some ⟨b, 6, none⟩) i.tk 4) i.pgsL from I.out.pgs HH.out.2.2.2) (by simp [Ins.pgsL]; have := HH.out.2.2.2; omega)).mono ?_
   rintro e2 w2 ⟨pv, rfl, ho, hs⟩
   have PN := Lib.hid (show ∀ j, pv.ownBlock = some j → w1.heap.size ≤ j from fun j hj => by have := (ho.bounds j hj).1; have := K.out.size; omega)
   have PZ := Lib.hid (show ∀ j, pv.ownBlock = some j → j ≠ wd.heap.size from fun j hj => by have h1 := (ho.bounds j hj).1; have h2 := SA.out; omega)
   have Z := Lib.hid (blk_step Z.out hs)
   have PO := Lib.hid (ho.mono (b' := w.heap.size) (by have := W.out.size; omega))
   have I := Lib.hid (I.out.step hs)
   have K := Lib.hid (K.out.trans (Kept.of_below hs))
   have W := Lib.hid (W.out.trans (Kept.of_below hs))
   clear ho hs
   refine hK.out _ _ I.out ?_
   clear hK K'
   try simp only [Act.put, sT, sZ, sS]
   refine anyH_one (i := 10) (o := ⟨some 26, _, _, _, _, _⟩) (by kernel_rfl) rfl (fun K' hK => ?_)
   rw [if_pos (by rfl)]
   go_simp
   refine (iMade_any F hF caps pv _ (fun j => C j ∨ pv.ownBlock = some j) ZI (fun j hj => hj.elim (fun h => by have := HC.out j h; have := W.out.size; omega) (fun h => (PO.out.bounds j h).2)) ds hd (fun w9 hb => HM.out w9 pv (W.out.trans (Kept.of_below hb)) (PO.out.below hb))).mono ?_
   rintro e3 w3 ⟨la, ln, lc, ra, rn, rc, ea, en, ec, bs, rfl, hr, hv, o1, o2, h1, h2, hk, hz⟩
   have HZ := Lib.hid (show ∀ k, ZI k → BlkAt A w k → BlkAt B w3 k from fun k q1 q2 => hz k q1 (q2.kept W.out (fun e => HZb.out (e ▸ q1))))
   clear hz
   have LW := Lib.hid W.out.size
   have XL := Lib.hid (Array.getElem?_eq_some_iff.1 Z.out).1
   have Z := Lib.hid ((hk.block _ (Array.getElem?_eq_some_iff.1 Z.out).1 (fun h => h.elim (fun h => by have h1 := HC.out _ h; have h2 := NX.out; have h3 := NW1.out; omega) (fun h => PZ.out _ h rfl))).trans Z.out)
   have RR := Lib.hid hr
   have RV := Lib.hid (show RecV w3 (recVal hd.sc (.slice ra rn rc) (.slice ea en ec)) hd from hv)
   have RO := Lib.hid (show Out _ (.slice ra rn rc) ∧ Out _ (.slice ea en ec) ∧ hd.rows.length ≤ 1000 ∧ hd.ents.length ≤ 1000 from ⟨o1, o2, h1, h2⟩)
   have K := Lib.hid (K.out.after hk (fun j hj => hj.imp id (PN.out j)))
   have I := Lib.hid (I1.out.keep K.out HCb.out)
   clear hr hv o1 o2 h1 h2 hk
   unfold recVal
   refine hK.out _ _ I.out ?_
   clear hK K'
   try simp only [Act.put, sT, sZ, sS]
   refine tkH (i := 11) (oi := ⟨some 15, _, _, _, _, _⟩) (v := ?vtc11) rfl (Or.inl ⟨by rfl, ?hytc11⟩) I.out ?resttc11
   case hytc11 => (intro w hSw; go_simp; try (with_reducible rfl))
   simp only [Act.put, sT, sZ, sS]
   refine tkH (i := 12) (oi := ⟨some 27, _, _, _, _, _⟩) (v := ?vtc12) rfl (Or.inl ⟨by rfl, ?hytc12⟩) I.out ?resttc12
   case hytc12 => (intro w hSw; go_simp; try (with_reducible rfl))
   simp only [Act.put, sT, sZ, sS]
   refine tkH (i := 13) (oi := ⟨some 28, _, _, _, _, _⟩) (v := ?vtc13) rfl (Or.inl ⟨by rfl, ?hytc13⟩) I.out ?resttc13
   case hytc13 => (intro w hSw; go_simp; try (with_reducible rfl))
   simp only [Act.put, sT, sZ, sS]
   refine tkH (i := 14) (oi := ⟨some 29, _, _, _, _, _⟩) (v := ?vtc14) rfl (Or.inl ⟨by rfl, ?hytc14⟩) I.out ?resttc14
   case hytc14 => (intro w hSw; go_simp; try (with_reducible rfl))
   simp only [Act.put, sT, sZ, sS]
   refine anyH_one (i := 16) (o := ⟨some 3, _, _, _, _, _⟩) (by kernel_rfl) rfl (fun K' hK => ?_)
   rw [if_pos (by rfl)]
   go_simp
   refine hK.out _ _ I.out ?_
   clear hK K'
   try simp only [Act.put, sT, sZ, sS]
   refine anyH_one (i := 17) (o := ⟨none, _, _, _, _, _⟩) (by kernel_rfl) rfl (fun K' hK => ?_)
   rw [if_pos (by rfl)]
   refine wp_store_to 55 (.tmp 4) (.tmp 28) rfl (wd.heap.size) 0 (recCells hd.sc (.slice ra rn rc) (.slice ea en ec)) rfl rfl ?_ recInfoS (rec_one ..) ?_
   ·exact blk_there Z.out 15 (Nat.le_refl _)
   intro wz hwz
   have ZZ := Lib.hid (show wz.heap[wd.heap.size]? = some (recObj hd.sc (.slice ra rn rc) (.slice ea en ec)) by rw [hwz]; exact list_laid (recCells hd.sc (.slice ra rn rc) (.slice ea en ec)) Z.out rfl)
   have KB := Lib.hid (show Kept (fun j => j = wd.heap.size) w3 wz by rw [hwz]; exact Kept.setCells _ _ _ (Kept.refl _ _))
   have KZ := Lib.hid (K.out.after KB.out (fun j (e : j = wd.heap.size) => .inr (by have := NX.out; omega)))
   have IZ := Lib.hid (I1.out.keep KZ.out HCb.out)
   have HZ := Lib.hid (show ∀ k, ZI k → BlkAt A w k → BlkAt B wz k from fun k q1 q2 => (HZ.out k q1 q2).kept KB.out (fun (e : k = wd.heap.size) => by have h1 := q2.lt; have h2 := NX.out; have h3 := NW1.out; omega))
   have KT := Lib.hid (KB.out.wide fun j _ (e : j = wd.heap.size) => (show j < _ from e ▸ XL.out))
   have RRz := Lib.hid ((RR.out.kept KT.out).subT (S := fun j => j < w.heap.size) (fun j (h : j < w.heap.size) => (show j < _ by have := LW.out; omega)))
   have RVz := Lib.hid (RV.out.kept KT.out RO.out.1 RO.out.2.1)
   clear hwz
   refine hK.out _ _ IZ.out ?_
   clear hK K'
   try simp only [Act.put, sT, sZ, sS]
   refine anyH_one (i := 18) (o := ⟨some 5, _, _, _, _, _⟩) (by kernel_rfl) rfl (fun K' hK => ?_)
   rw [if_pos (by rfl)]
   go_simp
   refine hK.out _ _ IZ.out ?_
   clear hK K'
   try simp only [Act.put, sT, sZ, sS]
   refine wpAnyH_done (by kernel_rfl) ?_ _
   go_wp2
   go_meet
   case rel => exact ⟨_, la, ln, lc, ra, rn, rc, ea, en, ec, bs, rfl, rfl, rfl, (by have := NX.out; have := NW1.out; omega), ZZ.out, RRz.out, RVz.out, RO.out.1.sub (fun j (h : j < w.heap.size) => (show j < _ by have := LW.out; omega)), RO.out.2.1.sub (fun j (h : j < w.heap.size) => (show j < _ by have := LW.out; omega)), RO.out.2.2.1, RO.out.2.2.2, KZ.out, HZ.out⟩
 case rest =>
  obtain ⟨xb, la, ln, lc, ra, rn, rc, ea, en, ec, bs, rfl, rfl, rfl, hxb, hz, hr, hv, o1, o2, h1, h2, hk, hZI⟩ := hcut
  have HZ := Lib.hid hZI
  clear hZI
  obtain ⟨wL, hwq⟩ : ∃ x, x = wc := ⟨_, rfl⟩
  subst hwq
  have b0 : b < w.heap.size := HT.out b HTb.out
  have I2 := Lib.hid (I1.out.keep hk HCb.out)
  have Z2 := Lib.hid hz
  have LL := Lib.hid (show w.heap.size ≤ wL.heap.size by have h1 := KA.out.size; have h2 := hk.size; omega)
  have RR := Lib.hid (show RecsV wL (fun k => k = b) (.slice la ln lc) bs ds from hr.subT (fun j (e : j = b) => (show j < w.heap.size by omega)))
  have RV := Lib.hid (show RecV wL (recVal hd.sc (.slice ra rn rc) (.slice ea en ec)) hd ∧ Out (fun j => j = b) (.slice ra rn rc) ∧ Out (fun j => j = b) (.slice ea en ec) ∧ hd.rows.length ≤ 1000 ∧ hd.ents.length ≤ 1000 from ⟨hv, o1.sub (fun j (e : j = b) => (show j < w.heap.size by omega)), o2.sub (fun j (e : j = b) => (show j < w.heap.size by omega)), h1, h2⟩)
  have K2 := Lib.hid (KA.out.both hk)
  have x5 : wL.cell? ⟨b, 5, none⟩ = some (.int .i64 2) := by have := I2.out.cSt; rw [show ({ i with fn := .nilFunc } : Ins).st = 2 from HH.out.1] at this; exact this
  clear hxb hz hr hv o1 o2 h1 h2 hk b0
  go_wp2_with (refine wpList_load_mid rfl 55 (.tmp 4) rfl xb 0 rfl (recCells hd.sc (.slice ra rn rc) (.slice ea en ec)) _ ?_ Tryz.underlying55 rfl recInfoS ?_; exact rec_range Z2.out)
  refine (iKeep_any wL b { i with fn := .nilFunc } T (fun j hj => by have h1 := HT.out j hj; have h2 := LL.out; omega) HTb.out (.slice la ln lc) bs ds hd ra rn rc ea en ec I2.out HH.out.2.1 HH.out.2.2.1 RR.out RV.out.1 RV.out.2.1 RV.out.2.2.1 RV.out.2.2.2.1 RV.out.2.2.2.2).mono ?_
  rintro ev w3 ⟨rfl, hk, rc', hI, hR⟩
  have HZ3 := Lib.hid (show ∀ k, ZI k → BlkAt A w k → BlkAt B w3 k from fun k q1 q2 => (HZ.out k q1 q2).kept hk (fun e => HZb.out (e ▸ q1)))
  have K3 := Lib.hid (show Kept (fun k => C k ∨ k = b) w w3 from (K2.out.trans2 hk (fun _ h => h.symm) (fun _ h => .inr h)))
  have I3 := Lib.hid hI
  have R3 := Lib.hid hR
  clear hk hI hR x5
  go_wp2
  go_end0
  exact ⟨rfl, K3.out, HZ3.out, rc', I3.out, R3.out⟩
open Go.RowKit
def StepP (w : World) (b : Nat) (m : MB) (S : Nat → Prop) (l : LimN) (k : Int) (ps' : List Pt) (L' : List Pg) (c : Ck) (X : Nat → Prop) (J : World → Ins → Prop) (ev : Ending) (w' : World) : Prop :=
 ∃ S' j, ev = .returned (.bool (((settleI j).st : Int) == 0)) ∧ InsAt w' b (settleI j) ∧ MemAt w' m S' l (inc k) ps' L' c ∧ Kept (fun x => US m S b x ∨ X x) w w' ∧ (∀ x, MS m S' x → MS m S x ∨ w.heap.size ≤ x) ∧ J w' j
theorem US.x {m : MB} {S X : Nat → Prop} {b : Nat} {w w' : World} (hk : Kept (US m S b) w w') : Kept (fun x => US m S b x ∨ X x) w w' := hk.wide fun _ _ h => .inl h
def NoX : Nat → Prop := fun _ => False
theorem undo_ok (i : Ins) (v : Value) (h : ErV v) : (undoI i v).st ≤ 8 ∧ FnOk (undoI i v).fn ∧ ErV (undoI i v).er := ⟨(by show 7 ≤ 8; decide), .inl rfl, h⟩
theorem iStep0 (w : World) (b : Nat) (i : Ins) (mv : Value) (hi : InsAt w b i) (hs : i.st = 0) : Calls Tryz.prog 11 #[.pointer (some ⟨b, 0, none⟩), mv] w fun ev w' => ev = .returned (.bool true) ∧ w = w' := by
 have I0 := Lib.hid hi
 have hov : ((i.st : Int) == 0) = true := by rw [hs]; rfl
 have ho := fun w' h => nOver_any w' b i h
 rw [hov] at ho
 clear hi hs hov
 go_enter Tryz.func11, Tryz.ntmps11
 go_wp2_with fail
 refine (ho _ I0.out).mono ?_
 rintro ev w1 ⟨rfl, rfl⟩
 go_wp2
 go_ret
 exact ⟨rfl, rfl⟩
theorem iStep1 (w : World) (b : Nat) (i : Ins) (m : MB) (S : Nat → Prop) (l : LimN) (k : Int) (ps : List Pt) (L : List Pg) (c : Ck) (hi : InsAt w b i) (h : MemAt w m S l k ps L c) (hb : ¬ MS m S b) (hf : FnOk i.fn) (he : ErV i.er) (hs : i.st = 1) (h4 : i.tk < 4) : Calls Tryz.prog 11 #[.pointer (some ⟨b, 0, none⟩), .pointer (some ⟨m.mb, 0, none⟩)] w (StepP w b m S l k ps (takeL L) c NoX fun w' j => (takeE L = 0 ∧ j = takeI i (takeN L : Int)) ∨ (takeE L ≠ 0 ∧ ∃ v, ErrF w' v (takeE L) ∧ j = undoI i v)) := by
 have I0 := Lib.hid hi
 have M0 := Lib.hid h
 have HB := Lib.hid hb
 have FE := Lib.hid (show FnOk i.fn ∧ ErV i.er from ⟨hf, he⟩)
 have x5 := hi.cSt
 have hov : ((i.st : Int) == 0) = false := by rw [hs]; rfl
 have ho := fun w' h => nOver_any w' b i h
 rw [hov] at ho
 have HS := Lib.hid hs
 rw [hs] at x5
 have H4 := Lib.hid h4
 have HBZ := Lib.hid hb
 clear h4
 clear hi h hb hf he hs hov
 go_enter Tryz.func11, Tryz.ntmps11
 go_wp2_with fail
 refine (ho _ I0.out).mono ?_
 rintro ev w1 ⟨rfl, rfl⟩
 go_wp2_with fail
 refine (iTake_any _ b i m S l k ps L c I0.out M0.out HB.out H4.out).mono ?_
 rintro ev w2 ⟨rfl, hM, hk, hcase⟩
 have M2 := Lib.hid hM
 have K2 := Lib.hid hk
 clear hM hk x5
 rcases hcase with ⟨h0, hI⟩ | ⟨h0, v, hE, hI⟩
 ·have I2 := Lib.hid hI
  have HC := Lib.hid h0
  clear hI h0
  have JK := Lib.hid (show (takeI i (takeN L : Int)).st ≤ 8 ∧ FnOk (takeI i (takeN L : Int)).fn ∧ ErV (takeI i (takeN L : Int)).er from ⟨(by show i.st ≤ 8; have := HS.out; omega), FE.out.1, FE.out.2⟩)
  go_wp2_with fail
  refine (settle_any _ b _ I2.out JK.out.1 JK.out.2.1 JK.out.2.2).mono ?_
  rintro ev wz ⟨rfl, hI, hk⟩
  have IZ := Lib.hid hI
  have MZ := Lib.hid (M2.out.off1 hk HBZ.out)
  have KZ := Lib.hid (K2.out.trans (US.one (m := m) (S := S) hk))
  have KO := Lib.hid hk
  clear hI hk
  go_wp2_with fail
  refine (nOver_any _ b _ IZ.out).mono ?_
  rintro ev wy ⟨rfl, rfl⟩
  go_wp2
  go_ret
  exact ⟨S, _, rfl, IZ.out, MZ.out, US.x KZ.out, fun _ h => .inl h, .inl ⟨HC.out, rfl⟩⟩
 ·have I2 := Lib.hid hI
  have HC := Lib.hid h0
  have E2 := Lib.hid hE
  clear hI h0 hE
  have JK := Lib.hid (undo_ok i v E2.out.erv)
  go_wp2_with fail
  refine (settle_any _ b _ I2.out JK.out.1 JK.out.2.1 JK.out.2.2).mono ?_
  rintro ev wz ⟨rfl, hI, hk⟩
  have IZ := Lib.hid hI
  have MZ := Lib.hid (M2.out.off1 hk HBZ.out)
  have KZ := Lib.hid (K2.out.trans (US.one (m := m) (S := S) hk))
  have KO := Lib.hid hk
  clear hI hk
  go_wp2_with fail
  refine (nOver_any _ b _ IZ.out).mono ?_
  rintro ev wy ⟨rfl, rfl⟩
  have EZ := Lib.hid (E2.out.kept KO.out I2.out.fault)
  go_wp2
  go_ret
  exact ⟨S, _, rfl, IZ.out, MZ.out, US.x KZ.out, fun _ h => .inl h, .inr ⟨HC.out, v, EZ.out, rfl⟩⟩
theorem iStep3 (w : World) (b : Nat) (i : Ins) (m : MB) (S : Nat → Prop) (l : LimN) (k : Int) (ps : List Pt) (L : List Pg) (c : Ck) (hi : InsAt w b i) (h : MemAt w m S l k ps L c) (hb : ¬ MS m S b) (hf : FnOk i.fn) (he : ErV i.er) (hs : i.st = 3) (h5 : i.pt < 5) (d : RecD) (hr : RecIn w (MS m S) (rcLf i.rc i.pt) d) : Calls Tryz.prog 11 #[.pointer (some ⟨b, 0, none⟩), .pointer (some ⟨m.mb, 0, none⟩)] w (StepP w b m S l k (putM l.s l.c ps d) L c NoX (fun w' j => ((allocM l.s l.c ps).2.2 = 0 ∧ j = fillI i (((allocM l.s l.c ps).1 : Int), ((allocM l.s l.c ps).2.1 : Int))) ∨ ((allocM l.s l.c ps).2.2 ≠ 0 ∧ ∃ v, ErrF w' v (allocM l.s l.c ps).2.2 ∧ j = undoI i v))) := by
 have I0 := Lib.hid hi
 have M0 := Lib.hid h
 have HB := Lib.hid hb
 have FE := Lib.hid (show FnOk i.fn ∧ ErV i.er from ⟨hf, he⟩)
 have x5 := hi.cSt
 have hov : ((i.st : Int) == 0) = false := by rw [hs]; rfl
 have ho := fun w' h => nOver_any w' b i h
 rw [hov] at ho
 have HS := Lib.hid hs
 rw [hs] at x5
 have H5 := Lib.hid h5
 have HR := Lib.hid hr
 have LF := Lib.hid (Nat.le_refl w.heap.size)
 have MF := Lib.hid h
 have FK := Lib.hid (show (fillI i (((allocM l.s l.c ps).1 : Int), ((allocM l.s l.c ps).2.1 : Int))).st ≤ 8 ∧ FnOk (fillI i (((allocM l.s l.c ps).1 : Int), ((allocM l.s l.c ps).2.1 : Int))).fn ∧ ErV (fillI i (((allocM l.s l.c ps).1 : Int), ((allocM l.s l.c ps).2.1 : Int))).er from ⟨(by show i.st ≤ 8; omega), hf, he⟩)
 clear h5 hr
 clear hi h hb hf he hs hov
 go_enter Tryz.func11, Tryz.ntmps11
 go_wp2_with fail
 refine (ho _ I0.out).mono ?_
 rintro ev w1 ⟨rfl, rfl⟩
 go_wp2_with fail
 refine (iFill_any _ b i m S l k ps L c d I0.out MF.out HB.out H5.out HR.out).mono ?_
 rintro ev w2 ⟨rfl, S', hM, hk, hS, hcase⟩
 have M2 := Lib.hid hM
 have K2 := Lib.hid hk
 have HBZ := Lib.hid (show ¬ MS m S' b from fun hm => (hS b hm).elim HB.out (fun h => by have := I0.out.lt; omega))
 have FSq := Lib.hid (show ∀ x, MS m S' x → MS m S x ∨ w.heap.size ≤ x from fun x hx => (hS x hx).imp id (fun h => by have := LF.out; omega))
 clear hM hk hS
 rcases hcase with ⟨h0, hI⟩ | ⟨h0, v, hE, hI⟩
 ·have I2 := Lib.hid hI
  have HC := Lib.hid h0
  clear hI h0
  have JK := Lib.hid (show (fillI i (((allocM l.s l.c ps).1 : Int), ((allocM l.s l.c ps).2.1 : Int))).st ≤ 8 ∧ FnOk (fillI i (((allocM l.s l.c ps).1 : Int), ((allocM l.s l.c ps).2.1 : Int))).fn ∧ ErV (fillI i (((allocM l.s l.c ps).1 : Int), ((allocM l.s l.c ps).2.1 : Int))).er from FK.out)
  go_wp2_with fail
  refine (settle_any _ b _ I2.out JK.out.1 JK.out.2.1 JK.out.2.2).mono ?_
  rintro ev wz ⟨rfl, hI, hk⟩
  have IZ := Lib.hid hI
  have MZ := Lib.hid (M2.out.off1 hk HBZ.out)
  have KZ := Lib.hid (K2.out.trans (US.one (m := m) (S := S) hk))
  have KO := Lib.hid hk
  clear hI hk
  go_wp2_with fail
  refine (nOver_any _ b _ IZ.out).mono ?_
  rintro ev wy ⟨rfl, rfl⟩
  go_wp2
  go_ret
  exact ⟨S', _, rfl, IZ.out, MZ.out, US.x KZ.out, FSq.out, .inl ⟨HC.out, rfl⟩⟩
 ·have I2 := Lib.hid hI
  have HC := Lib.hid h0
  have E2 := Lib.hid hE
  clear hI h0 hE
  have JK := Lib.hid (undo_ok i v E2.out.erv)
  go_wp2_with fail
  refine (settle_any _ b _ I2.out JK.out.1 JK.out.2.1 JK.out.2.2).mono ?_
  rintro ev wz ⟨rfl, hI, hk⟩
  have IZ := Lib.hid hI
  have MZ := Lib.hid (M2.out.off1 hk HBZ.out)
  have KZ := Lib.hid (K2.out.trans (US.one (m := m) (S := S) hk))
  have KO := Lib.hid hk
  clear hI hk
  go_wp2_with fail
  refine (nOver_any _ b _ IZ.out).mono ?_
  rintro ev wy ⟨rfl, rfl⟩
  have EZ := Lib.hid (E2.out.kept KO.out I2.out.fault)
  go_wp2
  go_ret
  exact ⟨S', _, rfl, IZ.out, MZ.out, US.x KZ.out, FSq.out, .inr ⟨HC.out, v, EZ.out, rfl⟩⟩
theorem iStep5 (w : World) (b : Nat) (i : Ins) (m : MB) (S : Nat → Prop) (l : LimN) (k : Int) (ps : List Pt) (L : List Pg) (c : Ck) (hi : InsAt w b i) (h : MemAt w m S l k ps L c) (hb : ¬ MS m S b) (hf : FnOk i.fn) (he : ErV i.er) (hs : i.st = 5) (h5 : i.pt < 5) (d : RecD) (hr : RecIn w (MS m S) (rcLf i.rc i.pt) d) : Calls Tryz.prog 11 #[.pointer (some ⟨b, 0, none⟩), .pointer (some ⟨m.mb, 0, none⟩)] w (StepP w b m S l k (putM l.s l.c ps d) L c NoX (fun w' j => ((allocM l.s l.c ps).2.2 = 0 ∧ j = fillI i (((allocM l.s l.c ps).1 : Int), ((allocM l.s l.c ps).2.1 : Int))) ∨ ((allocM l.s l.c ps).2.2 ≠ 0 ∧ ∃ v, ErrF w' v (allocM l.s l.c ps).2.2 ∧ j = undoI i v))) := by
 have I0 := Lib.hid hi
 have M0 := Lib.hid h
 have HB := Lib.hid hb
 have FE := Lib.hid (show FnOk i.fn ∧ ErV i.er from ⟨hf, he⟩)
 have x5 := hi.cSt
 have hov : ((i.st : Int) == 0) = false := by rw [hs]; rfl
 have ho := fun w' h => nOver_any w' b i h
 rw [hov] at ho
 have HS := Lib.hid hs
 rw [hs] at x5
 have H5 := Lib.hid h5
 have HR := Lib.hid hr
 have LF := Lib.hid (Nat.le_refl w.heap.size)
 have MF := Lib.hid h
 have FK := Lib.hid (show (fillI i (((allocM l.s l.c ps).1 : Int), ((allocM l.s l.c ps).2.1 : Int))).st ≤ 8 ∧ FnOk (fillI i (((allocM l.s l.c ps).1 : Int), ((allocM l.s l.c ps).2.1 : Int))).fn ∧ ErV (fillI i (((allocM l.s l.c ps).1 : Int), ((allocM l.s l.c ps).2.1 : Int))).er from ⟨(by show i.st ≤ 8; omega), hf, he⟩)
 clear h5 hr
 clear hi h hb hf he hs hov
 go_enter Tryz.func11, Tryz.ntmps11
 go_wp2_with fail
 refine (ho _ I0.out).mono ?_
 rintro ev w1 ⟨rfl, rfl⟩
 go_wp2_with fail
 refine (iFill_any _ b i m S l k ps L c d I0.out MF.out HB.out H5.out HR.out).mono ?_
 rintro ev w2 ⟨rfl, S', hM, hk, hS, hcase⟩
 have M2 := Lib.hid hM
 have K2 := Lib.hid hk
 have HBZ := Lib.hid (show ¬ MS m S' b from fun hm => (hS b hm).elim HB.out (fun h => by have := I0.out.lt; omega))
 have FSq := Lib.hid (show ∀ x, MS m S' x → MS m S x ∨ w.heap.size ≤ x from fun x hx => (hS x hx).imp id (fun h => by have := LF.out; omega))
 clear hM hk hS
 rcases hcase with ⟨h0, hI⟩ | ⟨h0, v, hE, hI⟩
 ·have I2 := Lib.hid hI
  have HC := Lib.hid h0
  clear hI h0
  have JK := Lib.hid (show (fillI i (((allocM l.s l.c ps).1 : Int), ((allocM l.s l.c ps).2.1 : Int))).st ≤ 8 ∧ FnOk (fillI i (((allocM l.s l.c ps).1 : Int), ((allocM l.s l.c ps).2.1 : Int))).fn ∧ ErV (fillI i (((allocM l.s l.c ps).1 : Int), ((allocM l.s l.c ps).2.1 : Int))).er from FK.out)
  go_wp2_with fail
  refine (settle_any _ b _ I2.out JK.out.1 JK.out.2.1 JK.out.2.2).mono ?_
  rintro ev wz ⟨rfl, hI, hk⟩
  have IZ := Lib.hid hI
  have MZ := Lib.hid (M2.out.off1 hk HBZ.out)
  have KZ := Lib.hid (K2.out.trans (US.one (m := m) (S := S) hk))
  have KO := Lib.hid hk
  clear hI hk
  go_wp2_with fail
  refine (nOver_any _ b _ IZ.out).mono ?_
  rintro ev wy ⟨rfl, rfl⟩
  go_wp2
  go_ret
  exact ⟨S', _, rfl, IZ.out, MZ.out, US.x KZ.out, FSq.out, .inl ⟨HC.out, rfl⟩⟩
 ·have I2 := Lib.hid hI
  have HC := Lib.hid h0
  have E2 := Lib.hid hE
  clear hI h0 hE
  have JK := Lib.hid (undo_ok i v E2.out.erv)
  go_wp2_with fail
  refine (settle_any _ b _ I2.out JK.out.1 JK.out.2.1 JK.out.2.2).mono ?_
  rintro ev wz ⟨rfl, hI, hk⟩
  have IZ := Lib.hid hI
  have MZ := Lib.hid (M2.out.off1 hk HBZ.out)
  have KZ := Lib.hid (K2.out.trans (US.one (m := m) (S := S) hk))
  have KO := Lib.hid hk
  clear hI hk
  go_wp2_with fail
  refine (nOver_any _ b _ IZ.out).mono ?_
  rintro ev wy ⟨rfl, rfl⟩
  have EZ := Lib.hid (E2.out.kept KO.out I2.out.fault)
  go_wp2
  go_ret
  exact ⟨S', _, rfl, IZ.out, MZ.out, US.x KZ.out, FSq.out, .inr ⟨HC.out, v, EZ.out, rfl⟩⟩
end Go.Proofs.YtejmdmaebkdjoaaGreatDoor
