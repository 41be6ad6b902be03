/- Package install's prepare, by contract, for any Make. -/
import Derived.Test.YtaiaaljahnackaaNsMade
import Derived.Deep.CutRange
namespace Go.Proofs.Ytaiaaljahnackaa
open Go.RowKit

/-- the pages that an installer took -/
def Ins.pgsL (i : Ins) : List Int := (List.range i.tk).map i.pg
theorem lInt_at : ∀ (xs : List Int) (j : Nat), (lInt.flat xs)[j]? = (xs[j]?).map (Value.int .i64)
  | [], j => by simp [Lay.flat]
  | x :: xs, 0 => by simp [Lay.flat, lInt]
  | x :: xs, j + 1 => by
    have := lInt_at xs j
    simp only [Lay.flat] at *
    simpa [lInt] using this
theorem InsAt.pgs {w : World} {b : Nat} {i : Ins} (h : InsAt w b i) (h4 : i.tk ≤ 4) : SV lInt w (.slice (some ⟨b, 6, none⟩) i.tk 4) i.pgsL := by
  have hl : i.pgsL.length = i.tk := by simp [Ins.pgsL]
  refine ⟨some ⟨b, 6, none⟩, 4, by rw [hl], by omega, by decide, (fun e => by cases e), b, 6, fun _ x e => (Option.some.inj e).symm, fun j u hu => ?_⟩
  rw [lInt_at] at hu
  have hj : j < i.tk := by
    rcases Nat.lt_or_ge j i.tk with h' | h'
    · exact h'
    · rw [List.getElem?_eq_none (by omega)] at hu; cases hu
  have he : i.pgsL[j]? = some (i.pg j) := by simp [Ins.pgsL, hj]
  rw [he] at hu
  obtain rfl : u = .int .i64 (i.pg j) := (Option.some.inj hu).symm
  exact h.cPg (by omega)
theorem Kept.after {S D : Nat → Prop} {w w1 w2 : World} (h : Kept S w w1) (k : Kept D w1 w2) (hD : ∀ j, D j → S j ∨ w.heap.size ≤ j) : Kept S w w2 :=
  ⟨k.os.trans h.os, k.tape.trans h.tape, k.output.trans h.output, Nat.le_trans h.size k.size, fun j hj hn => (k.block j (Nat.lt_of_lt_of_le hj h.size) (fun hd => (hD j hd).elim hn (fun h => by omega))).trans (h.block j hj hn)⟩
theorem Kept.both {S T : Nat → Prop} {a b c : World} (h : Kept S a b) (k : Kept T b c) : Kept (fun j => S j ∨ T j) a c := h.trans2 k (fun _ h => .inl h) (fun _ h => .inr h)
set_option maxRecDepth 100000 in
set_option maxHeartbeats 4000000 in
theorem iPrep_any (F : FuncId) (hF : ∀ args w, (callFunc F args).run Try.prog w = .ok (.enter F args) w) (caps : Array Value) (w : World) (b : Nat) (i : Ins) (C ZI T : Nat → Prop) (hZb : ¬ ZI b) (ds : List RecD) (hd : RecD) (hi : InsAt w b i) (hst : i.st = 2) (hfn : i.fn = .func (.func F) #[] caps) (hz : i.rc = fun _ => rcZ) (hn : i.news ≤ 4) (ht4 : i.tk ≤ 4)
    (hT : ∀ k, T k → k < w.heap.size) (hTb : T b) (hC : ∀ k, C k → k < w.heap.size) (hCb : ¬ C b)
    (hmk : ∀ w1 pv, Kept (fun k => k = b) w w1 → OwnS lInt w.heap.size w1 pv i.pgsL → Calls Try.prog F (#[pv] ++ caps) w1 (MadeP w1 (fun k => C k ∨ pv.ownBlock = some k) ZI ds hd)) :
    Calls Try.prog 38 #[.pointer (some ⟨b, 0, none⟩)] w fun ev w' => ev = .returned (.tuple #[]) ∧ Kept (fun k => C k ∨ k = b) w w' ∧ (∀ k, ZI k → IntAt w k → IntAt w' k) ∧ ∃ rc', InsAt w' b { i with fn := .nilFunc, rc := rc' } ∧ ∀ k, k ≤ i.news → RecL w' T (rcLf rc' k) (recsM ds hd i.news k) := by
  have I0 := Lib.hid hi
  have x4 := hi.cFn
  rw [hfn] at x4
  have f4 := hi.free 4
  have s4 : (store ⟨b, 4, none⟩ .nilFunc).run Try.prog w = .ok () (w.setCell ⟨b, 4, none⟩ .nilFunc) := by
    rw [run_store Try.prog w ⟨b, 4, none⟩ .nilFunc _ rfl]
    simp [x4, f4]
  have I1 := Lib.hid (hi.sFn .nilFunc)
  have KA := Lib.hid ((Kept.refl (fun k => k = b) w).setCell 4 .nilFunc)
  have HH := Lib.hid (show i.st = 2 ∧ (i.rc = fun _ => rcZ) ∧ i.news ≤ 4 ∧ i.tk ≤ 4 from ⟨hst, hz, hn, ht4⟩)
  have HT := Lib.hid hT
  have HTb := Lib.hid hTb
  have HC := Lib.hid hC
  have HCb := Lib.hid hCb
  have HZb := Lib.hid hZb
  have HM := Lib.hid hmk
  have hx : (0 : Int) ≤ (i.tk : Int) ∧ (i.tk : Int) ≤ 4 := by omega
  clear hi hst hfn hz hn ht4 hT hTb hC hCb hZb hmk
  go_enter Try.func38, Try.ntmps38
  go_upto_region 2 with (fail)
  clear x4 f4 s4
  generalize hw1 : w.setCell ⟨b, 4, none⟩ .nilFunc = w1 at *
  clear hw1
  go_cut [3, 4, 5] from 15 to 30 (fun s3 s4 s5 wc => ∃ (xb : Nat) (la : Option Addr) (ln lc : Nat) (ra : Option Addr) (rn rc : Nat) (ea : Option Addr) (en ec : Nat) (bs : List RcL), s3 = .slice la ln lc ∧ s4 = .pointer (some ⟨xb, 0, none⟩) ∧ s5 = .bool true ∧ w.heap.size ≤ xb ∧ wc.heap[xb]? = some (recObj hd.sc (.slice ra rn rc) (.slice ea en ec)) ∧ RecsV wc (fun k => k < w.heap.size) (.slice la ln lc) bs ds ∧ RecV wc (recVal hd.sc (.slice ra rn rc) (.slice ea en ec)) hd ∧ Out (fun k => k < w.heap.size) (.slice ra rn rc) ∧ Out (fun k => k < w.heap.size) (.slice ea en ec) ∧ hd.rows.length ≤ 1000 ∧ hd.ents.length ≤ 1000 ∧ Kept C w1 wc ∧ ∀ k, ZI k → IntAt w k → IntAt wc k)
  case first =>
    go_wp2_with fail
    have ID := Lib.hid (I1.out.step (Below.refl _ _).drew)
    have KD := Lib.hid (Kept.refl C w1).drew
    have KW := Lib.hid KA.out.drew
    refine anyH_region (fun w' => InsAt w' b { i with fn := .nilFunc }) (by kernel_rfl) ?_
    generalize w1.drew = wd at *
    refine wpAnyH_take (i := 0) (oi := ⟨some 16, _, _, _, _, _⟩) (v := ?va0) rfl (by kernel_rfl) (by kernel_rfl) (by kernel_rfl) (fun _ _ _ h => h) (Or.inl ⟨by rfl, ?hya0⟩) ID.out ?resta0
    case hya0 => (intro w hSw; have q0 := hSw.cTk; go_simp; try (with_reducible rfl))
    simp only [Act.put, List.setIfInBounds_toArray, List.set_cons_zero, List.set_cons_succ]
    refine wpAnyH_take (i := 1) (oi := ⟨some 17, _, _, _, _, _⟩) (v := ?va1) rfl (by kernel_rfl) (by kernel_rfl) (by kernel_rfl) (fun _ _ _ h => h) (Or.inl ⟨by rfl, ?hya1⟩) ID.out ?resta1
    case hya1 => (intro w hSw; have q0 := hSw.cTk; go_simp; try (with_reducible rfl))
    simp only [Act.put, List.setIfInBounds_toArray, List.set_cons_zero, List.set_cons_succ]
    refine wpAnyH_take (i := 2) (oi := ⟨some 18, _, _, _, _, _⟩) (v := ?va2) rfl (by kernel_rfl) (by kernel_rfl) (by kernel_rfl) (fun _ _ _ h => h) (Or.inl ⟨by rfl, ?hya2⟩) ID.out ?resta2
    case hya2 => (intro w hSw; have q0 := hSw.cTk; go_simp; try (with_reducible rfl))
    simp only [Act.put, List.setIfInBounds_toArray, List.set_cons_zero, List.set_cons_succ]
    refine wpAnyH_take (i := 3) (oi := ⟨some 19, _, _, _, _, _⟩) (v := ?va3) rfl (by kernel_rfl) (by kernel_rfl) (by kernel_rfl) (fun _ _ _ h => h) (Or.inl ⟨by rfl, ?hya3⟩) ID.out ?resta3
    case hya3 => (intro w hSw; have q0 := hSw.cTk; go_simp; try (with_reducible rfl))
    simp only [Act.put, List.setIfInBounds_toArray, List.set_cons_zero, List.set_cons_succ]
    refine wpAnyH_take (i := 4) (oi := ⟨some 20, _, _, _, _, _⟩) (v := ?va4) rfl (by kernel_rfl) (by kernel_rfl) (by kernel_rfl) (fun _ _ _ h => h) (Or.inl ⟨by rfl, ?hya4⟩) ID.out ?resta4
    case hya4 => (intro w hSw; have q0 := hSw.cTk; go_simp; try (with_reducible rfl))
    simp only [Act.put, List.setIfInBounds_toArray, List.set_cons_zero, List.set_cons_succ]
    refine wpAnyH_take (i := 5) (oi := ⟨some 21, _, _, _, _, _⟩) (v := ?va5) rfl (by kernel_rfl) (by kernel_rfl) (by kernel_rfl) (fun _ _ _ h => h) (Or.inl ⟨by rfl, ?hya5⟩) ID.out ?resta5
    case hya5 => (intro w hSw; have q0 := hSw.cTk; go_simp; try (with_reducible rfl))
    simp only [Act.put, List.setIfInBounds_toArray, List.set_cons_zero, List.set_cons_succ]
    refine wpAnyH_take (i := 6) (oi := ⟨some 22, _, _, _, _, _⟩) (v := ?va6) rfl (by kernel_rfl) (by kernel_rfl) (by kernel_rfl) (fun _ _ _ h => h) (Or.inl ⟨by rfl, ?hya6⟩) ID.out ?resta6
    case hya6 => (intro w hSw; have q0 := hSw.cTk; go_simp; try (with_reducible rfl))
    simp only [Act.put, List.setIfInBounds_toArray, List.set_cons_zero, List.set_cons_succ]
    refine wpAnyH_take (i := 7) (oi := ⟨some 23, _, _, _, _, _⟩) (v := ?va7) rfl (by kernel_rfl) (by kernel_rfl) (by kernel_rfl) (fun _ _ _ h => h) (Or.inl ⟨by rfl, ?hya7⟩) ID.out ?resta7
    case hya7 => (intro w hSw; have q0 := hSw.cTk; go_simp; try (with_reducible rfl))
    simp only [Act.put, List.setIfInBounds_toArray, List.set_cons_zero, List.set_cons_succ]
    refine wpAnyH_take (i := 8) (oi := ⟨some 24, _, _, _, _, _⟩) (v := ?va8) rfl (by kernel_rfl) (by kernel_rfl) (by kernel_rfl) (fun _ _ _ h => h) (Or.inl ⟨by rfl, ?hya8⟩) ID.out ?resta8
    case hya8 => (intro w hSw; have q0 := hSw.cTk; go_simp; try (with_reducible rfl))
    simp only [Act.put, List.setIfInBounds_toArray, List.set_cons_zero, List.set_cons_succ]
    have NW1 := Lib.hid (show w.heap.size ≤ w1.heap.size from KA.out.size)
    have I := Lib.hid ID.out
    have K := Lib.hid KD.out
    have W := Lib.hid KW.out
    refine anyH_two (i := 9) (j := 15) (o := ⟨some 25, _, _, _, _, _⟩) (u := ⟨some 4, _, _, _, _, _⟩) (by kernel_rfl) rfl rfl (fun K' hK => ?_) (fun K' hK => ?_)
    · rw [if_pos (by rfl)]
      go_simp
      refine (clone_ints _ i.pgsL _ (show SV lInt _ (.slice (some ⟨b, 6, none⟩) i.tk 4) i.pgsL from I.out.pgs HH.out.2.2.2) (by simp [Ins.pgsL]; have := HH.out.2.2.2; omega)).mono ?_
      rintro e2 w2 ⟨pv, rfl, ho, hs⟩
      have PN := Lib.hid (show ∀ j, pv.ownBlock = some j → w1.heap.size ≤ j from fun j hj => by have := (ho.bounds j hj).1; have := K.out.size; omega)
      have PO := Lib.hid (ho.mono (b' := w.heap.size) (by have := W.out.size; omega))
      have I := Lib.hid (I.out.step hs)
      have K := Lib.hid (K.out.trans (Kept.of_below hs))
      have W := Lib.hid (W.out.trans (Kept.of_below hs))
      clear ho hs
      refine hK.out _ _ I.out ?_
      clear hK K'
      try simp only [Act.put, List.setIfInBounds_toArray, List.set_cons_zero, List.set_cons_succ]
      refine anyH_two (i := 10) (j := 15) (o := ⟨some 26, _, _, _, _, _⟩) (u := ⟨some 4, _, _, _, _, _⟩) (by kernel_rfl) rfl rfl (fun K' hK => ?_) (fun K' hK => ?_)
      · rw [if_pos (by rfl)]
        go_simp
        refine (iMade_any F hF caps pv _ (fun j => C j ∨ pv.ownBlock = some j) ZI (fun j hj => hj.elim (fun h => by have := HC.out j h; have := W.out.size; omega) (fun h => (PO.out.bounds j h).2)) ds hd (fun w9 hb => HM.out w9 pv (W.out.trans (Kept.of_below hb)) (PO.out.below hb))).mono ?_
        rintro e3 w3 ⟨la, ln, lc, ra, rn, rc, ea, en, ec, bs, rfl, hr, hv, o1, o2, h1, h2, hk, hz⟩
        have HZ := Lib.hid (show ∀ k, ZI k → IntAt w k → IntAt w3 k from fun k q1 q2 => hz k q1 (q2.kept W.out (fun e => HZb.out (e ▸ q1))))
        clear hz
        have LW := Lib.hid W.out.size
        have RR := Lib.hid hr
        have RV := Lib.hid (show RecV w3 (recVal hd.sc (.slice ra rn rc) (.slice ea en ec)) hd from hv)
        have RO := Lib.hid (show Out _ (.slice ra rn rc) ∧ Out _ (.slice ea en ec) ∧ hd.rows.length ≤ 1000 ∧ hd.ents.length ≤ 1000 from ⟨o1, o2, h1, h2⟩)
        have K := Lib.hid (K.out.after hk (fun j hj => hj.imp id (PN.out j)))
        have I := Lib.hid (I1.out.keep K.out HCb.out)
        clear hr hv o1 o2 h1 h2 hk
        unfold recVal
        refine hK.out _ _ I.out ?_
        clear hK K'
        try simp only [Act.put, List.setIfInBounds_toArray, List.set_cons_zero, List.set_cons_succ]
        refine wpAnyH_take (i := 11) (oi := ⟨some 15, _, _, _, _, _⟩) (v := ?vta11) rfl (by kernel_rfl) (by kernel_rfl) (by kernel_rfl) (fun _ _ _ h => h) (Or.inl ⟨by rfl, ?hyta11⟩) I.out ?restta11
        case hyta11 => (intro w hSw; go_simp; try (with_reducible rfl))
        simp only [Act.put, List.setIfInBounds_toArray, List.set_cons_zero, List.set_cons_succ]
        refine wpAnyH_take (i := 12) (oi := ⟨some 27, _, _, _, _, _⟩) (v := ?vta12) rfl (by kernel_rfl) (by kernel_rfl) (by kernel_rfl) (fun _ _ _ h => h) (Or.inl ⟨by rfl, ?hyta12⟩) I.out ?restta12
        case hyta12 => (intro w hSw; go_simp; try (with_reducible rfl))
        simp only [Act.put, List.setIfInBounds_toArray, List.set_cons_zero, List.set_cons_succ]
        refine wpAnyH_take (i := 13) (oi := ⟨some 28, _, _, _, _, _⟩) (v := ?vta13) rfl (by kernel_rfl) (by kernel_rfl) (by kernel_rfl) (fun _ _ _ h => h) (Or.inl ⟨by rfl, ?hyta13⟩) I.out ?restta13
        case hyta13 => (intro w hSw; go_simp; try (with_reducible rfl))
        simp only [Act.put, List.setIfInBounds_toArray, List.set_cons_zero, List.set_cons_succ]
        refine wpAnyH_take (i := 14) (oi := ⟨some 29, _, _, _, _, _⟩) (v := ?vta14) rfl (by kernel_rfl) (by kernel_rfl) (by kernel_rfl) (fun _ _ _ h => h) (Or.inl ⟨by rfl, ?hyta14⟩) I.out ?restta14
        case hyta14 => (intro w hSw; go_simp; try (with_reducible rfl))
        simp only [Act.put, List.setIfInBounds_toArray, List.set_cons_zero, List.set_cons_succ]
        refine anyH_one (i := 15) (o := ⟨some 4, _, _, _, _, _⟩) (by kernel_rfl) rfl (fun K' hK => ?_)
        rw [if_pos (by rfl)]
        go_simp
        have bA := Lib.hid (alloc_below0 w3 (.cells #[.int .i64 0, .string ⟨#[]⟩, .string ⟨#[]⟩, .bool false, .int .i64 0, .slice none 0 0, .slice none 0 0, .string ⟨#[]⟩, .string ⟨#[]⟩, .int .i64 0, .int .i64 0, .int .i64 0, .string ⟨#[]⟩, .int .i64 0, .int .i64 0] 44))
        have NX := Lib.hid (show w1.heap.size ≤ w3.heap.size from K.out.size)
        have I := Lib.hid (I.out.step bA.out)
        have K := Lib.hid (K.out.trans (Kept.of_below bA.out))
        have Z := Lib.hid (show (w3.alloc (.cells #[.int .i64 0, .string ⟨#[]⟩, .string ⟨#[]⟩, .bool false, .int .i64 0, .slice none 0 0, .slice none 0 0, .string ⟨#[]⟩, .string ⟨#[]⟩, .int .i64 0, .int .i64 0, .int .i64 0, .string ⟨#[]⟩, .int .i64 0, .int .i64 0] 44)).heap[w3.heap.size]? = some (.cells #[.int .i64 0, .string ⟨#[]⟩, .string ⟨#[]⟩, .bool false, .int .i64 0, .slice none 0 0, .slice none 0 0, .string ⟨#[]⟩, .string ⟨#[]⟩, .int .i64 0, .int .i64 0, .int .i64 0, .string ⟨#[]⟩, .int .i64 0, .int .i64 0] 44 (0, 0)) from blk_new w3 _)
        have SA := Lib.hid (show (w3.alloc (.cells #[.int .i64 0, .string ⟨#[]⟩, .string ⟨#[]⟩, .bool false, .int .i64 0, .slice none 0 0, .slice none 0 0, .string ⟨#[]⟩, .string ⟨#[]⟩, .int .i64 0, .int .i64 0, .int .i64 0, .string ⟨#[]⟩, .int .i64 0, .int .i64 0] 44)).heap.size = w3.heap.size + 1 by simp)
        refine hK.out _ _ I.out ?_
        clear hK K'
        try simp only [Act.put, List.setIfInBounds_toArray, List.set_cons_zero, List.set_cons_succ]
        refine anyH_one (i := 16) (o := ⟨some 3, _, _, _, _, _⟩) (by kernel_rfl) rfl (fun K' hK => ?_)
        rw [if_pos (by rfl)]
        go_simp
        refine hK.out _ _ I.out ?_
        clear hK K'
        try simp only [Act.put, List.setIfInBounds_toArray, List.set_cons_zero, List.set_cons_succ]
        refine anyH_one (i := 17) (o := ⟨none, _, _, _, _, _⟩) (by kernel_rfl) rfl (fun K' hK => ?_)
        rw [if_pos (by rfl)]
        refine wp_store_to 44 (.tmp 4) (.tmp 28) rfl (w3.heap.size) 0 (recCells hd.sc (.slice ra rn rc) (.slice ea en ec)) rfl rfl ?_ recInfoS (rec_one ..) ?_
        · exact blk_there Z.out 15 (Nat.le_refl _)
        intro wz hwz
        have ZZ := Lib.hid (show wz.heap[w3.heap.size]? = some (recObj hd.sc (.slice ra rn rc) (.slice ea en ec)) by rw [hwz]; exact list_laid (recCells hd.sc (.slice ra rn rc) (.slice ea en ec)) Z.out rfl)
        have KB := Lib.hid (show Kept (fun j => j = w3.heap.size) (w3.alloc (.cells #[.int .i64 0, .string ⟨#[]⟩, .string ⟨#[]⟩, .bool false, .int .i64 0, .slice none 0 0, .slice none 0 0, .string ⟨#[]⟩, .string ⟨#[]⟩, .int .i64 0, .int .i64 0, .int .i64 0, .string ⟨#[]⟩, .int .i64 0, .int .i64 0] 44)) wz by rw [hwz]; exact Kept.setCells _ _ _ (Kept.refl _ _))
        have KZ := Lib.hid (K.out.after KB.out (fun j (e : j = w3.heap.size) => .inr (by have := NX.out; omega)))
        have IZ := Lib.hid (I1.out.keep KZ.out HCb.out)
        have BZ := Lib.hid (show Below w3.heap.size w3 wz by rw [hwz]; exact below_setCells (Nat.le_refl _) _ 0 _ (alloc_below0 _ _))
        have HZ := Lib.hid (show ∀ k, ZI k → IntAt w k → IntAt wz k from fun k q1 q2 => (HZ.out k q1 q2).low BZ.out)
        have RRz := Lib.hid ((RR.out.low BZ.out).subT (S := fun j => j < w.heap.size) (fun j (h : j < w.heap.size) => (show j < _ by have := LW.out; omega)))
        have RVz := Lib.hid (RV.out.below BZ.out)
        clear hwz
        refine hK.out _ _ IZ.out ?_
        clear hK K'
        try simp only [Act.put, List.setIfInBounds_toArray, List.set_cons_zero, List.set_cons_succ]
        refine anyH_one (i := 18) (o := ⟨some 5, _, _, _, _, _⟩) (by kernel_rfl) rfl (fun K' hK => ?_)
        rw [if_pos (by rfl)]
        go_simp
        refine hK.out _ _ IZ.out ?_
        clear hK K'
        try simp only [Act.put, List.setIfInBounds_toArray, List.set_cons_zero, List.set_cons_succ]
        refine wpAnyH_done (by kernel_rfl) ?_ _
        go_wp2
        go_meet
        case rel => exact ⟨_, la, ln, lc, ra, rn, rc, ea, en, ec, bs, rfl, rfl, rfl, (by have := NX.out; have := NW1.out; omega), ZZ.out, RRz.out, RVz.out, RO.out.1.sub (fun j (h : j < w.heap.size) => (show j < _ by have := LW.out; omega)), RO.out.2.1.sub (fun j (h : j < w.heap.size) => (show j < _ by have := LW.out; omega)), RO.out.2.2.1, RO.out.2.2.2, KZ.out, HZ.out⟩
      · rw [if_pos (by rfl)]
        go_simp
        have bA := Lib.hid (alloc_below0 w2 (.cells #[.int .i64 0, .string ⟨#[]⟩, .string ⟨#[]⟩, .bool false, .int .i64 0, .slice none 0 0, .slice none 0 0, .string ⟨#[]⟩, .string ⟨#[]⟩, .int .i64 0, .int .i64 0, .int .i64 0, .string ⟨#[]⟩, .int .i64 0, .int .i64 0] 44))
        have NX := Lib.hid (show w1.heap.size ≤ w2.heap.size from K.out.size)
        have PZ := Lib.hid (show ∀ j, pv.ownBlock = some j → j ≠ w2.heap.size from fun j hj => by have := (PO.out.bounds j hj).2; omega)
        have I := Lib.hid (I.out.step bA.out)
        have K := Lib.hid (K.out.trans (Kept.of_below bA.out))
        have W := Lib.hid (W.out.trans (Kept.of_below bA.out))
        have PO := Lib.hid (PO.out.below bA.out)
        have Z := Lib.hid (show (w2.alloc (.cells #[.int .i64 0, .string ⟨#[]⟩, .string ⟨#[]⟩, .bool false, .int .i64 0, .slice none 0 0, .slice none 0 0, .string ⟨#[]⟩, .string ⟨#[]⟩, .int .i64 0, .int .i64 0, .int .i64 0, .string ⟨#[]⟩, .int .i64 0, .int .i64 0] 44)).heap[w2.heap.size]? = some (.cells #[.int .i64 0, .string ⟨#[]⟩, .string ⟨#[]⟩, .bool false, .int .i64 0, .slice none 0 0, .slice none 0 0, .string ⟨#[]⟩, .string ⟨#[]⟩, .int .i64 0, .int .i64 0, .int .i64 0, .string ⟨#[]⟩, .int .i64 0, .int .i64 0] 44 (0, 0)) from blk_new w2 _)
        have SA := Lib.hid (show (w2.alloc (.cells #[.int .i64 0, .string ⟨#[]⟩, .string ⟨#[]⟩, .bool false, .int .i64 0, .slice none 0 0, .slice none 0 0, .string ⟨#[]⟩, .string ⟨#[]⟩, .int .i64 0, .int .i64 0, .int .i64 0, .string ⟨#[]⟩, .int .i64 0, .int .i64 0] 44)).heap.size = w2.heap.size + 1 by simp)
        refine hK.out _ _ I.out ?_
        clear hK K'
        try simp only [Act.put, List.setIfInBounds_toArray, List.set_cons_zero, List.set_cons_succ]
        refine anyH_one (i := 10) (o := ⟨some 26, _, _, _, _, _⟩) (by kernel_rfl) rfl (fun K' hK => ?_)
        rw [if_pos (by rfl)]
        go_simp
        refine (iMade_any F hF caps pv _ (fun j => C j ∨ pv.ownBlock = some j) ZI (fun j hj => hj.elim (fun h => by have := HC.out j h; have := W.out.size; omega) (fun h => (PO.out.bounds j h).2)) ds hd (fun w9 hb => HM.out w9 pv (W.out.trans (Kept.of_below hb)) (PO.out.below hb))).mono ?_
        rintro e3 w3 ⟨la, ln, lc, ra, rn, rc, ea, en, ec, bs, rfl, hr, hv, o1, o2, h1, h2, hk, hz⟩
        have HZ := Lib.hid (show ∀ k, ZI k → IntAt w k → IntAt w3 k from fun k q1 q2 => hz k q1 (q2.kept W.out (fun e => HZb.out (e ▸ q1))))
        clear hz
        have LW := Lib.hid W.out.size
        have XL := Lib.hid (Array.getElem?_eq_some_iff.1 Z.out).1
        have Z := Lib.hid ((hk.block _ (Array.getElem?_eq_some_iff.1 Z.out).1 (fun h => h.elim (fun h => by have h1 := HC.out _ h; have h2 := NX.out; have h3 := NW1.out; omega) (fun h => PZ.out _ h rfl))).trans Z.out)
        have RR := Lib.hid hr
        have RV := Lib.hid (show RecV w3 (recVal hd.sc (.slice ra rn rc) (.slice ea en ec)) hd from hv)
        have RO := Lib.hid (show Out _ (.slice ra rn rc) ∧ Out _ (.slice ea en ec) ∧ hd.rows.length ≤ 1000 ∧ hd.ents.length ≤ 1000 from ⟨o1, o2, h1, h2⟩)
        have K := Lib.hid (K.out.after hk (fun j hj => hj.imp id (PN.out j)))
        have I := Lib.hid (I1.out.keep K.out HCb.out)
        clear hr hv o1 o2 h1 h2 hk
        unfold recVal
        refine hK.out _ _ I.out ?_
        clear hK K'
        try simp only [Act.put, List.setIfInBounds_toArray, List.set_cons_zero, List.set_cons_succ]
        refine wpAnyH_take (i := 11) (oi := ⟨some 15, _, _, _, _, _⟩) (v := ?vtb11) rfl (by kernel_rfl) (by kernel_rfl) (by kernel_rfl) (fun _ _ _ h => h) (Or.inl ⟨by rfl, ?hytb11⟩) I.out ?resttb11
        case hytb11 => (intro w hSw; go_simp; try (with_reducible rfl))
        simp only [Act.put, List.setIfInBounds_toArray, List.set_cons_zero, List.set_cons_succ]
        refine wpAnyH_take (i := 12) (oi := ⟨some 27, _, _, _, _, _⟩) (v := ?vtb12) rfl (by kernel_rfl) (by kernel_rfl) (by kernel_rfl) (fun _ _ _ h => h) (Or.inl ⟨by rfl, ?hytb12⟩) I.out ?resttb12
        case hytb12 => (intro w hSw; go_simp; try (with_reducible rfl))
        simp only [Act.put, List.setIfInBounds_toArray, List.set_cons_zero, List.set_cons_succ]
        refine wpAnyH_take (i := 13) (oi := ⟨some 28, _, _, _, _, _⟩) (v := ?vtb13) rfl (by kernel_rfl) (by kernel_rfl) (by kernel_rfl) (fun _ _ _ h => h) (Or.inl ⟨by rfl, ?hytb13⟩) I.out ?resttb13
        case hytb13 => (intro w hSw; go_simp; try (with_reducible rfl))
        simp only [Act.put, List.setIfInBounds_toArray, List.set_cons_zero, List.set_cons_succ]
        refine wpAnyH_take (i := 14) (oi := ⟨some 29, _, _, _, _, _⟩) (v := ?vtb14) rfl (by kernel_rfl) (by kernel_rfl) (by kernel_rfl) (fun _ _ _ h => h) (Or.inl ⟨by rfl, ?hytb14⟩) I.out ?resttb14
        case hytb14 => (intro w hSw; go_simp; try (with_reducible rfl))
        simp only [Act.put, List.setIfInBounds_toArray, List.set_cons_zero, List.set_cons_succ]
        refine anyH_one (i := 16) (o := ⟨some 3, _, _, _, _, _⟩) (by kernel_rfl) rfl (fun K' hK => ?_)
        rw [if_pos (by rfl)]
        go_simp
        refine hK.out _ _ I.out ?_
        clear hK K'
        try simp only [Act.put, List.setIfInBounds_toArray, List.set_cons_zero, List.set_cons_succ]
        refine anyH_one (i := 17) (o := ⟨none, _, _, _, _, _⟩) (by kernel_rfl) rfl (fun K' hK => ?_)
        rw [if_pos (by rfl)]
        refine wp_store_to 44 (.tmp 4) (.tmp 28) rfl (w2.heap.size) 0 (recCells hd.sc (.slice ra rn rc) (.slice ea en ec)) rfl rfl ?_ recInfoS (rec_one ..) ?_
        · exact blk_there Z.out 15 (Nat.le_refl _)
        intro wz hwz
        have ZZ := Lib.hid (show wz.heap[w2.heap.size]? = some (recObj hd.sc (.slice ra rn rc) (.slice ea en ec)) by rw [hwz]; exact list_laid (recCells hd.sc (.slice ra rn rc) (.slice ea en ec)) Z.out rfl)
        have KB := Lib.hid (show Kept (fun j => j = w2.heap.size) w3 wz by rw [hwz]; exact Kept.setCells _ _ _ (Kept.refl _ _))
        have KZ := Lib.hid (K.out.after KB.out (fun j (e : j = w2.heap.size) => .inr (by have := NX.out; omega)))
        have IZ := Lib.hid (I1.out.keep KZ.out HCb.out)
        have HZ := Lib.hid (show ∀ k, ZI k → IntAt w k → IntAt wz k from fun k q1 q2 => (HZ.out k q1 q2).kept KB.out (fun (e : k = w2.heap.size) => by have h1 := q2.lt; have h2 := NX.out; have h3 := NW1.out; omega))
        have KT := Lib.hid (KB.out.wide fun j _ (e : j = w2.heap.size) => (show j < _ from e ▸ XL.out))
        have RRz := Lib.hid ((RR.out.kept KT.out).subT (S := fun j => j < w.heap.size) (fun j (h : j < w.heap.size) => (show j < _ by have := LW.out; omega)))
        have RVz := Lib.hid (RV.out.kept KT.out RO.out.1 RO.out.2.1)
        clear hwz
        refine hK.out _ _ IZ.out ?_
        clear hK K'
        try simp only [Act.put, List.setIfInBounds_toArray, List.set_cons_zero, List.set_cons_succ]
        refine anyH_one (i := 18) (o := ⟨some 5, _, _, _, _, _⟩) (by kernel_rfl) rfl (fun K' hK => ?_)
        rw [if_pos (by rfl)]
        go_simp
        refine hK.out _ _ IZ.out ?_
        clear hK K'
        try simp only [Act.put, List.setIfInBounds_toArray, List.set_cons_zero, List.set_cons_succ]
        refine wpAnyH_done (by kernel_rfl) ?_ _
        go_wp2
        go_meet
        case rel => exact ⟨_, la, ln, lc, ra, rn, rc, ea, en, ec, bs, rfl, rfl, rfl, (by have := NX.out; have := NW1.out; omega), ZZ.out, RRz.out, RVz.out, RO.out.1.sub (fun j (h : j < w.heap.size) => (show j < _ by have := LW.out; omega)), RO.out.2.1.sub (fun j (h : j < w.heap.size) => (show j < _ by have := LW.out; omega)), RO.out.2.2.1, RO.out.2.2.2, KZ.out, HZ.out⟩
    · rw [if_pos (by rfl)]
      go_simp
      have bA := Lib.hid (alloc_below0 wd (.cells #[.int .i64 0, .string ⟨#[]⟩, .string ⟨#[]⟩, .bool false, .int .i64 0, .slice none 0 0, .slice none 0 0, .string ⟨#[]⟩, .string ⟨#[]⟩, .int .i64 0, .int .i64 0, .int .i64 0, .string ⟨#[]⟩, .int .i64 0, .int .i64 0] 44))
      have NX := Lib.hid (show w1.heap.size ≤ wd.heap.size from K.out.size)
      have I := Lib.hid (I.out.step bA.out)
      have K := Lib.hid (K.out.trans (Kept.of_below bA.out))
      have W := Lib.hid (W.out.trans (Kept.of_below bA.out))
      have Z := Lib.hid (show (wd.alloc (.cells #[.int .i64 0, .string ⟨#[]⟩, .string ⟨#[]⟩, .bool false, .int .i64 0, .slice none 0 0, .slice none 0 0, .string ⟨#[]⟩, .string ⟨#[]⟩, .int .i64 0, .int .i64 0, .int .i64 0, .string ⟨#[]⟩, .int .i64 0, .int .i64 0] 44)).heap[wd.heap.size]? = some (.cells #[.int .i64 0, .string ⟨#[]⟩, .string ⟨#[]⟩, .bool false, .int .i64 0, .slice none 0 0, .slice none 0 0, .string ⟨#[]⟩, .string ⟨#[]⟩, .int .i64 0, .int .i64 0, .int .i64 0, .string ⟨#[]⟩, .int .i64 0, .int .i64 0] 44 (0, 0)) from blk_new wd _)
      have SA := Lib.hid (show (wd.alloc (.cells #[.int .i64 0, .string ⟨#[]⟩, .string ⟨#[]⟩, .bool false, .int .i64 0, .slice none 0 0, .slice none 0 0, .string ⟨#[]⟩, .string ⟨#[]⟩, .int .i64 0, .int .i64 0, .int .i64 0, .string ⟨#[]⟩, .int .i64 0, .int .i64 0] 44)).heap.size = wd.heap.size + 1 by simp)
      refine hK.out _ _ I.out ?_
      clear hK K'
      try simp only [Act.put, List.setIfInBounds_toArray, List.set_cons_zero, List.set_cons_succ]
      refine anyH_one (i := 9) (o := ⟨some 25, _, _, _, _, _⟩) (by kernel_rfl) rfl (fun K' hK => ?_)
      rw [if_pos (by rfl)]
      go_simp
      refine (clone_ints _ i.pgsL _ (show SV lInt _ (.slice (some ⟨b, 6, none⟩) i.tk 4) i.pgsL from I.out.pgs HH.out.2.2.2) (by simp [Ins.pgsL]; have := HH.out.2.2.2; omega)).mono ?_
      rintro e2 w2 ⟨pv, rfl, ho, hs⟩
      have PN := Lib.hid (show ∀ j, pv.ownBlock = some j → w1.heap.size ≤ j from fun j hj => by have := (ho.bounds j hj).1; have := K.out.size; omega)
      have PZ := Lib.hid (show ∀ j, pv.ownBlock = some j → j ≠ wd.heap.size from fun j hj => by have h1 := (ho.bounds j hj).1; have h2 := SA.out; omega)
      have Z := Lib.hid (blk_step Z.out hs)
      have PO := Lib.hid (ho.mono (b' := w.heap.size) (by have := W.out.size; omega))
      have I := Lib.hid (I.out.step hs)
      have K := Lib.hid (K.out.trans (Kept.of_below hs))
      have W := Lib.hid (W.out.trans (Kept.of_below hs))
      clear ho hs
      refine hK.out _ _ I.out ?_
      clear hK K'
      try simp only [Act.put, List.setIfInBounds_toArray, List.set_cons_zero, List.set_cons_succ]
      refine anyH_one (i := 10) (o := ⟨some 26, _, _, _, _, _⟩) (by kernel_rfl) rfl (fun K' hK => ?_)
      rw [if_pos (by rfl)]
      go_simp
      refine (iMade_any F hF caps pv _ (fun j => C j ∨ pv.ownBlock = some j) ZI (fun j hj => hj.elim (fun h => by have := HC.out j h; have := W.out.size; omega) (fun h => (PO.out.bounds j h).2)) ds hd (fun w9 hb => HM.out w9 pv (W.out.trans (Kept.of_below hb)) (PO.out.below hb))).mono ?_
      rintro e3 w3 ⟨la, ln, lc, ra, rn, rc, ea, en, ec, bs, rfl, hr, hv, o1, o2, h1, h2, hk, hz⟩
      have HZ := Lib.hid (show ∀ k, ZI k → IntAt w k → IntAt w3 k from fun k q1 q2 => hz k q1 (q2.kept W.out (fun e => HZb.out (e ▸ q1))))
      clear hz
      have LW := Lib.hid W.out.size
      have XL := Lib.hid (Array.getElem?_eq_some_iff.1 Z.out).1
      have Z := Lib.hid ((hk.block _ (Array.getElem?_eq_some_iff.1 Z.out).1 (fun h => h.elim (fun h => by have h1 := HC.out _ h; have h2 := NX.out; have h3 := NW1.out; omega) (fun h => PZ.out _ h rfl))).trans Z.out)
      have RR := Lib.hid hr
      have RV := Lib.hid (show RecV w3 (recVal hd.sc (.slice ra rn rc) (.slice ea en ec)) hd from hv)
      have RO := Lib.hid (show Out _ (.slice ra rn rc) ∧ Out _ (.slice ea en ec) ∧ hd.rows.length ≤ 1000 ∧ hd.ents.length ≤ 1000 from ⟨o1, o2, h1, h2⟩)
      have K := Lib.hid (K.out.after hk (fun j hj => hj.imp id (PN.out j)))
      have I := Lib.hid (I1.out.keep K.out HCb.out)
      clear hr hv o1 o2 h1 h2 hk
      unfold recVal
      refine hK.out _ _ I.out ?_
      clear hK K'
      try simp only [Act.put, List.setIfInBounds_toArray, List.set_cons_zero, List.set_cons_succ]
      refine wpAnyH_take (i := 11) (oi := ⟨some 15, _, _, _, _, _⟩) (v := ?vtc11) rfl (by kernel_rfl) (by kernel_rfl) (by kernel_rfl) (fun _ _ _ h => h) (Or.inl ⟨by rfl, ?hytc11⟩) I.out ?resttc11
      case hytc11 => (intro w hSw; go_simp; try (with_reducible rfl))
      simp only [Act.put, List.setIfInBounds_toArray, List.set_cons_zero, List.set_cons_succ]
      refine wpAnyH_take (i := 12) (oi := ⟨some 27, _, _, _, _, _⟩) (v := ?vtc12) rfl (by kernel_rfl) (by kernel_rfl) (by kernel_rfl) (fun _ _ _ h => h) (Or.inl ⟨by rfl, ?hytc12⟩) I.out ?resttc12
      case hytc12 => (intro w hSw; go_simp; try (with_reducible rfl))
      simp only [Act.put, List.setIfInBounds_toArray, List.set_cons_zero, List.set_cons_succ]
      refine wpAnyH_take (i := 13) (oi := ⟨some 28, _, _, _, _, _⟩) (v := ?vtc13) rfl (by kernel_rfl) (by kernel_rfl) (by kernel_rfl) (fun _ _ _ h => h) (Or.inl ⟨by rfl, ?hytc13⟩) I.out ?resttc13
      case hytc13 => (intro w hSw; go_simp; try (with_reducible rfl))
      simp only [Act.put, List.setIfInBounds_toArray, List.set_cons_zero, List.set_cons_succ]
      refine wpAnyH_take (i := 14) (oi := ⟨some 29, _, _, _, _, _⟩) (v := ?vtc14) rfl (by kernel_rfl) (by kernel_rfl) (by kernel_rfl) (fun _ _ _ h => h) (Or.inl ⟨by rfl, ?hytc14⟩) I.out ?resttc14
      case hytc14 => (intro w hSw; go_simp; try (with_reducible rfl))
      simp only [Act.put, List.setIfInBounds_toArray, List.set_cons_zero, List.set_cons_succ]
      refine anyH_one (i := 16) (o := ⟨some 3, _, _, _, _, _⟩) (by kernel_rfl) rfl (fun K' hK => ?_)
      rw [if_pos (by rfl)]
      go_simp
      refine hK.out _ _ I.out ?_
      clear hK K'
      try simp only [Act.put, List.setIfInBounds_toArray, List.set_cons_zero, List.set_cons_succ]
      refine anyH_one (i := 17) (o := ⟨none, _, _, _, _, _⟩) (by kernel_rfl) rfl (fun K' hK => ?_)
      rw [if_pos (by rfl)]
      refine wp_store_to 44 (.tmp 4) (.tmp 28) rfl (wd.heap.size) 0 (recCells hd.sc (.slice ra rn rc) (.slice ea en ec)) rfl rfl ?_ recInfoS (rec_one ..) ?_
      · exact blk_there Z.out 15 (Nat.le_refl _)
      intro wz hwz
      have ZZ := Lib.hid (show wz.heap[wd.heap.size]? = some (recObj hd.sc (.slice ra rn rc) (.slice ea en ec)) by rw [hwz]; exact list_laid (recCells hd.sc (.slice ra rn rc) (.slice ea en ec)) Z.out rfl)
      have KB := Lib.hid (show Kept (fun j => j = wd.heap.size) w3 wz by rw [hwz]; exact Kept.setCells _ _ _ (Kept.refl _ _))
      have KZ := Lib.hid (K.out.after KB.out (fun j (e : j = wd.heap.size) => .inr (by have := NX.out; omega)))
      have IZ := Lib.hid (I1.out.keep KZ.out HCb.out)
      have HZ := Lib.hid (show ∀ k, ZI k → IntAt w k → IntAt wz k from fun k q1 q2 => (HZ.out k q1 q2).kept KB.out (fun (e : k = wd.heap.size) => by have h1 := q2.lt; have h2 := NX.out; have h3 := NW1.out; omega))
      have KT := Lib.hid (KB.out.wide fun j _ (e : j = wd.heap.size) => (show j < _ from e ▸ XL.out))
      have RRz := Lib.hid ((RR.out.kept KT.out).subT (S := fun j => j < w.heap.size) (fun j (h : j < w.heap.size) => (show j < _ by have := LW.out; omega)))
      have RVz := Lib.hid (RV.out.kept KT.out RO.out.1 RO.out.2.1)
      clear hwz
      refine hK.out _ _ IZ.out ?_
      clear hK K'
      try simp only [Act.put, List.setIfInBounds_toArray, List.set_cons_zero, List.set_cons_succ]
      refine anyH_one (i := 18) (o := ⟨some 5, _, _, _, _, _⟩) (by kernel_rfl) rfl (fun K' hK => ?_)
      rw [if_pos (by rfl)]
      go_simp
      refine hK.out _ _ IZ.out ?_
      clear hK K'
      try simp only [Act.put, List.setIfInBounds_toArray, List.set_cons_zero, List.set_cons_succ]
      refine wpAnyH_done (by kernel_rfl) ?_ _
      go_wp2
      go_meet
      case rel => exact ⟨_, la, ln, lc, ra, rn, rc, ea, en, ec, bs, rfl, rfl, rfl, (by have := NX.out; have := NW1.out; omega), ZZ.out, RRz.out, RVz.out, RO.out.1.sub (fun j (h : j < w.heap.size) => (show j < _ by have := LW.out; omega)), RO.out.2.1.sub (fun j (h : j < w.heap.size) => (show j < _ by have := LW.out; omega)), RO.out.2.2.1, RO.out.2.2.2, KZ.out, HZ.out⟩
  case rest =>
    obtain ⟨xb, la, ln, lc, ra, rn, rc, ea, en, ec, bs, rfl, rfl, rfl, hxb, hz, hr, hv, o1, o2, h1, h2, hk, hZI⟩ := hcut
    have HZ := Lib.hid hZI
    clear hZI
    obtain ⟨wL, hwq⟩ : ∃ x, x = wc := ⟨_, rfl⟩
    subst hwq
    have b0 : b < w.heap.size := HT.out b HTb.out
    have I2 := Lib.hid (I1.out.keep hk HCb.out)
    have Z2 := Lib.hid hz
    have LL := Lib.hid (show w.heap.size ≤ wL.heap.size by have h1 := KA.out.size; have h2 := hk.size; omega)
    have RR := Lib.hid (show RecsV wL (fun k => k = b) (.slice la ln lc) bs ds from hr.subT (fun j (e : j = b) => (show j < w.heap.size by omega)))
    have RV := Lib.hid (show RecV wL (recVal hd.sc (.slice ra rn rc) (.slice ea en ec)) hd ∧ Out (fun j => j = b) (.slice ra rn rc) ∧ Out (fun j => j = b) (.slice ea en ec) ∧ hd.rows.length ≤ 1000 ∧ hd.ents.length ≤ 1000 from ⟨hv, o1.sub (fun j (e : j = b) => (show j < w.heap.size by omega)), o2.sub (fun j (e : j = b) => (show j < w.heap.size by omega)), h1, h2⟩)
    have K2 := Lib.hid (KA.out.both hk)
    have x5 : wL.cell? ⟨b, 5, none⟩ = some (.int .i64 2) := by have := I2.out.cSt; rw [show ({ i with fn := .nilFunc } : Ins).st = 2 from HH.out.1] at this; exact this
    clear hxb hz hr hv o1 o2 h1 h2 hk b0
    go_wp2_with (refine wpList_load_mid rfl 44 (.tmp 4) rfl xb 0 rfl (recCells hd.sc (.slice ra rn rc) (.slice ea en ec)) _ ?_ Try.underlying44 rfl recInfoS ?_; exact rec_range Z2.out)
    refine (iKeep_any wL b { i with fn := .nilFunc } T (fun j hj => by have h1 := HT.out j hj; have h2 := LL.out; omega) HTb.out (.slice la ln lc) bs ds hd ra rn rc ea en ec I2.out HH.out.2.1 HH.out.2.2.1 RR.out RV.out.1 RV.out.2.1 RV.out.2.2.1 RV.out.2.2.2.1 RV.out.2.2.2.2).mono ?_
    rintro ev w3 ⟨rfl, hk, rc', hI, hR⟩
    have HZ3 := Lib.hid (show ∀ k, ZI k → IntAt w k → IntAt w3 k from fun k q1 q2 => (HZ.out k q1 q2).kept hk (fun e => HZb.out (e ▸ q1)))
    have K3 := Lib.hid (show Kept (fun k => C k ∨ k = b) w w3 from (K2.out.trans2 hk (fun _ h => h.symm) (fun _ h => .inr h)))
    have I3 := Lib.hid hI
    have R3 := Lib.hid hR
    clear hk hI hR x5
    go_wp2
    go_end0
    exact ⟨rfl, K3.out, HZ3.out, rc', I3.out, R3.out⟩
end Go.Proofs.Ytaiaaljahnackaa
