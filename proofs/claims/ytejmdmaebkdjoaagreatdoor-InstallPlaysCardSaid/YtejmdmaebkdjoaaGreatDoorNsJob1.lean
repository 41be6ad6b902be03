/- Layer 12's laws' own Make, by contract. -/
import Derived.Test.YtejmdmaebkdjoaaGreatDoorNsJob
import Derived.Test.YtejmdmaebkdjoaaGreatDoorNsMade
import Derived.Test.YtejmdmaebkdjoaaGreatDoorNsPath
import Derived.Test.YtejmdmaebkdjoaaGreatDoorNsAwake
namespace Go.Proofs.YtejmdmaebkdjoaaGreatDoor
set_option linter.unusedVariables false
set_option linter.unusedSimpArgs false
set_option maxRecDepth 100000
set_option maxHeartbeats 4000000
open Go.RowKit
def RcR (w : World) (x : RcL) (e : RecD) : Prop := x.sc = e.sc ∧ SV lRow w (.slice x.ra x.rn x.rc) e.rows ∧ SV lEnt w (.slice x.ea x.en x.ec) e.ents ∧ e.rows.length ≤ 1000 ∧ e.ents.length ≤ 1000
theorem RcR.low {w w' : World} {x : RcL} {e : RecD} (h : RcR w x e) (hb : Below w.heap.size w w') : RcR w' x e := ⟨h.1, h.2.1.below hb, h.2.2.1.below hb, h.2.2.2⟩
theorem RcR.recV {w : World} {x : RcL} {e : RecD} (h : RcR w x e) : RecV w (recVal e.sc (.slice x.ra x.rn x.rc) (.slice x.ea x.en x.ec)) e := ⟨_, _, rfl, h.2.1, h.2.2.1⟩
theorem RcR.cells {w : World} {x : RcL} {e : RecD} (h : RcR w x e) : x.cells = recCells e.sc (.slice x.ra x.rn x.rc) (.slice x.ea x.en x.ec) := by unfold RcL.cells; rw [h.1]
structure JobR (w : World) (d : JbD) (bs : List RcL) (ds : List RecD) (hd : RecD) : Prop where
 sv : SV lRec w (.slice d.ba d.bn d.bc) bs
 len : bs.length = ds.length
 lim : bs.length ≤ 1000
 each : ∀ (j : Nat) (x : RcL) (e : RecD), bs[j]? = some x → ds[j]? = some e → RcR w x e
 head : RcR w d.hd hd
theorem JobR.low {w w' : World} {d : JbD} {bs : List RcL} {ds : List RecD} {hd : RecD} (h : JobR w d bs ds hd) (hb : Below w.heap.size w w') : JobR w' d bs ds hd :=
 ⟨h.sv.below hb, h.len, h.lim, fun j x e h1 h2 => (h.each j x e h1 h2).low hb, h.head.low hb⟩
def RecO (base : Nat) (w : World) (x : RcL) (e : RecD) : Prop := x.sc = e.sc ∧ OwnS lRow base w (.slice x.ra x.rn x.rc) e.rows ∧ OwnS lEnt base w (.slice x.ea x.en x.ec) e.ents ∧ e.rows.length ≤ 1000 ∧ e.ents.length ≤ 1000
theorem RecO.low {base : Nat} {w w' : World} {x : RcL} {e : RecD} (h : RecO base w x e) (hb : Below w.heap.size w w') : RecO base w' x e := ⟨h.1, h.2.1.below hb, h.2.2.1.below hb, h.2.2.2⟩
theorem RecO.inn {base : Nat} {w : World} {x : RcL} {e : RecD} (h : RecO base w x e) {S : Nat → Prop} (hS : ∀ k, S k → k < base) : RecIn w S x.cells e :=
 ⟨x.ra, x.rn, x.rc, x.ea, x.en, x.ec, by unfold RcL.cells; rw [h.1], ⟨_, _, rfl, h.2.1.sv, h.2.2.1.sv⟩, h.2.1.out hS, h.2.2.1.out hS, h.2.2.2⟩
theorem RecO.other {α : Type} {E : Lay α} {base b : Nat} {w w' : World} {x : RcL} {e : RecD} {v : Value} {xs : List α} (h : RecO base w x e) (ho : OwnS E b w v xs) (h1 : E.ty ≠ lRow.ty) (h2 : E.ty ≠ lEnt.ty) (hk : Kept (fun k => some k = v.ownBlock) w w') : RecO base w' x e :=
 ⟨h.1, h.2.1.kept hk (fun a n c hv hs => (ho.neB h.2.1 h1) a n c hv hs.symm), h.2.2.1.kept hk (fun a n c hv hs => (ho.neB h.2.2.1 h2) a n c hv hs.symm), h.2.2.2⟩
theorem job_head {w : World} {b : Nat} {d : JbD} (h : w.heap[b]? = some (.cells d.cells.toArray 57 (0, 0))) : w.rangeAt b 5 d.hd.cells := fun j u hj => by
 rw [blk_cell h]
 have hl : j < d.hd.cells.length := (List.getElem?_eq_some_iff.1 hj).1
 simp only [JbD.cells, List.getElem?_toArray, Nat.add_comm 5 j, List.getElem?_cons_succ]
 rw [List.getElem?_append_left hl]
 exact hj
theorem OwnS.keptF {α : Type} {E : Lay α} {base : Nat} {S : Nat → Prop} {w w' : World} {v : Value} {xs : List α} (h : OwnS E base w v xs) (hk : Kept S w w') (hS : ∀ k, S k → k < base ∨ w.heap.size ≤ k) : OwnS E base w' v xs :=
 h.kept hk (fun a n c e hs => by have h1 := h.bounds a.block (by rw [e]; rfl); have h2 := hS _ hs; omega)
theorem RecO.keptF {base : Nat} {S : Nat → Prop} {w w' : World} {x : RcL} {e : RecD} (h : RecO base w x e) (hk : Kept S w w') (hS : ∀ k, S k → k < base ∨ w.heap.size ≤ k) : RecO base w' x e := ⟨h.1, h.2.1.keptF hk hS, h.2.2.1.keptF hk hS, h.2.2.2⟩
theorem kept_mix {S D : Nat → Prop} {w w1 w2 : World} (h : Kept S w w1) (k : Kept D w1 w2) (hD : ∀ j, D j → S j ∨ w.heap.size ≤ j) : Kept S w w2 :=
 ⟨k.os.trans h.os, k.tape.trans h.tape, k.output.trans h.output, Nat.le_trans h.size k.size, fun j hj hn => (k.block j (Nat.lt_of_lt_of_le hj h.size) (fun hd => (hD j hd).elim hn (fun h => by omega))).trans (h.block j hj hn)⟩
def mkHd (hd : RecD) (fresh : Int) (pgs : List Int) : RecD := if 1 ≤ fresh ∧ fresh ≤ (pgs.length : Int) then { hd with sc := { hd.sc with page := pgs.getD (fresh - 1).toNat 0 } } else hd
theorem mkHd_rows (hd : RecD) (f : Int) (p : List Int) : (mkHd hd f p).rows = hd.rows ∧ (mkHd hd f p).ents = hd.ents := by unfold mkHd; split <;> exact ⟨rfl, rfl⟩
theorem job1_any (w0 w : World) (d : JbD) (bs : List RcL) (ds : List RecD) (hd : RecD) (jb cb cl b0 : Nat) (cz : Array Value) (n : Int) (ci : Nat) (hci : cz[ci]? = some (.int .i64 n)) (pv : Value) (pgs : List Int) (hR : JobR w0 d bs ds hd) (hB : Below w0.heap.size w0 w) (hjb : w.heap[jb]? = some (.cells d.cells.toArray 57 (0, 0))) (hcb : w.heap[cb]? = some (.cells #[.pointer (some ⟨cl, ci, none⟩)] 64 (0, 0))) (hcl : w.heap[cl]? = some (.cells cz 3 (0, 0)))
  (hpv : OwnS lInt b0 w pv pgs) (hpl : pgs.length ≤ 4) (hb0 : w0.heap.size ≤ b0) (hc0 : w0.heap.size ≤ cl) (hcp : pv.ownBlock ≠ some cl) :
  Calls Tryz.prog 37 (#[pv] ++ #[.pointer (some ⟨cb, 0, none⟩), .pointer (some ⟨jb, 0, none⟩)]) w (MadeP (fun cs => cs = cz) (fun cs => cs = cz.setIfInBounds ci (.int .i64 (inc n))) w (fun k => k = cl ∨ pv.ownBlock = some k) (fun k => k = cl) ds (mkHd hd d.fresh pgs)) := by
 obtain ⟨pa, pc, rfl, -, -⟩ := hpv.sv.lenform
 obtain ⟨pn, hpn⟩ : ∃ x, x = pgs.length := ⟨_, rfl⟩
 rw [← hpn] at hpv hcp ⊢
 have PN := Lib.hid hpn
 have PB := Lib.hid (show ∀ k, (Value.slice pa pn pc).ownBlock = some k → b0 ≤ k ∧ k < w.heap.size from hpv.bounds)
 clear hpn
 obtain ⟨pv, hpvd⟩ : ∃ x, x = Value.slice pa pn pc := ⟨_, rfl⟩
 rw [← hpvd] at hpv hcp PB ⊢
 have PV := Lib.hid hpvd
 clear hpvd
 obtain ⟨W0, hW0⟩ : ∃ W, W = w.alloc (.cells #[.int .i64 0, .string ⟨#[]⟩, .string ⟨#[]⟩, .bool false, .int .i64 0, .slice none 0 0, .slice none 0 0, .string ⟨#[]⟩, .string ⟨#[]⟩, .int .i64 0, .int .i64 0, .int .i64 0, .string ⟨#[]⟩, .int .i64 0, .int .i64 0] 55) := ⟨_, rfl⟩
 have b0' : Below w.heap.size w W0 := by rw [hW0]; exact alloc_below0 _ _
 have X0 := Lib.hid (show W0.heap[w.heap.size]? = some (.cells #[.int .i64 0, .string ⟨#[]⟩, .string ⟨#[]⟩, .bool false, .int .i64 0, .slice none 0 0, .slice none 0 0, .string ⟨#[]⟩, .string ⟨#[]⟩, .int .i64 0, .int .i64 0, .int .i64 0, .string ⟨#[]⟩, .int .i64 0, .int .i64 0] 55 (0, 0)) by rw [hW0]; exact blk_new _ _)
 have J0 := Lib.hid (blk_step hjb b0')
 have C0 := Lib.hid (blk_step hcb b0')
 have L0 := Lib.hid (blk_step hcl b0')
 have P0 := Lib.hid (hpv.below b0')
 have B0 := Lib.hid b0'
 have N0 := Lib.hid (show W0.heap.size = w.heap.size + 1 by rw [hW0]; simp)
 have HH := Lib.hid (show pgs.length ≤ 4 ∧ w0.heap.size ≤ b0 ∧ w0.heap.size ≤ cl ∧ pv.ownBlock ≠ some cl ∧ cl < w.heap.size from ⟨hpl, hb0, hc0, hcp, (Array.getElem?_eq_some_iff.1 hcl).1⟩)
 have HB := Lib.hid hB
 have HR := Lib.hid hR
 have y0 : W0.cell? ⟨cb, 0, none⟩ = some (.pointer (some ⟨cl, ci, none⟩)) := blk_cell C0.out 0
 have y1 : W0.cell? ⟨cl, ci, none⟩ = some (.int .i64 n) := (blk_cell L0.out ci).trans hci
 have y2 := blk_free L0.out ci
 clear hci hjb hcb hcl hpv hpl hb0 hc0 hcp b0' hB hR
 go_enter Tryz.func37, Tryz.ntmps37
 go_upto_region 1 with (fail)
 rw [← hW0]
 clear hW0
 go_upto_region 3 with (fail)
 generalize hW1 : W0.setCell ⟨cl, ci, none⟩ _ = W1
 have KA := Lib.hid (show Kept (fun k => k = cl) W0 W1 by rw [← hW1]; exact (Kept.refl _ _).setCell _ _)
 have SZ := Lib.hid (show W1.heap.size = W0.heap.size by rw [← hW1]; simp)
 have LI := Lib.hid (show BlkAt (fun cs => cs = cz.setIfInBounds ci (.int .i64 (inc n))) W1 cl by rw [← hW1]; exact ⟨_, rfl, blk_set L0.out ci _⟩)
 clear hW1 y0 y1 y2
 have njl : jb ≠ cl := blk_ne J0.out L0.out (by decide)
 have ncl : cb ≠ cl := blk_ne C0.out L0.out (by decide)
 have J1 := Lib.hid ((KA.out.block jb (Array.getElem?_eq_some_iff.1 J0.out).1 njl).trans J0.out)
 have X1 := Lib.hid ((KA.out.block w.heap.size (Array.getElem?_eq_some_iff.1 X0.out).1 (by have := HH.out.2.2.2.2; omega)).trans X0.out)
 have P1 := Lib.hid (P0.out.kept KA.out (fun a n c e hs => HH.out.2.2.2.1 (by rw [e, ← hs]; rfl)))
 have K1 := Lib.hid (show Kept (fun k => k = cl ∨ pv.ownBlock = some k) w W1 from (Kept.of_below B0.out).trans (KA.out.wide fun _ _ h => .inl h))
 have BW := Lib.hid (show ∀ w', Kept (fun k => k = cl ∨ pv.ownBlock = some k) w w' → Below w0.heap.size w0 w' from fun w' hk => HB.out.trans (hk.below (n := w0.heap.size) (fun k h => h.elim (fun e => by have := HH.out.2.2.1; omega) (fun e => by have h1 := (P0.out.bounds k e).1; have h2 := HH.out.2.1; omega)) HB.out.size))
 have NW := Lib.hid (show ∀ w', Kept (fun k => k = cl ∨ pv.ownBlock = some k) w w' → ∀ k, k < w.heap.size → k ≠ cl → pv.ownBlock ≠ some k → ∀ o, w.heap[k]? = some o → w'.heap[k]? = some o from fun w' hk k h1 h2 h3 o ho => (hk.block k h1 (fun h => h.elim h2 h3)).trans ho)
 obtain ⟨ba, hba0⟩ : ∃ x, x = d.ba := ⟨_, rfl⟩
 have HBA := Lib.hid hba0
 have y4 : W1.cell? ⟨jb, 4, none⟩ = some (.slice ba d.bn d.bc) := by rw [hba0]; exact blk_cell J1.out 4
 clear hba0
 have NJ := Lib.hid (show jb ≠ cl ∧ pv.ownBlock ≠ some jb from ⟨njl, fun h => by
  obtain ⟨gp, np, cp, hpe⟩ : ∃ g n c, pv = .slice (some ⟨g, 0, none⟩) n c := by
   obtain ⟨_, hq⟩ := P1.out
   rcases hq with ⟨e, -⟩ | ⟨g, cap, cur, e, -⟩
   ·rw [e] at h; cases h
   ·exact ⟨_, _, _, e⟩
  subst hpe
  obtain rfl : gp = jb := Option.some.inj h
  obtain ⟨cur, hc, -⟩ := P1.out.block
  exact absurd (blk_ne J1.out hc (by decide)) (fun h => h rfl)⟩)
 have LJ := Lib.hid (show jb < W1.heap.size from (Array.getElem?_eq_some_iff.1 J1.out).1)
 have NB := Lib.hid (show bs.length = d.bn by obtain ⟨_, _, e, -⟩ := HR.out.sv.lenform; exact (Value.slice.inj e).2.1.symm)
 have S1 := Lib.hid (show W1.heap.size = w.heap.size + 1 by have h1 := KA.out.size; have h2 := N0.out; have h3 := SZ.out; omega)
 clear njl ncl
 go_wp2_with fail
 clear y4
 go_loopg [6, 19] d.bn (fun g v6 v19 wr => ∃ (q : Nat) (acc : List RcL), q + g = d.bn ∧ v19 = .int .i64 (q : Int) ∧ OwnS lRec (w.heap.size + 1) wr v6 acc ∧ acc.length = q ∧ (∀ (j : Nat) (x : RcL) (e : RecD), acc[j]? = some x → ds[j]? = some e → RecO (w.heap.size + 1) wr x e) ∧ Below W1.heap.size W1 wr ∧ wr.heap[w.heap.size]? = some (.cells #[.int .i64 0, .string ⟨#[]⟩, .string ⟨#[]⟩, .bool false, .int .i64 0, .slice none 0 0, .slice none 0 0, .string ⟨#[]⟩, .string ⟨#[]⟩, .int .i64 0, .int .i64 0, .int .i64 0, .string ⟨#[]⟩, .int .i64 0, .int .i64 0] 55 (0, 0)))
 case atStart => exact ⟨0, [], by omega, rfl, OwnS.nil _ _ _, rfl, fun j x e h => by simp at h, Below.refl _ _, X1.out⟩
 case round =>
  obtain ⟨q, acc, hq, rfl, hO, hal, hE, hK, hX⟩ := hrel
  have Q1 := Lib.hid (show q + gk = d.bn ∧ acc.length = q from ⟨hq, hal⟩)
  have O1 := Lib.hid hO
  have E1 := Lib.hid hE
  have K2 := Lib.hid hK
  have KW := Lib.hid (K1.out.trans (Kept.of_below hK))
  have X2 := Lib.hid hX
  have R2 := Lib.hid (HR.out.low (BW.out wr KW.out))
  have G2 := Lib.hid (show W1.heap.size ≤ wr.heap.size from hK.size)
  obtain ⟨a6, c6, rfl, -, -⟩ := hO.sv.lenform
  rw [hal]
  clear hq hO hE hK hX hal
  have i2 : IntKind.i64.wrap ((q : Int) + 1) = (q : Int) + 1 := Go.IntWalk.i64_in _ (by have h1 := Q1.out.1; have h2 := NB.out; have h3 := HR.out.lim; omega)
  by_cases hql : q < d.bn
  ·obtain ⟨lb, lo, hba⟩ := R2.out.sv.addr (by rw [NB.out]; omega)
   obtain ⟨x, hx⟩ : ∃ x, bs[q]? = some x := ⟨_, List.getElem?_eq_getElem (by rw [NB.out]; exact hql)⟩
   obtain ⟨e, he⟩ : ∃ e, ds[q]? = some e := ⟨_, List.getElem?_eq_getElem (by rw [← HR.out.len, NB.out]; exact hql)⟩
   have RX := Lib.hid (R2.out.each q x e hx he)
   have hsv := R2.out.sv
   rw [hba] at hsv
   have R3 := Lib.hid (show wr.rangeAt lb (lo + q * 15) (recCells e.sc (.slice x.ra x.rn x.rc) (.slice x.ea x.en x.ec)) by have := hsv.range hx; rw [← RX.out.cells]; exact this)
   have HE := Lib.hid he
   have hba2 : ba = some ⟨lb, lo, none⟩ := HBA.out.trans hba
   subst hba2
   clear hx he hsv hba
   have hq1 : (q : Int) < (d.bn : Int) := by omega
   have T3 := Lib.hid (show (wr.alloc (.cells #[.int .i64 0, .string ⟨#[]⟩, .string ⟨#[]⟩, .bool false, .int .i64 0, .slice none 0 0, .slice none 0 0, .string ⟨#[]⟩, .string ⟨#[]⟩, .int .i64 0, .int .i64 0, .int .i64 0, .string ⟨#[]⟩, .int .i64 0, .int .i64 0] 55)).there wr.heap.size 0 15 from n_there_new wr _ _)
   have L3 := Lib.hid (show ((wr.alloc (.cells #[.int .i64 0, .string ⟨#[]⟩, .string ⟨#[]⟩, .bool false, .int .i64 0, .slice none 0 0, .slice none 0 0, .string ⟨#[]⟩, .string ⟨#[]⟩, .int .i64 0, .int .i64 0, .int .i64 0, .string ⟨#[]⟩, .int .i64 0, .int .i64 0] 55)).setCells wr.heap.size 0 (recCells e.sc (.slice x.ra x.rn x.rc) (.slice x.ea x.en x.ec))).heap[wr.heap.size]? = some (recObj e.sc (.slice x.ra x.rn x.rc) (.slice x.ea x.en x.ec)) from list_laid (recCells e.sc (.slice x.ra x.rn x.rc) (.slice x.ea x.en x.ec)) (blk_new wr _) rfl)
   have B3 := Lib.hid (show Below wr.heap.size wr ((wr.alloc (.cells #[.int .i64 0, .string ⟨#[]⟩, .string ⟨#[]⟩, .bool false, .int .i64 0, .slice none 0 0, .slice none 0 0, .string ⟨#[]⟩, .string ⟨#[]⟩, .int .i64 0, .int .i64 0, .int .i64 0, .string ⟨#[]⟩, .int .i64 0, .int .i64 0] 55)).setCells wr.heap.size 0 (recCells e.sc (.slice x.ra x.rn x.rc) (.slice x.ea x.en x.ec))) from below_setCells (Nat.le_refl wr.heap.size) (recCells e.sc (.slice x.ra x.rn x.rc) (.slice x.ea x.en x.ec)) 0 _ (alloc_below0 wr _))
   go_wp2_with (first | (refine wpList_load_mid rfl 55 (.tmp 21) rfl lb (lo + q * 15) rfl (recCells e.sc (.slice x.ra x.rn x.rc) (.slice x.ea x.en x.ec)) _ ?_ Tryz.underlying55 rfl recInfoS ?_; exact R3.out) | (refine wpList_store_to rfl 55 (.tmp 8) (.tmp 22) rfl wr.heap.size 0 (recCells e.sc (.slice x.ra x.rn x.rc) (.slice x.ea x.en x.ec)) rfl rfl ?_ recInfoS (rec_one ..) ?_; exact T3.out; intro W4 hW4; have L4 := Lib.hid (show W4.heap[wr.heap.size]? = some (recObj e.sc (.slice x.ra x.rn x.rc) (.slice x.ea x.en x.ec)) by rw [hW4]; exact L3.out); have B4 := Lib.hid (show Below wr.heap.size wr W4 by rw [hW4]; exact B3.out); clear hW4) | (refine wpList_load_mid rfl 55 (.tmp 8) rfl wr.heap.size 0 rfl (recCells e.sc (.slice x.ra x.rn x.rc) (.slice x.ea x.en x.ec)) _ ?_ Tryz.underlying55 rfl recInfoS ?_; exact rec_range L4.out))
   refine (ar_clone_any _ e W4 (RX.out.low B4.out).recV RX.out.2.2.2.1 RX.out.2.2.2.2).mono ?_
   rintro ev w5 ⟨rv, en, rfl, ho1, ho2, hs⟩
   obtain ⟨a2, c2, rfl, -, -⟩ := ho1.sv.lenform
   obtain ⟨a3, c3, rfl, -, -⟩ := ho2.sv.lenform
   have B5 := Lib.hid (B4.out.trans (hs.mono B4.out.size))
   have N5 := Lib.hid (show RecO (w.heap.size + 1) w5 ⟨e.sc, a2, e.rows.length, c2, a3, e.ents.length, c3⟩ e from ⟨rfl, ho1.mono (by have h1 := S1.out; have h2 := G2.out; have h3 := B4.out.size; omega), ho2.mono (by have h1 := S1.out; have h2 := G2.out; have h3 := B4.out.size; omega), RX.out.2.2.2⟩)
   clear ho1 ho2 hs
   have b6 := alloc_below0 w5 (.cells #[.int .i64 e.sc.kind, .string e.sc.low, .string e.sc.high, .bool e.sc.unb, .int .i64 e.sc.right, .slice a2 e.rows.length c2, .slice a3 e.ents.length c3, .string e.sc.key, .string e.sc.value, .int .i64 e.sc.page, .int .i64 e.sc.hp, .int .i64 e.sc.hl, .string e.sc.hk, .int .i64 e.sc.ns, .int .i64 e.sc.ng] 55)
   have SR := Lib.hid (show OwnS lRec 0 (w5.alloc (.cells #[.int .i64 e.sc.kind, .string e.sc.low, .string e.sc.high, .bool e.sc.unb, .int .i64 e.sc.right, .slice a2 e.rows.length c2, .slice a3 e.ents.length c3, .string e.sc.key, .string e.sc.value, .int .i64 e.sc.page, .int .i64 e.sc.hp, .int .i64 e.sc.hl, .string e.sc.hk, .int .i64 e.sc.ns, .int .i64 e.sc.ng] 55)) (.slice (some ⟨w5.heap.size, 0, none⟩) 1 1) [(⟨e.sc, a2, e.rows.length, c2, a3, e.ents.length, c3⟩ : RcL)] from OwnS.lit lRec 0 w5 w5.heap.size rfl [(⟨e.sc, a2, e.rows.length, c2, a3, e.ents.length, c3⟩ : RcL)] (Nat.zero_le _) (by unfold maxLen; simp))
   have B6 := Lib.hid (B5.out.trans (b6.mono B5.out.size))
   have N6 := Lib.hid (N5.out.low b6)
   have O6 := Lib.hid (O1.out.below B6.out)
   have E6 := Lib.hid (show ∀ (j : Nat) (y : RcL) (f : RecD), acc[j]? = some y → ds[j]? = some f → RecO (w.heap.size + 1) _ y f from fun j y f h1 h2 => (E1.out j y f h1 h2).low B6.out)
   have H6 := Lib.hid (show acc.length + 1 ≤ 100000 by have h1 := Q1.out; have h2 := NB.out; have h3 := HR.out.lim; omega)
   have Z6 := Lib.hid (show w.heap.size + 1 ≤ (w5.alloc (.cells #[.int .i64 e.sc.kind, .string e.sc.low, .string e.sc.high, .bool e.sc.unb, .int .i64 e.sc.right, .slice a2 e.rows.length c2, .slice a3 e.ents.length c3, .string e.sc.key, .string e.sc.value, .int .i64 e.sc.page, .int .i64 e.sc.hp, .int .i64 e.sc.hl, .string e.sc.hk, .int .i64 e.sc.ns, .int .i64 e.sc.ng] 55)).heap.size by have h1 := S1.out; have h2 := G2.out; have h3 := B6.out.size; omega)
   have X6 := Lib.hid (blk_step X2.out B6.out)
   have QL := Lib.hid (show acc.length = q from Q1.out.2)
   have O6' := Lib.hid (show OwnS lRec (w.heap.size + 1) (w5.alloc (.cells #[.int .i64 e.sc.kind, .string e.sc.low, .string e.sc.high, .bool e.sc.unb, .int .i64 e.sc.right, .slice a2 e.rows.length c2, .slice a3 e.ents.length c3, .string e.sc.key, .string e.sc.value, .int .i64 e.sc.page, .int .i64 e.sc.hp, .int .i64 e.sc.hl, .string e.sc.hk, .int .i64 e.sc.ns, .int .i64 e.sc.ng] 55)) (.slice a6 q c6) acc from QL.out ▸ O6.out)
   clear b6
   unfold recVal
   go_wp2_with (refine wpList_appS lRec 49 Tryz.underlying49 lRec_known (by decide) (by decide) rfl (.tmp 23) (.tmp 26) rfl (w.heap.size + 1) rfl rfl O6'.out SR.out.sv (by have := H6.out; simpa using this) Z6.out ?_; intro v7 w7 ho7 hg7; have O7 := Lib.hid ho7; have E7 := Lib.hid (show ∀ (j : Nat) (y : RcL) (f : RecD), acc[j]? = some y → ds[j]? = some f → RecO (w.heap.size + 1) w7 y f from fun j y f h1 h2 => (E6.out j y f h1 h2).other O6'.out (by decide) (by decide) (Kept.of_grown hg7)); have N7 := Lib.hid (N6.out.other O6'.out (by decide) (by decide) (Kept.of_grown hg7)); have K7 := Lib.hid ((K2.out.trans (B6.out.mono K2.out.size)).trans ((Kept.of_grown hg7).below (n := W1.heap.size) (fun j hj => by have h1 := (O6'.out.bounds j hj.symm).1; have h2 := S1.out; omega) (by have h1 := K2.out.size; have h2 := B6.out.size; omega))); have X7 := Lib.hid ((hg7.block w.heap.size (Array.getElem?_eq_some_iff.1 X6.out).1 (fun hj => by have h1 := (O6'.out.bounds _ hj.symm).1; omega)).trans X6.out); clear ho7 hg7)
   go_roundg (gk - 1)
   case measure => have := Q1.out.1; omega
   case rel =>
    refine ⟨q + 1, acc ++ [⟨e.sc, a2, e.rows.length, c2, a3, e.ents.length, c3⟩], by have := Q1.out.1; omega, by go_num, O7.out, by rw [List.length_append, QL.out]; rfl, fun j y f h1 h2 => ?_, K7.out, X7.out⟩
    by_cases ej : j < acc.length
    ·rw [List.getElem?_append_left ej] at h1
     exact E7.out j y f h1 h2
    ·rw [List.getElem?_append_right (by omega)] at h1
     have e0 : j = q := by
      rcases Nat.lt_or_ge (j - acc.length) 1 with h | h
      ·have := QL.out; omega
      ·rw [List.getElem?_eq_none (by simpa using h)] at h1; cases h1
     subst e0
     rw [HE.out] at h2
     obtain rfl := Option.some.inj h2
     rw [show j - acc.length = 0 by have := QL.out; omega] at h1
     obtain rfl := Option.some.inj h1
     exact N7.out
  ·have e9 : q = d.bn := by have := Q1.out.1; omega
   have hq1 : ¬ (q : Int) < (d.bn : Int) := by omega
   have JW := Lib.hid (blk_step J1.out K2.out)
   have RH := Lib.hid (show wr.rangeAt jb 5 (recCells hd.sc (.slice d.hd.ra d.hd.rn d.hd.rc) (.slice d.hd.ea d.hd.en d.hd.ec)) by rw [← R2.out.head.cells]; exact job_head JW.out)
   have PW := Lib.hid (P1.out.below K2.out)
   have E9 := Lib.hid e9
   clear e9
   go_wp2_with (refine wpList_load_mid rfl 55 (.tmp 29) rfl jb 5 rfl (recCells hd.sc (.slice d.hd.ra d.hd.rn d.hd.rc) (.slice d.hd.ea d.hd.en d.hd.ec)) _ ?_ Tryz.underlying55 rfl recInfoS ?_; exact RH.out)
   refine (ar_clone_any _ hd wr R2.out.head.recV R2.out.head.2.2.2.1 R2.out.head.2.2.2.2).mono ?_
   rintro ev w3 ⟨rv, en, rfl, ho1, ho2, hs⟩
   obtain ⟨a2, c2, rfl, -, -⟩ := ho1.sv.lenform
   obtain ⟨a3, c3, rfl, -, -⟩ := ho2.sv.lenform
   have B3 := Lib.hid hs
   have LW := Lib.hid (show w.heap.size + 1 ≤ wr.heap.size by have h1 := S1.out; have h2 := G2.out; omega)
   have H3 := Lib.hid (show OwnS lRow (w.heap.size + 1) w3 (.slice a2 hd.rows.length c2) hd.rows ∧ OwnS lEnt (w.heap.size + 1) w3 (.slice a3 hd.ents.length c3) hd.ents from ⟨ho1.mono LW.out, ho2.mono LW.out⟩)
   clear ho1 ho2 hs
   unfold recVal
   have T3 := Lib.hid (show (w3.alloc (.cells #[.int .i64 0, .string ⟨#[]⟩, .string ⟨#[]⟩, .bool false, .int .i64 0, .slice none 0 0, .slice none 0 0, .string ⟨#[]⟩, .string ⟨#[]⟩, .int .i64 0, .int .i64 0, .int .i64 0, .string ⟨#[]⟩, .int .i64 0, .int .i64 0] 55)).there w3.heap.size 0 15 from n_there_new w3 _ _)
   have L3 := Lib.hid (show ((w3.alloc (.cells #[.int .i64 0, .string ⟨#[]⟩, .string ⟨#[]⟩, .bool false, .int .i64 0, .slice none 0 0, .slice none 0 0, .string ⟨#[]⟩, .string ⟨#[]⟩, .int .i64 0, .int .i64 0, .int .i64 0, .string ⟨#[]⟩, .int .i64 0, .int .i64 0] 55)).setCells w3.heap.size 0 (recCells hd.sc (.slice a2 hd.rows.length c2) (.slice a3 hd.ents.length c3))).heap[w3.heap.size]? = some (recObj hd.sc (.slice a2 hd.rows.length c2) (.slice a3 hd.ents.length c3)) from list_laid (recCells hd.sc (.slice a2 hd.rows.length c2) (.slice a3 hd.ents.length c3)) (blk_new w3 _) rfl)
   have Q3 := Lib.hid (show Below w3.heap.size w3 ((w3.alloc (.cells #[.int .i64 0, .string ⟨#[]⟩, .string ⟨#[]⟩, .bool false, .int .i64 0, .slice none 0 0, .slice none 0 0, .string ⟨#[]⟩, .string ⟨#[]⟩, .int .i64 0, .int .i64 0, .int .i64 0, .string ⟨#[]⟩, .int .i64 0, .int .i64 0] 55)).setCells w3.heap.size 0 (recCells hd.sc (.slice a2 hd.rows.length c2) (.slice a3 hd.ents.length c3))) from below_setCells (Nat.le_refl w3.heap.size) (recCells hd.sc (.slice a2 hd.rows.length c2) (.slice a3 hd.ents.length c3)) 0 _ (alloc_below0 w3 _))
   go_upto_region 9 with (refine wpList_store_to rfl 55 (.tmp 9) (.tmp 31) rfl w3.heap.size 0 (recCells hd.sc (.slice a2 hd.rows.length c2) (.slice a3 hd.ents.length c3)) rfl rfl ?_ recInfoS (rec_one ..) ?_; exact T3.out; intro W4 hW4; have L4 := Lib.hid (show W4.heap[w3.heap.size]? = some (recObj hd.sc (.slice a2 hd.rows.length c2) (.slice a3 hd.ents.length c3)) by rw [hW4]; exact L3.out); have B4 := Lib.hid (show Below w3.heap.size w3 W4 by rw [hW4]; exact Q3.out); clear hW4)
   have J4 := Lib.hid (blk_step (blk_step JW.out B3.out) B4.out)
   have P4 := Lib.hid ((PW.out.below B3.out).below B4.out)
   try simp only [Act.put]
   obtain ⟨bb, hbb⟩ : ∃ bb, bb = decide (1 ≤ d.fresh ∧ d.fresh ≤ (pn : Int)) := ⟨_, rfl⟩
   have BB := Lib.hid hbb
   clear hbb
   go_cut [41] from 32 to 41 (fun s41 wc => s41 = .bool bb ∧ wc = W4)
   case first =>
    have pd := PV.out
    subst pd
    have y20 : W4.cell? ⟨jb, 20, none⟩ = some (.int .i64 d.fresh) := blk_cell J4.out 20
    by_cases f1 : 1 ≤ d.fresh
    ·by_cases f2 : d.fresh ≤ (pn : Int)
     ·obtain rfl : bb = true := by rw [BB.out]; exact decide_eq_true ⟨f1, f2⟩
      go_wp2_with fail
      go_meet
      case rel => first | exact ⟨trivial, rfl⟩ | exact ⟨rfl, rfl⟩ | trivial | (simp; done)
     ·obtain rfl : bb = false := by rw [BB.out]; exact decide_eq_false (fun h => f2 h.2)
      go_wp2_with fail
      go_meet
      case rel => first | exact ⟨trivial, rfl⟩ | exact ⟨rfl, rfl⟩ | trivial | (simp; done)
    ·obtain rfl : bb = false := by rw [BB.out]; exact decide_eq_false (fun h => f1 h.1)
     go_wp2_with fail
     go_meet
     case rel => first | exact ⟨trivial, rfl⟩ | exact ⟨rfl, rfl⟩ | trivial | (simp; done)
   case rest =>
    obtain ⟨h41, hW9⟩ := hcut
    subst hW9 h41
    go_upto_if 41 with (fail)
    go_cut [] from 42 to 48 (fun wx => wx.heap[w3.heap.size]? = some (recObj (mkHd hd d.fresh pgs).sc (.slice a2 hd.rows.length c2) (.slice a3 hd.ents.length c3)) ∧ Kept (fun k => k = w3.heap.size) wc wx)
    case first =>
     have y20 : wc.cell? ⟨jb, 20, none⟩ = some (.int .i64 d.fresh) := blk_cell J4.out 20
     cases bb with
     | true =>
      obtain ⟨f1, f2⟩ := of_decide_eq_true BB.out.symm
      have pd := PV.out
      subst pd
      obtain ⟨f, hf⟩ : ∃ f : Nat, d.fresh = (f : Int) + 1 := ⟨(d.fresh - 1).toNat, by omega⟩
      obtain ⟨fr, hfr⟩ : ∃ x, x = d.fresh := ⟨_, rfl⟩
      rw [← hfr] at y20 f1 f2 hf
      have NF := Lib.hid hfr
      clear hfr
      subst hf
      have sp := P4.out.sv
      obtain ⟨lb, lo, hpa⟩ := sp.addr (by rw [← PN.out]; omega)
      subst hpa
      have hfp : f < pn := by omega
      obtain ⟨x, hx⟩ : ∃ x, pgs[f]? = some x := ⟨_, List.getElem?_eq_getElem (by rw [← PN.out]; exact hfp)⟩
      have y21 : wc.cell? ⟨lb, lo + f, none⟩ = some (.int .i64 x) := by simpa [lInt] using sp.cellAt (j := 0) hx rfl
      have HX := Lib.hid hx
      have L5 := Lib.hid (show (wc.setCell ⟨w3.heap.size, 9, none⟩ (.int .i64 x)).heap[w3.heap.size]? = some (recObj { hd.sc with page := x } (.slice a2 hd.rows.length c2) (.slice a3 hd.ents.length c3)) from blk_set (cs := (recCells hd.sc (.slice a2 hd.rows.length c2) (.slice a3 hd.ents.length c3)).toArray) L4.out 9 (.int .i64 x))
      have MK := Lib.hid (show (mkHd hd ((f : Int) + 1) pgs).sc = { hd.sc with page := x } by unfold mkHd; rw [if_pos ⟨by omega, by rw [← PN.out]; omega⟩, show ((f : Int) + 1 - 1).toNat = f by omega, List.getD_eq_getElem?_getD, HX.out]; rfl)
      have fz : wc.frozen? ⟨w3.heap.size, 9, none⟩ = false := blk_free (cs := (recCells hd.sc (.slice a2 hd.rows.length c2) (.slice a3 hd.ents.length c3)).toArray) L4.out 9
      have wz : wc.cell? ⟨w3.heap.size, 9, none⟩ = some (.int .i64 hd.sc.page) := blk_cell (cs := (recCells hd.sc (.slice a2 hd.rows.length c2) (.slice a3 hd.ents.length c3)).toArray) L4.out 9
      have i1 : IntKind.i64.wrap ((f : Int) + 1 - 1) = (f : Int) := by rw [show (f : Int) + 1 - 1 = f by omega]; exact Go.IntWalk.i64_in _ (by have h1 := PN.out; have h2 := HH.out.1; omega)
      have i2' : IntKind.i64.wrap (f : Int) = (f : Int) := Go.IntWalk.i64_in _ (by have h1 := PN.out; have h2 := HH.out.1; omega)
      have fi : (f : Int) < (pn : Int) := by omega
      clear sp hx
      go_wp2_with fail
      go_meet
      case rel =>
       rw [← NF.out, MK.out]
       first | exact ⟨trivial, L5.out, (Kept.refl _ _).setCell _ _⟩ | exact ⟨L5.out, (Kept.refl _ _).setCell _ _⟩
     | false =>
      have f9 := of_decide_eq_false BB.out.symm
      have MK := Lib.hid (show mkHd hd d.fresh pgs = hd by unfold mkHd; rw [if_neg (by rw [← PN.out]; exact f9)])
      clear f9
      go_wp2_with fail
      go_meet
      case rel => rw [MK.out]; exact ⟨L4.out, Kept.refl _ _⟩
    case rest =>
     obtain ⟨hm, hk⟩ := hcut
     have HM := Lib.hid hm
     have WS := Lib.hid (show w.heap.size + 1 ≤ wr.heap.size ∧ wr.heap.size ≤ w3.heap.size from ⟨LW.out, B3.out.size⟩)
     have SF := Lib.hid (show ∀ k, (k = w.heap.size ∨ k = w3.heap.size ∨ pv.ownBlock = some k) → (k < w.heap.size + 1 ∨ w3.heap.size ≤ k) from fun k h => by
      rcases h with h | h | h
      ·left; omega
      ·right; omega
      ·left; have := (PB.out k h).2; omega)
     have XC := Lib.hid (show wc.heap[w.heap.size]? = some (.cells #[.int .i64 0, .string ⟨#[]⟩, .string ⟨#[]⟩, .bool false, .int .i64 0, .slice none 0 0, .slice none 0 0, .string ⟨#[]⟩, .string ⟨#[]⟩, .int .i64 0, .int .i64 0, .int .i64 0, .string ⟨#[]⟩, .int .i64 0, .int .i64 0] 55 (0, 0)) by
      have h4 := blk_step (blk_step X2.out B3.out) B4.out
      exact (hk.block w.heap.size (Array.getElem?_eq_some_iff.1 h4).1 (by have := WS.out; omega)).trans h4)
     have PC := Lib.hid (P4.out.kept hk (fun a n c e hs => by have h1 := (PB.out a.block (by rw [e]; rfl)).2; have h2 := WS.out; have h3 : a.block = w3.heap.size := hs; omega))
     have KC := Lib.hid (show Kept (fun k => k = w.heap.size ∨ k = w3.heap.size ∨ pv.ownBlock = some k) w3 wc from (Kept.of_below B4.out).trans (hk.wide fun _ _ h => .inr (.inl h)))
     clear hm hk
     have PP := Lib.hid (show (Value.slice pa pn pc).ownBlock = pv.ownBlock by rw [PV.out])
     have PQ := Lib.hid (show OwnS lInt b0 wc (.slice pa pn pc) pgs from PV.out ▸ PC.out)
     have pd := PV.out
     generalize hpv2 : (Value.slice pa pn pc) = pv2 at pd
     subst pd
     subst hpv2
     go_wp2_with fail
     obtain ⟨wo, rfl⟩ : ∃ x, x = wr := ⟨_, rfl⟩
     go_loopg [51] pn (fun g v51 wz => ∃ (k : Nat) (pg : List Int), k + g = pn ∧ v51 = .int .i64 (k : Int) ∧ pg.length = pn ∧ OwnS lInt b0 wz (.slice pa pn pc) pg ∧ Kept (fun k => (Value.slice pa pn pc).ownBlock = some k) wc wz)
     case atStart => exact ⟨0, pgs, by omega, rfl, PN.out.symm, PQ.out, Kept.refl _ _⟩
     case round =>
      obtain ⟨k, pg, hk, rfl, hl, hO, hK⟩ := hrel
      have Q5 := Lib.hid (show k + gk = pn ∧ pg.length = pn from ⟨hk, hl⟩)
      have O5 := Lib.hid hO
      have K5 := Lib.hid hK
      clear hk hl hO hK
      have i9 : IntKind.i64.wrap ((k : Int) + 1) = (k : Int) + 1 := Go.IntWalk.i64_in _ (by have h1 := Q5.out.1; have h2 := PN.out; have h3 := HH.out.1; omega)
      by_cases hkp : k < pn
      ·obtain ⟨lb, lo, hpa⟩ := O5.out.sv.addr (by rw [Q5.out.2]; omega)
       subst hpa
       obtain rfl : lo = 0 := by
        obtain ⟨_, hq⟩ := O5.out
        rcases hq with ⟨e, -⟩ | ⟨g, cap, cur, e, -⟩
        ·cases e
        ·cases e; rfl
       obtain ⟨x, hx⟩ : ∃ x, pg[k]? = some x := ⟨_, List.getElem?_eq_getElem (by rw [Q5.out.2]; exact hkp)⟩
       have y51 : wr.cell? ⟨lb, k, none⟩ = some (.int .i64 x) := by simpa [lInt] using O5.out.sv.cellAt (j := 0) hx rfl
       obtain ⟨cur, hcu, -⟩ := O5.out.block
       have fz : wr.frozen? ⟨lb, k, none⟩ = false := blk_free hcu k
       have HX := Lib.hid hx
       have O6 := Lib.hid (show OwnS lInt b0 (wr.setCell ⟨lb, k, none⟩ (.int .i64 (wrap64 (x + 1)))) (.slice (some ⟨lb, 0, none⟩) pn pc) (pg.set k (wrap64 (x + 1))) by
        have h := O5.out.set (j := 0) (y := wrap64 (x + 1)) (u := .int .i64 (wrap64 (x + 1))) hx (by decide) rfl
        simpa [lInt] using h)
       have hkp1 : (k : Int) < (pn : Int) := by omega
       clear hx hcu
       go_wp2_with fail
       go_roundg (gk - 1)
       case measure => have := Q5.out.1; omega
       case rel => exact ⟨k + 1, pg.set k (wrap64 (x + 1)), by have := Q5.out.1; omega, by go_num, by rw [List.length_set]; exact Q5.out.2, O6.out, K5.out.setCellB k _⟩
      ·obtain rfl : k = pn := by have := Q5.out.1; omega
       have hkp1 : ¬ (k : Int) < (k : Int) := by omega
       go_wp2_with fail
       have KZ := Lib.hid (show Kept (fun j => j = w.heap.size ∨ j = w3.heap.size ∨ (Value.slice pa k pc).ownBlock = some j) w3 wr.drew from (KC.out.trans (K5.out.wide fun _ _ h => .inr (.inr h))).drew)
       have PZ := Lib.hid (show ∀ j, (Value.slice pa k pc).ownBlock = some j → j < w.heap.size from fun j h => (PB.out j h).2)
       have HD := Lib.hid (show wr.drew.heap[w3.heap.size]? = some (recObj (mkHd hd d.fresh pgs).sc (.slice a2 hd.rows.length c2) (.slice a3 hd.ents.length c3)) from (K5.out.block w3.heap.size (Array.getElem?_eq_some_iff.1 HM.out).1 (fun h => by have h1 := PZ.out _ h; have h2 := WS.out; omega)).trans HM.out)
       have XD := Lib.hid (show wr.drew.heap[w.heap.size]? = some (.cells #[.int .i64 0, .string ⟨#[]⟩, .string ⟨#[]⟩, .bool false, .int .i64 0, .slice none 0 0, .slice none 0 0, .string ⟨#[]⟩, .string ⟨#[]⟩, .int .i64 0, .int .i64 0, .int .i64 0, .string ⟨#[]⟩, .int .i64 0, .int .i64 0] 55 (0, 0)) from (K5.out.block w.heap.size (Array.getElem?_eq_some_iff.1 XC.out).1 (fun h => by have h1 := PZ.out _ h; omega)).trans XC.out)
       have KD := KZ
       refine AnyBut.region (fun w' => w'.heap[w3.heap.size]? = some (recObj (mkHd hd d.fresh pgs).sc (.slice a2 hd.rows.length c2) (.slice a3 hd.ents.length c3))) 3 (by kernel_rfl) ?_
       generalize wr.drew = wd at *
       refine AnyBut.takeP [] (i := 0) (oi := ⟨some 61, _, _, _, _, _⟩) (v := ?vz0) rfl (by kernel_rfl) (by kernel_rfl) (by kernel_rfl) (by kernel_rfl) (by kernel_rfl) (fun _ _ _ h => h) (Or.inl ⟨by rfl, ?hyz0⟩) HD.out ?restz0
       case hyz0 => (intro w hSw; go_simp; try (with_reducible rfl))
       simp only [Act.put, sT, sZ, sS]
       refine AnyBut.takeP [] (i := 1) (oi := ⟨some 62, _, _, _, _, _⟩) (v := .agg (recCells (mkHd hd d.fresh pgs).sc (.slice a2 hd.rows.length c2) (.slice a3 hd.ents.length c3)).toArray) rfl (by kernel_rfl) (by kernel_rfl) (by kernel_rfl) (by kernel_rfl) (by kernel_rfl) (fun _ _ _ h => h) (yieldsIf_load_mid (by rfl) 55 (.tmp 9) rfl w3.heap.size 0 rfl (recCells (mkHd hd d.fresh pgs).sc (.slice a2 hd.rows.length c2) (.slice a3 hd.ents.length c3)) _ (fun w h => rec_range h) Tryz.underlying55 rfl recInfoS) HD.out ?restz1
       simp only [Act.put, sT, sZ, sS]
       refine AnyBut.one (i := 2) (o := ⟨some 4, _, _, _, _, _⟩) (by kernel_rfl) rfl (fun K hK => ?_)
       rw [if_pos (by rfl)]
       go_simp
       refine hK.out _ _ (fun _ => HD.out) ?_
       clear hK K
       try simp only [Act.put, sT, sZ, sS]
       refine AnyBut.one (i := 3) (o := ⟨none, _, _, _, _, _⟩) (by kernel_rfl) rfl (fun K hK => ?_)
       rw [if_pos (by rfl)]
       refine wp_store_to 55 (.tmp 5) (.tmp 62) rfl w.heap.size 0 (recCells (mkHd hd d.fresh pgs).sc (.slice a2 hd.rows.length c2) (.slice a3 hd.ents.length c3)) rfl rfl ?_ recInfoS (rec_one ..) ?_
       ·exact blk_there XD.out 15 (Nat.le_refl _)
       intro W6 hW6
       have X6 := Lib.hid (show W6.heap[w.heap.size]? = some (recObj (mkHd hd d.fresh pgs).sc (.slice a2 hd.rows.length c2) (.slice a3 hd.ents.length c3)) by rw [hW6]; exact list_laid (recCells (mkHd hd d.fresh pgs).sc (.slice a2 hd.rows.length c2) (.slice a3 hd.ents.length c3)) XD.out rfl)
       have K6 := Lib.hid (show Kept (fun j => j = w.heap.size ∨ j = w3.heap.size ∨ (Value.slice pa k pc).ownBlock = some j) w3 W6 by rw [hW6]; exact KD.out.trans ((Kept.setCells (recCells (mkHd hd d.fresh pgs).sc (.slice a2 hd.rows.length c2) (.slice a3 hd.ents.length c3)) 0 _ (Kept.refl _ _)).wide fun _ _ h => .inl h))
       clear hW6
       refine hK.out _ _ (fun h => absurd rfl h) ?_
       clear hK K
       refine AnyBut.done (by kernel_rfl) ?_ _
       try simp only [Act.put]
       go_wp2
       refine bodyPost_ret (v := .tuple #[.slice a6 q c6, .agg (recCells (mkHd hd d.fresh pgs).sc (.slice a2 hd.rows.length c2) (.slice a3 hd.ents.length c3)).toArray]) (results_tmpC rfl _ _ w.heap.size (recCells (mkHd hd d.fresh pgs).sc (.slice a2 hd.rows.length c2) (.slice a3 hd.ents.length c3)) _ _ rfl rfl (rec_range X6.out) Tryz.underlying55 rfl recInfoS) rfl ?_
       have KF := (Kept.of_below B3.out).trans K6.out
       have hS : ∀ j, (fun j => j = w.heap.size ∨ j = w3.heap.size ∨ (Value.slice pa k pc).ownBlock = some j) j → j < w.heap.size + 1 ∨ w3.heap.size ≤ j := fun j h => SF.out j h
       have hS0 : ∀ j, (fun j => j = w.heap.size ∨ j = w3.heap.size ∨ (Value.slice pa k pc).ownBlock = some j) j → j < w.heap.size + 1 ∨ wo.heap.size ≤ j := fun j h => (hS j h).imp_right (fun h => Nat.le_trans WS.out.2 h)
       have hrw := H3.out.1.keptF K6.out hS
       have hen := H3.out.2.keptF K6.out hS
       have hac := O1.out.keptF KF hS0
       rw [Q1.out.2] at hac
       have hmr := mkHd_rows hd d.fresh pgs
       refine ⟨a6, q, c6, a2, hd.rows.length, c2, a3, hd.ents.length, c3, acc, rfl, ⟨hac.sv, hac.out (S := fun k => k < w.heap.size) (fun j h => Nat.lt_succ_of_lt h), by rw [Q1.out.2, E9.out, ← NB.out, HR.out.len], by have h1 := Q1.out.2; have h2 := E9.out; have h3 := NB.out; have h4 := HR.out.lim; omega, fun j y f h1 h2 => ((E1.out j y f h1 h2).keptF KF hS0).inn (S := fun k => k < w.heap.size) (fun j h => Nat.lt_succ_of_lt h)⟩, ⟨_, _, rfl, by rw [hmr.1]; exact hrw.sv, by rw [hmr.2]; exact hen.sv⟩, hrw.out (S := fun k => k < w.heap.size) (fun j h => Nat.lt_succ_of_lt h), hen.out (S := fun k => k < w.heap.size) (fun j h => Nat.lt_succ_of_lt h), by rw [hmr.1]; exact R2.out.head.2.2.2.1, by rw [hmr.2]; exact R2.out.head.2.2.2.2, kept_mix KW.out KF (fun j h => ?_), fun j e hi => e ▸ ((LI.out.low K2.out).kept KF (fun h => by have h1 := HH.out.2.2.2.2; have h2 := WS.out; exact h.elim (fun h => by omega) (fun h => h.elim (fun h => by omega) HH.out.2.2.2.1)))⟩
       rcases h with h | h | h
       ·right; omega
       ·right; have := WS.out; omega
       ·left; exact .inr h
end Go.Proofs.YtejmdmaebkdjoaaGreatDoor
