/- The document's own Step: a record is put. -/
import Derived.Test.YtejmdmaebkdjoaaGreatDoorPlStB
namespace Go.Proofs.YtejmdmaebkdjoaaGreatDoor
set_option linter.unusedVariables false
set_option linter.unusedSimpArgs false
set_option maxRecDepth 100000
set_option maxHeartbeats 4000000
open Go.RowKit
theorem iStep12_putB {w0 w : World} {T : Nat → Prop} {X : DX} {Y : MX} {D : DI} {ps : List Pt} {L : List Pg} {us : List PuD} {ups : List Up} (ds : List RecD) (hd : RecD) (hD : DocS w0 w T X Y D ps L us ups) {bs : List RcL} (hJ : JobR w0 X.d bs ds hd) (ho : D.over = false) (hb : D.back = false) (hp : ¬ (D.pgs.length : Int) < X.d.news) (hc : (D.rfs.length : Int) < X.d.news) (hl : D.rfs.length ≤ 900 ∧ D.pgs.length ≤ 900) (hu : us.length ≤ 900) (hlm : Y.l.s ≤ 4096 ∧ Y.l.c ≤ 1099511627776) :
  Calls Tryz.prog 12 #[X.val, Y.val] w (StepR w0 w T ds hd X Y D ps L us ups) := by
 have HST := Lib.hid (show D.step Y.l X.d ds hd ps L = (if (allocM Y.l.s Y.l.c ps).2.2 = 0 then { D with rfs := D.rfs ++ [(((allocM Y.l.s Y.l.c ps).1 : Int), ((allocM Y.l.s Y.l.c ps).2.1 : Int))] } else D.backE (allocM Y.l.s Y.l.c ps).2.2, putM Y.l.s Y.l.c ps (D.recd X.d ds hd), L) by unfold DI.step; rw [if_neg (by rw [ho]; decide), if_neg (by rw [hb]; decide), if_neg hp, if_pos (by omega)])
 have HO := Lib.hid ho
 have HB := Lib.hid hb
 have HP := Lib.hid hp
 have HL := Lib.hid hl
 have HU := Lib.hid hu
 have HC := Lib.hid hc
 have HJ := Lib.hid hJ
 have HLM := Lib.hid hlm
 have HBL := Lib.hid (show X.rn ≤ 1000 ∧ X.pn ≤ 1000 by rw [hD.pn, hD.rn]; omega)
 have RD := Lib.hid (show D.recd X.d ds hd = ((ds[D.rfs.length]?).map RecD.bare).getD RecD.zero by unfold DI.recd; rw [if_pos hc])
 clear ho hb hp hl hu hc hJ hlm
 obtain ⟨W0, hW0⟩ : ∃ W, W = ((((w.alloc (.cells X.list.toArray 68)).alloc (.cells Y.list.toArray 43)).alloc (.cells DX.zero.list.toArray 68)).alloc (.cells MX.zero.list.toArray 43)) := ⟨_, rfl⟩
 have A0 := Lib.hid (show SA w W0 X Y by rw [hW0]; exact SA.start w X Y)
 have D0 := Lib.hid (hD.boxes A0.out.below A0.out.sz)
 have XO := Lib.hid hD.over
 have XB := Lib.hid hD.back
 have XL := Lib.hid hD.links
 have PN := Lib.hid hD.pn
 have RN := Lib.hid hD.rn
 have TLT := Lib.hid hD.hi
 have hzl : DX.zero.list.toArray = #[.int .i64 0, .int .i64 0, .int .i64 0, .int .i64 0, .slice none 0 0, .int .i64 0, .string ⟨#[]⟩, .string ⟨#[]⟩, .bool false, .int .i64 0, .slice none 0 0, .slice none 0 0, .string ⟨#[]⟩, .string ⟨#[]⟩, .int .i64 0, .int .i64 0, .int .i64 0, .string ⟨#[]⟩, .int .i64 0, .int .i64 0, .int .i64 0, .bool false, .bool false, .bool false, .bool false, .int .i64 0, .slice none 0 0, .slice none 0 0, .int .i64 0] := rfl
 have hzm : MX.zero.list.toArray = #[.int .i64 0, .int .i64 0, .int .i64 0, .int .i64 0, .int .i64 0, .int .i64 0, .int .i64 0, .int .i64 0, .slice none 0 0, .int .i64 0, .slice none 0 0, .int .i64 0, .int .i64 0, .slice none 0 0, .int .i64 0] := rfl
 rw [hzl, hzm] at hW0
 clear hzl hzm hD
 unfold DX.val MX.val
 generalize hxl : X.list.toArray = xl at hW0 ⊢
 generalize hyl : Y.list.toArray = yl at hW0 ⊢
 clear hxl hyl
 go_enter Tryz.func12, Tryz.ntmps12
 go_upto_region 1 with (fail)
 rw [← hW0]
 clear hW0
 have y0 := A0.out.i.cOver
 rw [XO.out, HO.out] at y0
 obtain ⟨cnt, hcnt⟩ : ∃ x, x = IntKind.i64.wrap (Y.count + 1) := ⟨_, rfl⟩
 have ic : IntKind.i64.wrap (Y.count + 1) = cnt := hcnt.symm
 have CN := Lib.hid hcnt
 clear hcnt
 have y1 := A0.out.m.cCount
 have y2 := A0.out.m.free 14
 go_upto_region 4 with (fail)
 clear y0 y1 y2 ic
 have A1 := Lib.hid (A0.out.count cnt)
 have D1 := Lib.hid (show DocS _ (W0.setCell ⟨w.heap.size + 1, 14, none⟩ (.int .i64 cnt)) _ _ _ _ _ _ _ _ from (D0.out.keep ((Kept.refl _ _).setCell _ _) boxT.m).count cnt)
 generalize W0.setCell ⟨w.heap.size + 1, 14, none⟩ (.int .i64 cnt) = W1 at *
 obtain ⟨Y1, hY1⟩ : ∃ x, x = { Y with count := cnt } := ⟨_, rfl⟩
 rw [← hY1] at A1 D1
 have YL := Lib.hid (show Y1.l = Y.l by rw [hY1])
 have YC := Lib.hid (show Y1.count = IntKind.i64.wrap (Y.count + 1) by rw [hY1]; exact CN.out)
 clear hY1
 clear D0 A0
 have y0 := A1.out.i.cNews
 go_upto_region 5 with (fail)
 clear y0
 have y0 := A1.out.i.cBack
 rw [XB.out, HB.out] at y0
 have y1 := A1.out.i.cPgs
 have y2 := A1.out.i.cRfs
 have ip : ¬ (X.pn : Int) < X.d.news := by rw [PN.out]; exact HP.out
 have ib : (X.rn : Int) < X.d.news := by rw [RN.out]; exact HC.out
 have g0 := A1.out.i.rng
 go_upto_region 23 with (fail)
 go_wp2_with (refine wpList_load_mid rfl 68 (.tmp 2) rfl w.heap.size 0 rfl X.list _ ?_ Tryz.underlying68 rfl X.info ?_; exact g0)
 refine (iHead12_any X X.d.hd.sc X.d.hd.ra X.d.hd.rn X.d.hd.rc X.d.hd.ea X.d.hd.en X.d.hd.ec rfl D.pgs _ D1.out.pg HBL.out.2).mono ?_
 rintro e2 w2 ⟨rfl, hs⟩
 have A2 := Lib.hid (A1.out.low hs)
 have D2 := Lib.hid (D1.out.low hs)
 have B12 := Lib.hid hs
 clear hs y0 y1 y2 g0
 obtain ⟨hc, hhc⟩ : ∃ x, x = mkSc X.d.hd.sc X.d.fresh D.pgs := ⟨_, rfl⟩
 rw [← hhc]
 have HHC := Lib.hid hhc
 clear hhc
 have T2 := Lib.hid (show (w2.alloc (.cells #[.int .i64 0, .string ⟨#[]⟩, .string ⟨#[]⟩, .bool false, .int .i64 0, .slice none 0 0, .slice none 0 0, .string ⟨#[]⟩, .string ⟨#[]⟩, .int .i64 0, .int .i64 0, .int .i64 0, .string ⟨#[]⟩, .int .i64 0, .int .i64 0] 55)).there w2.heap.size 0 15 from n_there_new w2 _ _)
 have L2 := Lib.hid (show ((w2.alloc (.cells #[.int .i64 0, .string ⟨#[]⟩, .string ⟨#[]⟩, .bool false, .int .i64 0, .slice none 0 0, .slice none 0 0, .string ⟨#[]⟩, .string ⟨#[]⟩, .int .i64 0, .int .i64 0, .int .i64 0, .string ⟨#[]⟩, .int .i64 0, .int .i64 0] 55)).setCells w2.heap.size 0 (recCells hc (.slice X.d.hd.ra X.d.hd.rn X.d.hd.rc) (.slice X.d.hd.ea X.d.hd.en X.d.hd.ec))).heap[w2.heap.size]? = some (recObj hc (.slice X.d.hd.ra X.d.hd.rn X.d.hd.rc) (.slice X.d.hd.ea X.d.hd.en X.d.hd.ec)) from list_laid (recCells hc (.slice X.d.hd.ra X.d.hd.rn X.d.hd.rc) (.slice X.d.hd.ea X.d.hd.en X.d.hd.ec)) (blk_new w2 _) rfl)
 have B2 := Lib.hid (show Below w2.heap.size w2 ((w2.alloc (.cells #[.int .i64 0, .string ⟨#[]⟩, .string ⟨#[]⟩, .bool false, .int .i64 0, .slice none 0 0, .slice none 0 0, .string ⟨#[]⟩, .string ⟨#[]⟩, .int .i64 0, .int .i64 0, .int .i64 0, .string ⟨#[]⟩, .int .i64 0, .int .i64 0] 55)).setCells w2.heap.size 0 (recCells hc (.slice X.d.hd.ra X.d.hd.rn X.d.hd.rc) (.slice X.d.hd.ea X.d.hd.en X.d.hd.ec))) from below_setCells (Nat.le_refl w2.heap.size) (recCells hc (.slice X.d.hd.ra X.d.hd.rn X.d.hd.rc) (.slice X.d.hd.ea X.d.hd.en X.d.hd.ec)) 0 _ (alloc_below0 w2 _))
 go_upto_region 24 with (refine wpList_store_to rfl 55 (.tmp 14) (.tmp 149) rfl w2.heap.size 0 (recCells hc (.slice X.d.hd.ra X.d.hd.rn X.d.hd.rc) (.slice X.d.hd.ea X.d.hd.en X.d.hd.ec)) rfl rfl ?_ recInfoS (rec_one ..) ?_; exact T2.out; intro W3 hW3; have L3 := Lib.hid (show W3.heap[w2.heap.size]? = some (recObj hc (.slice X.d.hd.ra X.d.hd.rn X.d.hd.rc) (.slice X.d.hd.ea X.d.hd.en X.d.hd.ec)) by rw [hW3]; exact L2.out); have B3 := Lib.hid (show Below w2.heap.size w2 W3 by rw [hW3]; exact B2.out); have A3 := Lib.hid (A2.out.low B3.out); have D3 := Lib.hid (D2.out.low B3.out); clear hW3)
 clear T2 L2 B2 A2 D2
 have y2 := A3.out.i.cRfs
 have g0 := A3.out.i.rng
 go_wp2_with (refine wpList_load_mid rfl 68 (.tmp 2) rfl w.heap.size 0 rfl X.list _ ?_ Tryz.underlying68 rfl X.info ?_; exact g0)
 refine (iBase_any X bs X.rn _ (HJ.out.sv.below D3.out.bl) (by have := HBL.out; omega)).mono ?_
 rintro e4 w4 ⟨rfl, hs⟩
 have B14 := Lib.hid ((B12.out.trans (B3.out.mono B12.out.size)).trans (hs.mono (Nat.le_trans B12.out.size B3.out.size)))
 have L4 := Lib.hid (blk_step L3.out hs)
 obtain ⟨⟨sc, xa, xn, xc, ya, yn, yc⟩, hbr⟩ : ∃ x, x = baseR bs X.rn := ⟨_, rfl⟩
 have RV := Lib.hid (show RecV w0 (recVal sc (.slice xa xn xc) (.slice ya yn yc)) (D.recd X.d ds hd) by have h := baseR_reads HJ.out X.rn; rw [← hbr, RN.out] at h; rw [RD.out]; exact h)
 rw [← hbr]
 clear hs hbr y2 g0
 go_upto_region 26 with (refine wpList_store_to rfl 55 (.tmp 14) (.tmp 159) rfl w2.heap.size 0 (recCells sc (.slice xa xn xc) (.slice ya yn yc)) rfl rfl ?_ recInfoS (rec_one ..) ?_; exact blk_there (cs := (recCells hc (.slice X.d.hd.ra X.d.hd.rn X.d.hd.rc) (.slice X.d.hd.ea X.d.hd.en X.d.hd.ec)).toArray) L4.out 15 (Nat.le_refl _); intro W5 hW5; have L5 := Lib.hid (show W5.heap[w2.heap.size]? = some (recObj sc (.slice xa xn xc) (.slice ya yn yc)) by rw [hW5]; exact list_laid (recCells sc (.slice xa xn xc) (.slice ya yn yc)) (cs := (recCells hc (.slice X.d.hd.ra X.d.hd.rn X.d.hd.rc) (.slice X.d.hd.ea X.d.hd.en X.d.hd.ec)).toArray) L4.out rfl); have B15 := Lib.hid (show Below W1.heap.size W1 W5 by rw [hW5]; exact below_setCells B12.out.size _ 0 _ B14.out); have A5 := Lib.hid (A1.out.low B15.out); have D5 := Lib.hid (D1.out.low B15.out); clear hW5)
 have g1 := A5.out.m.arena
 obtain ⟨rcd, hrc⟩ : ∃ x, x = D.recd X.d ds hd := ⟨_, rfl⟩
 rw [← hrc] at RV HST
 clear hrc
 go_wp2_with (first
  | (refine wpList_load_mid rfl 35 (.tmp 161) rfl (w.heap.size + 1) 6 rfl (arL Y1 Y1.qa Y1.qn Y1.qc) _ ?_ Tryz.underlying35 rfl arInfo ?_; exact g1)
  | (refine wpList_load_mid rfl 55 (.tmp 14) rfl w2.heap.size 0 rfl (recCells sc (.slice xa xn xc) (.slice ya yn yc)) _ ?_ Tryz.underlying55 rfl recInfoS ?_; exact rec_range L5.out))
 refine (rf_alloc Y1.l.s Y1.l.c (.slice Y1.qa Y1.qn Y1.qc) (recVal sc (.slice xa xn xc) (.slice ya yn yc)) us rcd _ D5.out.puts (RV.out.below D5.out.bl) (by have := HU.out; omega) (by rw [YL.out]; exact HLM.out.1) (by rw [YL.out]; exact HLM.out.2)).mono ?_
 rintro e6 w6 ⟨v', us', rfl, hp, hm, hlen, ⟨hn, hh⟩, hs⟩
 obtain ⟨va, vc, rfl, -, -⟩ := hp.1.lenform
 have A6 := Lib.hid (A5.out.low hs)
 have D6 := Lib.hid ((D5.out.low hs).arenaP hn (fun k hk => D5.out.hi k hk) (alloc_read D5.out.rc RV.out hh))
 have LE := Lib.hid hlen
 obtain ⟨x, hx⟩ : ∃ x, x = ((allocM Y1.l.s Y1.l.c (us.map PuD.pt)).1 : Int) := ⟨_, rfl⟩
 obtain ⟨y, hy⟩ : ∃ x, x = ((allocM Y1.l.s Y1.l.c (us.map PuD.pt)).2.1 : Int) := ⟨_, rfl⟩
 obtain ⟨e0, he0⟩ : ∃ x, x = (allocM Y1.l.s Y1.l.c (us.map PuD.pt)).2.2 := ⟨_, rfl⟩
 have HS1 := Lib.hid (show D.step Y.l X.d ds hd ps L = (if e0 = 0 then { D with rfs := D.rfs ++ [(x, y)] } else D.backE e0, us'.map PuD.pt, L) by rw [HST.out, hx, hy, he0, hm, D1.out.am, YL.out])
 rw [← hx, ← hy, ← he0]
 clear hx hy he0 hp hm hlen hn hh hs g1
 obtain ⟨Y2, hY2⟩ : ∃ x, x = { Y1 with qa := va, qn := us'.length, qc := vc } := ⟨_, rfl⟩
 rw [← hY2] at D6
 have Y2L := Lib.hid (show Y2.l = Y.l by rw [hY2]; exact YL.out)
 have Y2C := Lib.hid (show Y2.count = IntKind.i64.wrap (Y.count + 1) by rw [hY2]; exact YC.out)
 have HY2 := Lib.hid hY2
 clear hY2
 obtain ⟨wA, hwA⟩ : ∃ x, x = (w6.alloc (.cells #[.int .i64 0, .int .i64 0, .slice none 0 0] 35)).alloc (.cells #[.int .i64 0, .int .i64 0] 48) := ⟨_, rfl⟩
 have bA := alloc_below0 w6 (.cells #[.int .i64 0, .int .i64 0, .slice none 0 0] 35)
 have sA : (w6.alloc (.cells #[.int .i64 0, .int .i64 0, .slice none 0 0] 35)).heap.size = w6.heap.size + 1 := by simp
 have bB := alloc_below0 (w6.alloc (.cells #[.int .i64 0, .int .i64 0, .slice none 0 0] 35)) (.cells #[.int .i64 0, .int .i64 0] 48)
 have BA := Lib.hid (show Below w6.heap.size w6 wA by rw [hwA]; exact bA.trans (bB.mono bA.size))
 have LA := Lib.hid (show wA.heap[w6.heap.size]? = some (.cells #[.int .i64 0, .int .i64 0, .slice none 0 0] 35 (0, 0)) by rw [hwA]; exact blk_step (blk_new w6 _) bB)
 have RA := Lib.hid (show wA.heap[w6.heap.size + 1]? = some (.cells #[.int .i64 0, .int .i64 0] 48 (0, 0)) by rw [hwA, ← sA]; exact blk_new _ _)
 have tA : ((w6.alloc (.cells #[.int .i64 0, .int .i64 0, .slice none 0 0] 35)).alloc (.cells #[.int .i64 0, .int .i64 0] 48)).there w6.heap.size 0 3 := by rw [← hwA]; exact blk_there LA.out 3 (Nat.le_refl _)
 have WA := Lib.hid hwA
 clear hwA bA bB sA
 go_upto_region 28 with (first
  | (refine wpList_store_to rfl 35 (.tmp 15) (.tmp 165) rfl w6.heap.size 0 (arL Y1 va us'.length vc) rfl rfl ?_ arInfo (arL_one ..) ?_; exact tA; rw [← WA.out]; intro W7 hW7; have L7 := Lib.hid (show W7.heap[w6.heap.size]? = some (.cells (arL Y1 va us'.length vc).toArray 35 (0, 0)) by rw [hW7]; exact list_laid (arL Y1 va us'.length vc) LA.out rfl); have k7 : Kept (fun k => k = w6.heap.size) wA W7 := by { rw [hW7]; exact Kept.setCells _ _ _ (Kept.refl _ _) }; have R7 := Lib.hid ((k7.block _ (Array.getElem?_eq_some_iff.1 RA.out).1 (show ¬ w6.heap.size + 1 = w6.heap.size by omega)).trans RA.out); have B7 := Lib.hid (BA.out.trans (k7.below (n := w6.heap.size) (fun k (e : k = w6.heap.size) => by omega) BA.out.size)); have tR := blk_there R7.out 2 (Nat.le_refl _); clear hW7 k7)
  | (refine wpList_store_to rfl 48 (.tmp 16) (.tmp 166) rfl (w6.heap.size + 1) 0 [.int .i64 x, .int .i64 y] rfl rfl ?_ refInfoS (xy_one ..) ?_; exact tR; intro W8 hW8; have R8 := Lib.hid (show W8.heap[w6.heap.size + 1]? = some (.cells ([.int .i64 x, .int .i64 y] : List Value).toArray 48 (0, 0)) by rw [hW8]; exact list_laid [.int .i64 x, .int .i64 y] R7.out rfl); have k8 : Kept (fun k => k = w6.heap.size + 1) W7 W8 := by { rw [hW8]; exact Kept.setCells _ _ _ (Kept.refl _ _) }; have L8 := Lib.hid ((k8.block _ (Array.getElem?_eq_some_iff.1 L7.out).1 (show ¬ w6.heap.size = w6.heap.size + 1 by omega)).trans L7.out); have B8 := Lib.hid (B7.out.trans (k8.below (n := w6.heap.size) (fun k (e : k = w6.heap.size + 1) => by omega) B7.out.size)); have A8 := Lib.hid (A6.out.low B8.out); have D8 := Lib.hid (D6.out.low B8.out); have tm := blk_thereN A8.out.m.blk 6 3 (by show 6 + 3 ≤ 15; decide); clear hW8 k8)
  | (refine wpList_load_mid rfl 35 (.tmp 15) rfl w6.heap.size 0 rfl (arL Y1 va us'.length vc) _ ?_ Tryz.underlying35 rfl arInfo ?_; exact blk_rng L8.out)
  | (refine wpList_store_to rfl 35 (.tmp 169) (.tmp 168) rfl (w.heap.size + 1) 6 (arL Y1 va us'.length vc) rfl rfl ?_ arInfo (arL_one ..) ?_; exact tm; intro W9 hW9; have A9 := Lib.hid (show SA w W9 X Y2 by rw [hW9, HY2.out]; exact A8.out.arena va us'.length vc); have k9 : Kept (fun k => k = w.heap.size + 1) W8 W9 := by { rw [hW9]; exact Kept.setCells _ _ _ (Kept.refl _ _) }; have D9 := Lib.hid (D8.out.keep k9 boxT.m); have R9 := Lib.hid ((k9.block _ (Array.getElem?_eq_some_iff.1 R8.out).1 (show ¬ w6.heap.size + 1 = w.heap.size + 1 by have := A6.out.sz; omega)).trans R8.out); clear hW9 k9))
 clear tA tR tm
 by_cases he : e0 = 0
 ·subst he
  have HS2 := Lib.hid (show D.step Y.l X.d ds hd ps L = ({ D with rfs := D.rfs ++ [(x, y)] }, us'.map PuD.pt, L) by rw [HS1.out, if_pos rfl])
  go_upto_region 30 with (fail)
  try simp only [Act.put]
  go_cut [] from 176 to 183 (fun wx => ∃ (a7 : Option Addr) (q7 : Nat), SA w wx { X with ra := a7, rn := D.rfs.length + 1, rc := q7 } Y2 ∧ DocS w0 wx (boxT T w.heap.size) { X with ra := a7, rn := D.rfs.length + 1, rc := q7 } Y2 { D with rfs := D.rfs ++ [(x, y)] } (us'.map PuD.pt) L us' ups)
  case first =>
   have y2 := A9.out.i.cRfs
   rw [RN.out] at y2
   have BD := Lib.hid (Below.refl W9.heap.size W9).drew
   have HS := Lib.hid (show ∀ w', Below W9.heap.size W9 w' → (fun w' => w'.cell? ⟨w.heap.size, 27, none⟩ = some (.slice X.ra D.rfs.length X.rc) ∧ w'.rangeAt (w6.heap.size + 1) 0 [.int .i64 x, .int .i64 y]) w' from fun w' h => ⟨cell_step y2 h, rng_step (blk_rng R9.out) h⟩)
   have VR := Lib.hid (show SV lRef W9 (.slice X.ra D.rfs.length X.rc) D.rfs by have h := D9.out.rf; rw [RN.out] at h; exact h)
   have LN := Lib.hid HL.out.1
   clear y2
   refine AnyBut.region (fun w' => w'.cell? ⟨w.heap.size, 27, none⟩ = some (.slice X.ra D.rfs.length X.rc) ∧ w'.rangeAt (w6.heap.size + 1) 0 [.int .i64 x, .int .i64 y]) 8 (by kernel_rfl) ?_
   generalize W9.drew = wd at *
   refine tkB (i := 1) (oi := ⟨some 177, _, _, _, _, _⟩) (v := ?vb1) rfl (Or.inl ⟨by rfl, ?hyb1⟩) (HS.out _ BD.out) ?restb1
   case hyb1 => (intro w hSw; have q0 := hSw.1; go_simp; try (with_reducible rfl))
   simp only [Act.put, sT, sZ, sS]
   refine tkB (i := 2) (oi := ⟨some 178, _, _, _, _, _⟩) (v := ?vb2) rfl (Or.inl ⟨by rfl, ?hyb2⟩) (HS.out _ BD.out) ?restb2
   case hyb2 => (intro w hSw; have q0 := hSw.1; go_simp; try (with_reducible rfl))
   simp only [Act.put, sT, sZ, sS]
   refine tkB (i := 4) (oi := ⟨some 180, _, _, _, _, _⟩) (v := .agg #[.int .i64 x, .int .i64 y]) rfl (yieldsIf_load_mid (by rfl) 48 (.tmp 16) rfl (w6.heap.size + 1) 0 rfl [.int .i64 x, .int .i64 y] _ (fun w h => h.2) Tryz.underlying48 rfl refInfoS) (HS.out _ BD.out) ?restb4
   simp only [Act.put, sT, sZ, sS]
   refine AnyBut.two (i := 0) (j := 5) (o := ⟨some 176, _, _, _, _, _⟩) (u := ⟨some 181, _, _, _, _, _⟩) (by kernel_rfl) rfl rfl (fun K hK => ?_) (fun K hK => ?_)
   ·rw [if_pos (by rfl)]
    go_simp
    have z0 := Lib.hid (alloc_below0 wd (.cells #[] 48))
    have C0 := Lib.hid (BD.out.trans (z0.out.mono BD.out.size))
    have O0 := Lib.hid (show OwnS lRef W9.heap.size (wd.alloc (.cells #[] 48)) (.slice (some ⟨wd.heap.size, 0, none⟩) 0 0) [] from OwnS.lit lRef W9.heap.size wd wd.heap.size rfl [] BD.out.size (by simp))
    have s0 := Lib.hid (show (wd.alloc (.cells #[] 48)).heap.size = wd.heap.size + 1 by simp)
    refine hK.out _ _ (fun _ => HS.out _ C0.out) ?_
    clear hK K
    try simp only [Act.put, sT, sZ, sS]
    generalize hg0 : wd.alloc (.cells #[] 48) = wa at *
    clear hg0 z0
    refine AnyBut.two (i := 3) (j := 5) (o := ⟨some 179, _, _, _, _, _⟩) (u := ⟨some 181, _, _, _, _, _⟩) (by kernel_rfl) rfl rfl (fun K hK => ?_) (fun K hK => ?_)
    ·refine step_appS lRef 66 Tryz.underlying66 lRef_known (by decide) (by decide) rfl (.tmp 176) (.tmp 178) rfl W9.heap.size rfl rfl O0.out (VR.out.below C0.out) (by have := LN.out; simp; omega) C0.out.size ?_
     intro v5 w5 ho hg
     have C3 := Lib.hid (C0.out.trans ((Kept.of_grown hg).below (n := W9.heap.size) (fun j hj => (O0.out.bounds j hj.symm).1) C0.out.size))
     have s3 := Lib.hid (show wa.heap.size ≤ w5.heap.size from hg.size)
     rw [List.nil_append] at ho
     have O1 := Lib.hid ho
     clear ho hg
     refine hK.out _ _ (fun _ => HS.out _ C3.out) ?_
     clear hK K
     try simp only [Act.put, sT, sZ, sS]
     refine AnyBut.one (i := 5) (o := ⟨some 181, _, _, _, _, _⟩) (by kernel_rfl) rfl (fun K hK => ?_)
     rw [if_pos (by rfl)]
     go_simp
     have z5 := Lib.hid (alloc_below0 w5 (.cells #[.int .i64 x, .int .i64 y] 48))
     have C5 := Lib.hid (C3.out.trans (z5.out.mono C3.out.size))
     have V1 := Lib.hid (show SV lRef (w5.alloc (.cells #[.int .i64 x, .int .i64 y] 48)) (.slice (some ⟨w5.heap.size, 0, none⟩) 1 1) [(x, y)] from (OwnS.lit lRef W9.heap.size w5 w5.heap.size rfl [(x, y)] C3.out.size (by simp [maxLen])).sv)
     have s5 := Lib.hid (show (w5.alloc (.cells #[.int .i64 x, .int .i64 y] 48)).heap.size = w5.heap.size + 1 by simp)
     have O2 := Lib.hid (O1.out.below z5.out)
     refine hK.out _ _ (fun _ => HS.out _ C5.out) ?_
     clear hK K
     try simp only [Act.put, sT, sZ, sS]
     generalize hg5 : w5.alloc (.cells #[.int .i64 x, .int .i64 y] 48) = wb at *
     clear hg5 z5
     refine AnyBut.one (i := 6) (o := ⟨some 182, _, _, _, _, _⟩) (by kernel_rfl) rfl (fun K hK => ?_)
     refine step_appS lRef 66 Tryz.underlying66 lRef_known (by decide) (by decide) rfl (.tmp 179) (.tmp 181) rfl W9.heap.size rfl rfl O2.out V1.out (by have := LN.out; simp; omega) C5.out.size ?_
     intro v7 w7 ho hg
     have B7 := Lib.hid (C5.out.trans ((Kept.of_grown hg).below (n := W9.heap.size) (fun j hj => (O2.out.bounds j hj.symm).1) C5.out.size))
     obtain ⟨a7, q7, rfl, -, -⟩ := ho.lenN (n := D.rfs.length + 1) (by rw [List.length_append]; rfl)
     have O7 := Lib.hid ho
     clear ho hg
     refine hK.out _ _ (fun _ => HS.out _ B7.out) ?_
     clear hK K
     try simp only [Act.put, sT, sZ, sS]
     refine AnyBut.one (i := 7) (o := ⟨some 183, _, _, _, _, _⟩) (by kernel_rfl) rfl (fun K hK => ?_)
     go_simp
     refine hK.out _ _ (fun _ => HS.out _ B7.out) ?_
     clear hK K
     try simp only [Act.put, sT, sZ, sS]
     have AF := Lib.hid (A9.out.low B7.out)
     have DF := Lib.hid (D9.out.low B7.out)
     have f8 := AF.out.i.free 27
     have f9 := AF.out.i.cRfs
     refine AnyBut.one (i := 8) (o := ⟨none, _, _, _, _, _⟩) (by kernel_rfl) rfl (fun K hK => ?_)
     go_simp
     refine hK.out _ _ (fun h => absurd rfl h) ?_
     clear hK K f8 f9
     try simp only [Act.put]
     refine AnyBut.done (by kernel_rfl) ?_ _
     go_wp2
     go_meet
     case rel => exact ⟨a7, q7, AF.out.rfs a7 (D.rfs.length + 1) q7, (DF.out.keep ((Kept.refl _ _).setCell _ _) boxT.i).newR (m := W9.heap.size) (O7.out.setOther (fun k hk e => by have h1 := (O7.out.bounds k hk).1; have h2 := A9.out.sz; omega)) (fun k hk => D9.out.hi k hk)⟩
    ·rw [if_pos (by rfl)]
     go_simp
     have z5 := Lib.hid (alloc_below0 wa (.cells #[.int .i64 x, .int .i64 y] 48))
     have C5 := Lib.hid (C0.out.trans (z5.out.mono C0.out.size))
     have V1 := Lib.hid (show SV lRef (wa.alloc (.cells #[.int .i64 x, .int .i64 y] 48)) (.slice (some ⟨wa.heap.size, 0, none⟩) 1 1) [(x, y)] from (OwnS.lit lRef W9.heap.size wa wa.heap.size rfl [(x, y)] C0.out.size (by simp [maxLen])).sv)
     have s5 := Lib.hid (show (wa.alloc (.cells #[.int .i64 x, .int .i64 y] 48)).heap.size = wa.heap.size + 1 by simp)
     have O3 := Lib.hid (O0.out.below z5.out)
     refine hK.out _ _ (fun _ => HS.out _ C5.out) ?_
     clear hK K
     try simp only [Act.put, sT, sZ, sS]
     generalize hg5 : wa.alloc (.cells #[.int .i64 x, .int .i64 y] 48) = wb at *
     clear hg5 z5
     refine AnyBut.one (i := 3) (o := ⟨some 179, _, _, _, _, _⟩) (by kernel_rfl) rfl (fun K hK => ?_)
     refine step_appS lRef 66 Tryz.underlying66 lRef_known (by decide) (by decide) rfl (.tmp 176) (.tmp 178) rfl W9.heap.size rfl rfl O3.out (VR.out.below C5.out) (by have := LN.out; simp; omega) C5.out.size ?_
     intro v5 w5 ho hg
     have C3 := Lib.hid (C5.out.trans ((Kept.of_grown hg).below (n := W9.heap.size) (fun j hj => (O3.out.bounds j hj.symm).1) C5.out.size))
     have V2 := Lib.hid (V1.out.kept (Kept.of_grown hg) (out_ne (by (have h1 := s0.out; omega))))
     rw [List.nil_append] at ho
     have O1 := Lib.hid ho
     clear ho hg
     refine hK.out _ _ (fun _ => HS.out _ C3.out) ?_
     clear hK K
     try simp only [Act.put, sT, sZ, sS]
     refine AnyBut.one (i := 6) (o := ⟨some 182, _, _, _, _, _⟩) (by kernel_rfl) rfl (fun K hK => ?_)
     refine step_appS lRef 66 Tryz.underlying66 lRef_known (by decide) (by decide) rfl (.tmp 179) (.tmp 181) rfl W9.heap.size rfl rfl O1.out V2.out (by have := LN.out; simp; omega) C3.out.size ?_
     intro v7 w7 ho hg
     have B7 := Lib.hid (C3.out.trans ((Kept.of_grown hg).below (n := W9.heap.size) (fun j hj => (O1.out.bounds j hj.symm).1) C3.out.size))
     obtain ⟨a7, q7, rfl, -, -⟩ := ho.lenN (n := D.rfs.length + 1) (by rw [List.length_append]; rfl)
     have O7 := Lib.hid ho
     clear ho hg
     refine hK.out _ _ (fun _ => HS.out _ B7.out) ?_
     clear hK K
     try simp only [Act.put, sT, sZ, sS]
     refine AnyBut.one (i := 7) (o := ⟨some 183, _, _, _, _, _⟩) (by kernel_rfl) rfl (fun K hK => ?_)
     go_simp
     refine hK.out _ _ (fun _ => HS.out _ B7.out) ?_
     clear hK K
     try simp only [Act.put, sT, sZ, sS]
     have AF := Lib.hid (A9.out.low B7.out)
     have DF := Lib.hid (D9.out.low B7.out)
     have f8 := AF.out.i.free 27
     have f9 := AF.out.i.cRfs
     refine AnyBut.one (i := 8) (o := ⟨none, _, _, _, _, _⟩) (by kernel_rfl) rfl (fun K hK => ?_)
     go_simp
     refine hK.out _ _ (fun h => absurd rfl h) ?_
     clear hK K f8 f9
     try simp only [Act.put]
     refine AnyBut.done (by kernel_rfl) ?_ _
     go_wp2
     go_meet
     case rel => exact ⟨a7, q7, AF.out.rfs a7 (D.rfs.length + 1) q7, (DF.out.keep ((Kept.refl _ _).setCell _ _) boxT.i).newR (m := W9.heap.size) (O7.out.setOther (fun k hk e => by have h1 := (O7.out.bounds k hk).1; have h2 := A9.out.sz; omega)) (fun k hk => D9.out.hi k hk)⟩
   ·rw [if_pos (by rfl)]
    go_simp
    have z5 := Lib.hid (alloc_below0 wd (.cells #[.int .i64 x, .int .i64 y] 48))
    have C5 := Lib.hid (BD.out.trans (z5.out.mono BD.out.size))
    have V1 := Lib.hid (show SV lRef (wd.alloc (.cells #[.int .i64 x, .int .i64 y] 48)) (.slice (some ⟨wd.heap.size, 0, none⟩) 1 1) [(x, y)] from (OwnS.lit lRef W9.heap.size wd wd.heap.size rfl [(x, y)] BD.out.size (by simp [maxLen])).sv)
    have s5 := Lib.hid (show (wd.alloc (.cells #[.int .i64 x, .int .i64 y] 48)).heap.size = wd.heap.size + 1 by simp)
    refine hK.out _ _ (fun _ => HS.out _ C5.out) ?_
    clear hK K
    try simp only [Act.put, sT, sZ, sS]
    generalize hg5 : wd.alloc (.cells #[.int .i64 x, .int .i64 y] 48) = wa at *
    clear hg5 z5
    refine AnyBut.one (i := 0) (o := ⟨some 176, _, _, _, _, _⟩) (by kernel_rfl) rfl (fun K hK => ?_)
    rw [if_pos (by rfl)]
    go_simp
    have z0 := Lib.hid (alloc_below0 wa (.cells #[] 48))
    have C0 := Lib.hid (C5.out.trans (z0.out.mono C5.out.size))
    have O0 := Lib.hid (show OwnS lRef W9.heap.size (wa.alloc (.cells #[] 48)) (.slice (some ⟨wa.heap.size, 0, none⟩) 0 0) [] from OwnS.lit lRef W9.heap.size wa wa.heap.size rfl [] C5.out.size (by simp))
    have s0 := Lib.hid (show (wa.alloc (.cells #[] 48)).heap.size = wa.heap.size + 1 by simp)
    have V1 := Lib.hid (V1.out.below z0.out)
    refine hK.out _ _ (fun _ => HS.out _ C0.out) ?_
    clear hK K
    try simp only [Act.put, sT, sZ, sS]
    generalize hg0 : wa.alloc (.cells #[] 48) = wb at *
    clear hg0 z0
    refine AnyBut.one (i := 3) (o := ⟨some 179, _, _, _, _, _⟩) (by kernel_rfl) rfl (fun K hK => ?_)
    refine step_appS lRef 66 Tryz.underlying66 lRef_known (by decide) (by decide) rfl (.tmp 176) (.tmp 178) rfl W9.heap.size rfl rfl O0.out (VR.out.below C0.out) (by have := LN.out; simp; omega) C0.out.size ?_
    intro v5 w5 ho hg
    have C3 := Lib.hid (C0.out.trans ((Kept.of_grown hg).below (n := W9.heap.size) (fun j hj => (O0.out.bounds j hj.symm).1) C0.out.size))
    have V2 := Lib.hid (V1.out.kept (Kept.of_grown hg) (out_ne (by (have h1 := s5.out; omega))))
    rw [List.nil_append] at ho
    have O1 := Lib.hid ho
    clear ho hg
    refine hK.out _ _ (fun _ => HS.out _ C3.out) ?_
    clear hK K
    try simp only [Act.put, sT, sZ, sS]
    refine AnyBut.one (i := 6) (o := ⟨some 182, _, _, _, _, _⟩) (by kernel_rfl) rfl (fun K hK => ?_)
    refine step_appS lRef 66 Tryz.underlying66 lRef_known (by decide) (by decide) rfl (.tmp 179) (.tmp 181) rfl W9.heap.size rfl rfl O1.out V2.out (by have := LN.out; simp; omega) C3.out.size ?_
    intro v7 w7 ho hg
    have B7 := Lib.hid (C3.out.trans ((Kept.of_grown hg).below (n := W9.heap.size) (fun j hj => (O1.out.bounds j hj.symm).1) C3.out.size))
    obtain ⟨a7, q7, rfl, -, -⟩ := ho.lenN (n := D.rfs.length + 1) (by rw [List.length_append]; rfl)
    have O7 := Lib.hid ho
    clear ho hg
    refine hK.out _ _ (fun _ => HS.out _ B7.out) ?_
    clear hK K
    try simp only [Act.put, sT, sZ, sS]
    refine AnyBut.one (i := 7) (o := ⟨some 183, _, _, _, _, _⟩) (by kernel_rfl) rfl (fun K hK => ?_)
    go_simp
    refine hK.out _ _ (fun _ => HS.out _ B7.out) ?_
    clear hK K
    try simp only [Act.put, sT, sZ, sS]
    have AF := Lib.hid (A9.out.low B7.out)
    have DF := Lib.hid (D9.out.low B7.out)
    have f8 := AF.out.i.free 27
    have f9 := AF.out.i.cRfs
    refine AnyBut.one (i := 8) (o := ⟨none, _, _, _, _, _⟩) (by kernel_rfl) rfl (fun K hK => ?_)
    go_simp
    refine hK.out _ _ (fun h => absurd rfl h) ?_
    clear hK K f8 f9
    try simp only [Act.put]
    refine AnyBut.done (by kernel_rfl) ?_ _
    go_wp2
    go_meet
    case rel => exact ⟨a7, q7, AF.out.rfs a7 (D.rfs.length + 1) q7, (DF.out.keep ((Kept.refl _ _).setCell _ _) boxT.i).newR (m := W9.heap.size) (O7.out.setOther (fun k hk e => by have h1 := (O7.out.bounds k hk).1; have h2 := A9.out.sz; omega)) (fun k hk => D9.out.hi k hk)⟩
  case rest =>
   obtain ⟨a7, q7, hA, hDD⟩ := hcut
   obtain ⟨WB, hwq⟩ : ∃ x, x = wc := ⟨_, rfl⟩
   subst hwq
   obtain ⟨X5, hX5⟩ : ∃ x, x = { X with ra := a7, rn := D.rfs.length + 1, rc := q7 } := ⟨_, rfl⟩
   rw [← hX5] at hA hDD
   have AX := Lib.hid hA
   have DX5 := Lib.hid hDD
   have X5D := Lib.hid (show X5.d = X.d by rw [hX5])
   clear hX5 hA hDD
   go_upto_region 31 with (fail)
   have A8 := Lib.hid (AX.out.low (Below.refl WB.heap.size WB).drew)
   have D8 := Lib.hid (DX5.out.low (Below.refl WB.heap.size WB).drew)
   refine anyH_region (fun w' => DXAt w' w.heap.size X5 ∧ MXAt w' (w.heap.size + 1) Y2) (by kernel_rfl) ?_
   generalize WB.drew = wd at *
   refine tkH (i := 0) (oi := ⟨some 184, _, _, _, _, _⟩) (v := .agg X5.list.toArray) rfl (yieldsIf_load_mid (by rfl) 68 (.tmp 2) rfl w.heap.size 0 rfl X5.list _ (fun w h => h.1.rng) Tryz.underlying68 rfl X5.info) ⟨A8.out.i, A8.out.m⟩ ?reste0
   simp only [Act.put, sT, sZ, sS]
   refine tkH (i := 1) (oi := ⟨some 185, _, _, _, _, _⟩) (v := .agg Y2.list.toArray) rfl (yieldsIf_load_mid (by rfl) 43 (.tmp 3) rfl (w.heap.size + 1) 0 rfl Y2.list _ (fun w h => h.2.rng) Tryz.underlying43 rfl Y2.info) ⟨A8.out.i, A8.out.m⟩ ?reste1
   simp only [Act.put, sT, sZ, sS]
   refine anyH_one (i := 2) (o := ⟨none, _, _, _, _, _⟩) (by kernel_rfl) rfl (fun K hK => ?_)
   rw [if_pos (by rfl)]
   refine wp_store_to 68 (.tmp 4) (.tmp 184) rfl (w.heap.size + 2) 0 X5.list rfl rfl ?_ X5.info X5.one ?_
   ·exact A8.out.ri.there
   intro W8 hW8
   have Q8 := Lib.hid (show SQ w W8 X5 Y2 by rw [hW8]; exact A8.out.ri')
   have D9 := Lib.hid (show DocS _ W8 _ _ _ _ _ _ _ _ by rw [hW8]; exact D8.out.keep (Kept.setCells _ _ _ (Kept.refl _ _)) boxT.ri)
   clear hW8
   refine hK.out _ _ ⟨Q8.out.i, Q8.out.m⟩ ?_
   clear hK K
   try simp only [Act.put]
   refine anyH_one (i := 3) (o := ⟨none, _, _, _, _, _⟩) (by kernel_rfl) rfl (fun K hK => ?_)
   rw [if_pos (by rfl)]
   refine wp_store_to 43 (.tmp 5) (.tmp 185) rfl (w.heap.size + 3) 0 Y2.list rfl rfl ?_ Y2.info Y2.one ?_
   ·exact Q8.out.rm.there
   intro W9 hW9
   have Q9 := Lib.hid (show SR w W9 X5 Y2 ∧ DXAt W9 w.heap.size X5 ∧ MXAt W9 (w.heap.size + 1) Y2 by rw [hW9]; exact Q8.out.rm')
   have DE := Lib.hid (show DocS _ W9 _ _ _ _ _ _ _ _ by rw [hW9]; exact D9.out.keep (Kept.setCells _ _ _ (Kept.refl _ _)) boxT.rm)
   clear hW9
   refine hK.out _ _ Q9.out.2 ?_
   clear hK K
   try simp only [Act.put]
   refine wpAnyH_done (by kernel_rfl) ?_ _
   go_wp2
   refine bodyPost_ret (v := .tuple #[X5.val, Y2.val]) (results_cell2 rfl _ _ (w.heap.size + 2) (w.heap.size + 3) X5.list Y2.list _ _ rfl rfl Q9.out.1.ri.rng Q9.out.1.rm.rng Tryz.underlying68 rfl X5.info Tryz.underlying43 rfl Y2.info) rfl ?_
   exact StepR.mk' HS2.out X5 Y2 us' ups rfl X5D.out Y2L.out (by rw [HO.out, if_neg (by decide)]; exact Y2C.out) DE.out.unbox LE.out (Nat.le_succ _) Q9.out.1.below
 ·have HS2 := Lib.hid (show D.step Y.l X.d ds hd ps L = (D.backE e0, us'.map PuD.pt, L) by rw [HS1.out, if_neg he])
  have b0 : (e0 == 0) = false := by simp [he]
  have b1 : (e0 != 0) = true := by simp [he]
  go_upto_region 29 with (fail)
  have A8 := Lib.hid (A9.out.low (Below.refl W9.heap.size W9).drew)
  have D8 := Lib.hid (D9.out.low (Below.refl W9.heap.size W9).drew)
  refine anyH_region (fun w' => DXAt w' w.heap.size X ∧ MXAt w' (w.heap.size + 1) Y2) (by kernel_rfl) ?_
  generalize W9.drew = wd at *
  refine tkH (i := 0) (oi := ⟨some 172, _, _, _, _, _⟩) (v := .agg X.list.toArray) rfl (yieldsIf_load_mid (by rfl) 68 (.tmp 2) rfl w.heap.size 0 rfl X.list _ (fun w h => h.1.rng) Tryz.underlying68 rfl X.info) ⟨A8.out.i, A8.out.m⟩ ?restk0
  simp only [Act.put, sT, sZ, sS]
  refine tkH (i := 1) (oi := ⟨some 173, _, _, _, _, _⟩) (v := ?vk1) rfl (Or.inl ⟨by rfl, ?hyk1⟩) ⟨A8.out.i, A8.out.m⟩ ?restk1
  case hyk1 => (intro w hSw; go_simp; try (with_reducible rfl))
  simp only [Act.put, sT, sZ, sS]
  refine tkH (i := 3) (oi := ⟨some 175, _, _, _, _, _⟩) (v := .agg Y2.list.toArray) rfl (yieldsIf_load_mid (by rfl) 43 (.tmp 3) rfl (w.heap.size + 1) 0 rfl Y2.list _ (fun w h => h.2.rng) Tryz.underlying43 rfl Y2.info) ⟨A8.out.i, A8.out.m⟩ ?restk3
  simp only [Act.put, sT, sZ, sS]
  refine anyH_one (i := 2) (o := ⟨some 174, _, _, _, _, _⟩) (by kernel_rfl) rfl (fun K hK => ?_)
  rw [if_pos (by rfl)]
  go_simp
  refine (iBack_any X e0 _ HBL.out).mono ?_
  rintro e5 w5 ⟨rfl, hs⟩
  have A5 := Lib.hid (A8.out.low hs)
  have D5 := Lib.hid (D8.out.low hs)
  clear hs
  refine hK.out _ _ ⟨A5.out.i, A5.out.m⟩ ?_
  clear hK K
  try simp only [Act.put, sT, sZ, sS]
  refine anyH_one (i := 4) (o := ⟨none, _, _, _, _, _⟩) (by kernel_rfl) rfl (fun K hK => ?_)
  rw [if_pos (by rfl)]
  refine wp_store_to 68 (.tmp 4) (.tmp 174) rfl (w.heap.size + 2) 0 (X.backE e0).list rfl rfl ?_ (X.backE e0).info (X.backE e0).one ?_
  ·exact A5.out.ri.there
  intro W8 hW8
  have Q8 := Lib.hid (show SQ2 w W8 X (X.backE e0) Y2 by rw [hW8]; exact A5.out.ri2)
  have D9 := Lib.hid (show DocS _ W8 _ _ _ _ _ _ _ _ by rw [hW8]; exact D5.out.keep (Kept.setCells _ _ _ (Kept.refl _ _)) boxT.ri)
  clear hW8
  refine hK.out _ _ ⟨Q8.out.i, Q8.out.m⟩ ?_
  clear hK K
  try simp only [Act.put]
  refine anyH_one (i := 5) (o := ⟨none, _, _, _, _, _⟩) (by kernel_rfl) rfl (fun K hK => ?_)
  rw [if_pos (by rfl)]
  refine wp_store_to 43 (.tmp 5) (.tmp 175) rfl (w.heap.size + 3) 0 Y2.list rfl rfl ?_ Y2.info Y2.one ?_
  ·exact Q8.out.rm.there
  intro W9 hW9
  have Q9 := Lib.hid (show SR w W9 (X.backE e0) Y2 ∧ DXAt W9 w.heap.size X ∧ MXAt W9 (w.heap.size + 1) Y2 by rw [hW9]; exact Q8.out.rm')
  have DE := Lib.hid (show DocS _ W9 _ _ _ _ _ _ _ _ by rw [hW9]; exact (D9.out.keep (Kept.setCells _ _ _ (Kept.refl _ _)) boxT.rm).backE e0)
  clear hW9
  refine hK.out _ _ Q9.out.2 ?_
  clear hK K
  try simp only [Act.put]
  refine wpAnyH_done (by kernel_rfl) ?_ _
  go_wp2
  refine bodyPost_ret (v := .tuple #[(X.backE e0).val, Y2.val]) (results_cell2 rfl _ _ (w.heap.size + 2) (w.heap.size + 3) (X.backE e0).list Y2.list _ _ rfl rfl Q9.out.1.ri.rng Q9.out.1.rm.rng Tryz.underlying68 rfl (X.backE e0).info Tryz.underlying43 rfl Y2.info) rfl ?_
  exact StepR.mk' HS2.out (X.backE e0) Y2 us' ups rfl rfl Y2L.out (by rw [HO.out, if_neg (by decide)]; exact Y2C.out) DE.out.unbox LE.out (Nat.le_succ _) Q9.out.1.below
end Go.Proofs.YtejmdmaebkdjoaaGreatDoor
