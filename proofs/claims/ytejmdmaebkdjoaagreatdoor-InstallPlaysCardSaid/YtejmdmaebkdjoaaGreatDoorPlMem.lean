/- A memory's Live, Pages and Count, by contracts (the door). -/
import Derived.Test.YtejmdmaebkdjoaaGreatDoorPlStB
import Derived.Test.YtejmdmaebkdjoaaGreatDoorPlSt4
import Derived.Test.YtejmdmaebkdjoaaGreatDoorNsAwake
import Derived.Test.YtejmdmaebkdjoaaGreatDoorPlChP
import Derived.Test.YtejmdmaebkdjoaaGreatDoorArLive
namespace Go.Proofs.YtejmdmaebkdjoaaGreatDoor
set_option linter.unusedVariables false
set_option linter.unusedSimpArgs false
set_option maxRecDepth 100000
set_option maxHeartbeats 4000000
open Go.RowKit
theorem iStep12_putH {w0 w : World} {T : Nat → Prop} {X : DX} {Y : MX} {D : DI} {ps : List Pt} {L : List Pg} {us : List PuD} {ups : List Up} (ds : List RecD) (hd : RecD) (hD : DocS w0 w T X Y D ps L us ups) {bs : List RcL} (hJ : JobR w0 X.d bs ds hd) (ho : D.over = false) (hb : D.back = false) (hp : ¬ (D.pgs.length : Int) < X.d.news) (hc : X.d.news = (D.rfs.length : Int)) (hk : D.links = (D.rfs.length : Int)) (hl : D.rfs.length ≤ 900 ∧ D.pgs.length ≤ 900) (hu : us.length ≤ 900) (hlm : Y.l.s ≤ 4096 ∧ Y.l.c ≤ 1099511627776) :
  Calls Tryz.prog 12 #[X.val, Y.val] w (StepR w0 w T ds hd X Y D ps L us ups) := by
 have HST := Lib.hid (show D.step Y.l X.d ds hd ps L = (if (allocM Y.l.s Y.l.c ps).2.2 = 0 then { D with rfs := D.rfs ++ [(((allocM Y.l.s Y.l.c ps).1 : Int), ((allocM Y.l.s Y.l.c ps).2.1 : Int))] } else D.backE (allocM Y.l.s Y.l.c ps).2.2, putM Y.l.s Y.l.c ps (D.recd X.d ds hd), L) by unfold DI.step; rw [if_neg (by rw [ho]; decide), if_neg (by rw [hb]; decide), if_neg hp, if_pos (by omega)])
 have HO := Lib.hid ho
 have HB := Lib.hid hb
 have HP := Lib.hid hp
 have HL := Lib.hid hl
 have HU := Lib.hid hu
 have HC := Lib.hid hc
 have HJ := Lib.hid hJ
 have HLM := Lib.hid hlm
 have HK := Lib.hid hk
 have HBL := Lib.hid (show X.rn ≤ 1000 ∧ X.pn ≤ 1000 by rw [hD.pn, hD.rn]; omega)
 have RD := Lib.hid (show D.recd X.d ds hd = mkHd hd X.d.fresh D.pgs by unfold DI.recd; rw [if_neg (by omega)])
 clear ho hb hp hl hu hc hJ hlm hk
 obtain ⟨W0, hW0⟩ : ∃ W, W = ((((w.alloc (.cells X.list.toArray 68)).alloc (.cells Y.list.toArray 43)).alloc (.cells DX.zero.list.toArray 68)).alloc (.cells MX.zero.list.toArray 43)) := ⟨_, rfl⟩
 have A0 := Lib.hid (show SA w W0 X Y by rw [hW0]; exact SA.start w X Y)
 have D0 := Lib.hid (hD.boxes A0.out.below A0.out.sz)
 have XO := Lib.hid hD.over
 have XB := Lib.hid hD.back
 have XL := Lib.hid hD.links
 have PN := Lib.hid hD.pn
 have RN := Lib.hid hD.rn
 have TLT := Lib.hid hD.hi
 have hzl : DX.zero.list.toArray = #[.int .i64 0, .int .i64 0, .int .i64 0, .int .i64 0, .slice none 0 0, .int .i64 0, .string ⟨#[]⟩, .string ⟨#[]⟩, .bool false, .int .i64 0, .slice none 0 0, .slice none 0 0, .string ⟨#[]⟩, .string ⟨#[]⟩, .int .i64 0, .int .i64 0, .int .i64 0, .string ⟨#[]⟩, .int .i64 0, .int .i64 0, .int .i64 0, .bool false, .bool false, .bool false, .bool false, .int .i64 0, .slice none 0 0, .slice none 0 0, .int .i64 0] := rfl
 have hzm : MX.zero.list.toArray = #[.int .i64 0, .int .i64 0, .int .i64 0, .int .i64 0, .int .i64 0, .int .i64 0, .int .i64 0, .int .i64 0, .slice none 0 0, .int .i64 0, .slice none 0 0, .int .i64 0, .int .i64 0, .slice none 0 0, .int .i64 0] := rfl
 rw [hzl, hzm] at hW0
 clear hzl hzm hD
 unfold DX.val MX.val
 generalize hxl : X.list.toArray = xl at hW0 ⊢
 generalize hyl : Y.list.toArray = yl at hW0 ⊢
 clear hxl hyl
 go_enter Tryz.func12, Tryz.ntmps12
 go_upto_region 1 with (fail)
 rw [← hW0]
 clear hW0
 have y0 := A0.out.i.cOver
 rw [XO.out, HO.out] at y0
 obtain ⟨cnt, hcnt⟩ : ∃ x, x = IntKind.i64.wrap (Y.count + 1) := ⟨_, rfl⟩
 have ic : IntKind.i64.wrap (Y.count + 1) = cnt := hcnt.symm
 have CN := Lib.hid hcnt
 clear hcnt
 have y1 := A0.out.m.cCount
 have y2 := A0.out.m.free 14
 go_upto_region 4 with (fail)
 clear y0 y1 y2 ic
 have A1 := Lib.hid (A0.out.count cnt)
 have D1 := Lib.hid (show DocS _ (W0.setCell ⟨w.heap.size + 1, 14, none⟩ (.int .i64 cnt)) _ _ _ _ _ _ _ _ from (D0.out.keep ((Kept.refl _ _).setCell _ _) boxT.m).count cnt)
 generalize W0.setCell ⟨w.heap.size + 1, 14, none⟩ (.int .i64 cnt) = W1 at *
 obtain ⟨Y1, hY1⟩ : ∃ x, x = { Y with count := cnt } := ⟨_, rfl⟩
 rw [← hY1] at A1 D1
 have YL := Lib.hid (show Y1.l = Y.l by rw [hY1])
 have YC := Lib.hid (show Y1.count = IntKind.i64.wrap (Y.count + 1) by rw [hY1]; exact CN.out)
 clear hY1
 clear D0 A0
 have y0 := A1.out.i.cNews
 rw [HC.out] at y0
 go_upto_region 5 with (fail)
 clear y0
 have y0 := A1.out.i.cBack
 rw [XB.out, HB.out] at y0
 have y1 := A1.out.i.cPgs
 rw [PN.out] at y1
 have y2 := A1.out.i.cRfs
 rw [RN.out] at y2
 have ip : ¬ (D.pgs.length : Int) < (D.rfs.length : Int) := by rw [← HC.out]; exact HP.out
 have y3 := A1.out.i.cLinks
 rw [XL.out, HK.out] at y3
 have g0 := A1.out.i.rng
 go_upto_region 23 with (fail)
 go_wp2_with (refine wpList_load_mid rfl 68 (.tmp 2) rfl w.heap.size 0 rfl X.list _ ?_ Tryz.underlying68 rfl X.info ?_; exact g0)
 refine (iHead12_any X X.d.hd.sc X.d.hd.ra X.d.hd.rn X.d.hd.rc X.d.hd.ea X.d.hd.en X.d.hd.ec rfl D.pgs _ D1.out.pg HBL.out.2).mono ?_
 rintro e2 w2 ⟨rfl, hs⟩
 have A2 := Lib.hid (A1.out.low hs)
 have D2 := Lib.hid (D1.out.low hs)
 have B12 := Lib.hid hs
 clear hs y0 y1 y2 g0 y3
 obtain ⟨hc, hhc⟩ : ∃ x, x = mkSc X.d.hd.sc X.d.fresh D.pgs := ⟨_, rfl⟩
 rw [← hhc]
 have HHC := Lib.hid hhc
 clear hhc
 have T2 := Lib.hid (show (w2.alloc (.cells #[.int .i64 0, .string ⟨#[]⟩, .string ⟨#[]⟩, .bool false, .int .i64 0, .slice none 0 0, .slice none 0 0, .string ⟨#[]⟩, .string ⟨#[]⟩, .int .i64 0, .int .i64 0, .int .i64 0, .string ⟨#[]⟩, .int .i64 0, .int .i64 0] 55)).there w2.heap.size 0 15 from n_there_new w2 _ _)
 have L2 := Lib.hid (show ((w2.alloc (.cells #[.int .i64 0, .string ⟨#[]⟩, .string ⟨#[]⟩, .bool false, .int .i64 0, .slice none 0 0, .slice none 0 0, .string ⟨#[]⟩, .string ⟨#[]⟩, .int .i64 0, .int .i64 0, .int .i64 0, .string ⟨#[]⟩, .int .i64 0, .int .i64 0] 55)).setCells w2.heap.size 0 (recCells hc (.slice X.d.hd.ra X.d.hd.rn X.d.hd.rc) (.slice X.d.hd.ea X.d.hd.en X.d.hd.ec))).heap[w2.heap.size]? = some (recObj hc (.slice X.d.hd.ra X.d.hd.rn X.d.hd.rc) (.slice X.d.hd.ea X.d.hd.en X.d.hd.ec)) from list_laid (recCells hc (.slice X.d.hd.ra X.d.hd.rn X.d.hd.rc) (.slice X.d.hd.ea X.d.hd.en X.d.hd.ec)) (blk_new w2 _) rfl)
 have B2 := Lib.hid (show Below w2.heap.size w2 ((w2.alloc (.cells #[.int .i64 0, .string ⟨#[]⟩, .string ⟨#[]⟩, .bool false, .int .i64 0, .slice none 0 0, .slice none 0 0, .string ⟨#[]⟩, .string ⟨#[]⟩, .int .i64 0, .int .i64 0, .int .i64 0, .string ⟨#[]⟩, .int .i64 0, .int .i64 0] 55)).setCells w2.heap.size 0 (recCells hc (.slice X.d.hd.ra X.d.hd.rn X.d.hd.rc) (.slice X.d.hd.ea X.d.hd.en X.d.hd.ec))) from below_setCells (Nat.le_refl w2.heap.size) (recCells hc (.slice X.d.hd.ra X.d.hd.rn X.d.hd.rc) (.slice X.d.hd.ea X.d.hd.en X.d.hd.ec)) 0 _ (alloc_below0 w2 _))
 go_upto_region 24 with (refine wpList_store_to rfl 55 (.tmp 14) (.tmp 149) rfl w2.heap.size 0 (recCells hc (.slice X.d.hd.ra X.d.hd.rn X.d.hd.rc) (.slice X.d.hd.ea X.d.hd.en X.d.hd.ec)) rfl rfl ?_ recInfoS (rec_one ..) ?_; exact T2.out; intro W3 hW3; have L3 := Lib.hid (show W3.heap[w2.heap.size]? = some (recObj hc (.slice X.d.hd.ra X.d.hd.rn X.d.hd.rc) (.slice X.d.hd.ea X.d.hd.en X.d.hd.ec)) by rw [hW3]; exact L2.out); have B3 := Lib.hid (show Below w2.heap.size w2 W3 by rw [hW3]; exact B2.out); have A3 := Lib.hid (A2.out.low B3.out); have D3 := Lib.hid (D2.out.low B3.out); clear hW3)
 clear T2 L2 B2 A2 D2
 have y2 := A3.out.i.cRfs
 rw [RN.out] at y2
 have RV := Lib.hid (show RecV w0 (recVal hc (.slice X.d.hd.ra X.d.hd.rn X.d.hd.rc) (.slice X.d.hd.ea X.d.hd.en X.d.hd.ec)) (D.recd X.d ds hd) by rw [RD.out, HHC.out]; exact head_reads HJ.out D.pgs)
 go_upto_region 26 with (fail)
 clear y2
 have g1 := A3.out.m.arena
 obtain ⟨rcd, hrc⟩ : ∃ x, x = D.recd X.d ds hd := ⟨_, rfl⟩
 rw [← hrc] at RV HST
 clear hrc
 go_wp2_with (first
  | (refine wpList_load_mid rfl 35 (.tmp 161) rfl (w.heap.size + 1) 6 rfl (arL Y1 Y1.qa Y1.qn Y1.qc) _ ?_ Tryz.underlying35 rfl arInfo ?_; exact g1)
  | (refine wpList_load_mid rfl 55 (.tmp 14) rfl w2.heap.size 0 rfl (recCells hc (.slice X.d.hd.ra X.d.hd.rn X.d.hd.rc) (.slice X.d.hd.ea X.d.hd.en X.d.hd.ec)) _ ?_ Tryz.underlying55 rfl recInfoS ?_; exact rec_range L3.out))
 refine (rf_alloc Y1.l.s Y1.l.c (.slice Y1.qa Y1.qn Y1.qc) (recVal hc (.slice X.d.hd.ra X.d.hd.rn X.d.hd.rc) (.slice X.d.hd.ea X.d.hd.en X.d.hd.ec)) us rcd _ D3.out.puts (RV.out.below D3.out.bl) (by have := HU.out; omega) (by rw [YL.out]; exact HLM.out.1) (by rw [YL.out]; exact HLM.out.2)).mono ?_
 rintro e6 w6 ⟨v', us', rfl, hp, hm, hlen, ⟨hn, hh⟩, hs⟩
 obtain ⟨va, vc, rfl, -, -⟩ := hp.1.lenform
 have A6 := Lib.hid (A3.out.low hs)
 have D6 := Lib.hid ((D3.out.low hs).arenaP hn (fun k hk => D3.out.hi k hk) (alloc_read D3.out.rc RV.out hh))
 have LE := Lib.hid hlen
 obtain ⟨x, hx⟩ : ∃ x, x = ((allocM Y1.l.s Y1.l.c (us.map PuD.pt)).1 : Int) := ⟨_, rfl⟩
 obtain ⟨y, hy⟩ : ∃ x, x = ((allocM Y1.l.s Y1.l.c (us.map PuD.pt)).2.1 : Int) := ⟨_, rfl⟩
 obtain ⟨e0, he0⟩ : ∃ x, x = (allocM Y1.l.s Y1.l.c (us.map PuD.pt)).2.2 := ⟨_, rfl⟩
 have HS1 := Lib.hid (show D.step Y.l X.d ds hd ps L = (if e0 = 0 then { D with rfs := D.rfs ++ [(x, y)] } else D.backE e0, us'.map PuD.pt, L) by rw [HST.out, hx, hy, he0, hm, D1.out.am, YL.out])
 rw [← hx, ← hy, ← he0]
 clear hx hy he0 hp hm hlen hn hh hs g1
 obtain ⟨Y2, hY2⟩ : ∃ x, x = { Y1 with qa := va, qn := us'.length, qc := vc } := ⟨_, rfl⟩
 rw [← hY2] at D6
 have Y2L := Lib.hid (show Y2.l = Y.l by rw [hY2]; exact YL.out)
 have Y2C := Lib.hid (show Y2.count = IntKind.i64.wrap (Y.count + 1) by rw [hY2]; exact YC.out)
 have HY2 := Lib.hid hY2
 clear hY2
 obtain ⟨wA, hwA⟩ : ∃ x, x = (w6.alloc (.cells #[.int .i64 0, .int .i64 0, .slice none 0 0] 35)).alloc (.cells #[.int .i64 0, .int .i64 0] 48) := ⟨_, rfl⟩
 have bA := alloc_below0 w6 (.cells #[.int .i64 0, .int .i64 0, .slice none 0 0] 35)
 have sA : (w6.alloc (.cells #[.int .i64 0, .int .i64 0, .slice none 0 0] 35)).heap.size = w6.heap.size + 1 := by simp
 have bB := alloc_below0 (w6.alloc (.cells #[.int .i64 0, .int .i64 0, .slice none 0 0] 35)) (.cells #[.int .i64 0, .int .i64 0] 48)
 have BA := Lib.hid (show Below w6.heap.size w6 wA by rw [hwA]; exact bA.trans (bB.mono bA.size))
 have LA := Lib.hid (show wA.heap[w6.heap.size]? = some (.cells #[.int .i64 0, .int .i64 0, .slice none 0 0] 35 (0, 0)) by rw [hwA]; exact blk_step (blk_new w6 _) bB)
 have RA := Lib.hid (show wA.heap[w6.heap.size + 1]? = some (.cells #[.int .i64 0, .int .i64 0] 48 (0, 0)) by rw [hwA, ← sA]; exact blk_new _ _)
 have tA : ((w6.alloc (.cells #[.int .i64 0, .int .i64 0, .slice none 0 0] 35)).alloc (.cells #[.int .i64 0, .int .i64 0] 48)).there w6.heap.size 0 3 := by rw [← hwA]; exact blk_there LA.out 3 (Nat.le_refl _)
 have WA := Lib.hid hwA
 clear hwA bA bB sA
 go_upto_region 28 with (first
  | (refine wpList_store_to rfl 35 (.tmp 15) (.tmp 165) rfl w6.heap.size 0 (arL Y1 va us'.length vc) rfl rfl ?_ arInfo (arL_one ..) ?_; exact tA; rw [← WA.out]; intro W7 hW7; have L7 := Lib.hid (show W7.heap[w6.heap.size]? = some (.cells (arL Y1 va us'.length vc).toArray 35 (0, 0)) by rw [hW7]; exact list_laid (arL Y1 va us'.length vc) LA.out rfl); have k7 : Kept (fun k => k = w6.heap.size) wA W7 := by { rw [hW7]; exact Kept.setCells _ _ _ (Kept.refl _ _) }; have R7 := Lib.hid ((k7.block _ (Array.getElem?_eq_some_iff.1 RA.out).1 (show ¬ w6.heap.size + 1 = w6.heap.size by omega)).trans RA.out); have B7 := Lib.hid (BA.out.trans (k7.below (n := w6.heap.size) (fun k (e : k = w6.heap.size) => by omega) BA.out.size)); have tR := blk_there R7.out 2 (Nat.le_refl _); clear hW7 k7)
  | (refine wpList_store_to rfl 48 (.tmp 16) (.tmp 166) rfl (w6.heap.size + 1) 0 [.int .i64 x, .int .i64 y] rfl rfl ?_ refInfoS (xy_one ..) ?_; exact tR; intro W8 hW8; have R8 := Lib.hid (show W8.heap[w6.heap.size + 1]? = some (.cells ([.int .i64 x, .int .i64 y] : List Value).toArray 48 (0, 0)) by rw [hW8]; exact list_laid [.int .i64 x, .int .i64 y] R7.out rfl); have k8 : Kept (fun k => k = w6.heap.size + 1) W7 W8 := by { rw [hW8]; exact Kept.setCells _ _ _ (Kept.refl _ _) }; have L8 := Lib.hid ((k8.block _ (Array.getElem?_eq_some_iff.1 L7.out).1 (show ¬ w6.heap.size = w6.heap.size + 1 by omega)).trans L7.out); have B8 := Lib.hid (B7.out.trans (k8.below (n := w6.heap.size) (fun k (e : k = w6.heap.size + 1) => by omega) B7.out.size)); have A8 := Lib.hid (A6.out.low B8.out); have D8 := Lib.hid (D6.out.low B8.out); have tm := blk_thereN A8.out.m.blk 6 3 (by show 6 + 3 ≤ 15; decide); clear hW8 k8)
  | (refine wpList_load_mid rfl 35 (.tmp 15) rfl w6.heap.size 0 rfl (arL Y1 va us'.length vc) _ ?_ Tryz.underlying35 rfl arInfo ?_; exact blk_rng L8.out)
  | (refine wpList_store_to rfl 35 (.tmp 169) (.tmp 168) rfl (w.heap.size + 1) 6 (arL Y1 va us'.length vc) rfl rfl ?_ arInfo (arL_one ..) ?_; exact tm; intro W9 hW9; have A9 := Lib.hid (show SA w W9 X Y2 by rw [hW9, HY2.out]; exact A8.out.arena va us'.length vc); have k9 : Kept (fun k => k = w.heap.size + 1) W8 W9 := by { rw [hW9]; exact Kept.setCells _ _ _ (Kept.refl _ _) }; have D9 := Lib.hid (D8.out.keep k9 boxT.m); have R9 := Lib.hid ((k9.block _ (Array.getElem?_eq_some_iff.1 R8.out).1 (show ¬ w6.heap.size + 1 = w.heap.size + 1 by have := A6.out.sz; omega)).trans R8.out); clear hW9 k9))
 clear tA tR tm
 by_cases he : e0 = 0
 ·subst he
  have HS2 := Lib.hid (show D.step Y.l X.d ds hd ps L = ({ D with rfs := D.rfs ++ [(x, y)] }, us'.map PuD.pt, L) by rw [HS1.out, if_pos rfl])
  go_upto_region 30 with (fail)
  try simp only [Act.put]
  go_cut [] from 176 to 183 (fun wx => ∃ (a7 : Option Addr) (q7 : Nat), SA w wx { X with ra := a7, rn := D.rfs.length + 1, rc := q7 } Y2 ∧ DocS w0 wx (boxT T w.heap.size) { X with ra := a7, rn := D.rfs.length + 1, rc := q7 } Y2 { D with rfs := D.rfs ++ [(x, y)] } (us'.map PuD.pt) L us' ups)
  case first =>
   have y2 := A9.out.i.cRfs
   rw [RN.out] at y2
   have BD := Lib.hid (Below.refl W9.heap.size W9).drew
   have HS := Lib.hid (show ∀ w', Below W9.heap.size W9 w' → (fun w' => w'.cell? ⟨w.heap.size, 27, none⟩ = some (.slice X.ra D.rfs.length X.rc) ∧ w'.rangeAt (w6.heap.size + 1) 0 [.int .i64 x, .int .i64 y]) w' from fun w' h => ⟨cell_step y2 h, rng_step (blk_rng R9.out) h⟩)
   have VR := Lib.hid (show SV lRef W9 (.slice X.ra D.rfs.length X.rc) D.rfs by have h := D9.out.rf; rw [RN.out] at h; exact h)
   have LN := Lib.hid HL.out.1
   clear y2
   refine AnyBut.region (fun w' => w'.cell? ⟨w.heap.size, 27, none⟩ = some (.slice X.ra D.rfs.length X.rc) ∧ w'.rangeAt (w6.heap.size + 1) 0 [.int .i64 x, .int .i64 y]) 8 (by kernel_rfl) ?_
   generalize W9.drew = wd at *
   refine tkB (i := 1) (oi := ⟨some 177, _, _, _, _, _⟩) (v := ?vb1) rfl (Or.inl ⟨by rfl, ?hyb1⟩) (HS.out _ BD.out) ?restb1
   case hyb1 => (intro w hSw; have q0 := hSw.1; go_simp; try (with_reducible rfl))
   simp only [Act.put, sT, sZ, sS]
   refine tkB (i := 2) (oi := ⟨some 178, _, _, _, _, _⟩) (v := ?vb2) rfl (Or.inl ⟨by rfl, ?hyb2⟩) (HS.out _ BD.out) ?restb2
   case hyb2 => (intro w hSw; have q0 := hSw.1; go_simp; try (with_reducible rfl))
   simp only [Act.put, sT, sZ, sS]
   refine tkB (i := 4) (oi := ⟨some 180, _, _, _, _, _⟩) (v := .agg #[.int .i64 x, .int .i64 y]) rfl (yieldsIf_load_mid (by rfl) 48 (.tmp 16) rfl (w6.heap.size + 1) 0 rfl [.int .i64 x, .int .i64 y] _ (fun w h => h.2) Tryz.underlying48 rfl refInfoS) (HS.out _ BD.out) ?restb4
   simp only [Act.put, sT, sZ, sS]
   refine AnyBut.two (i := 0) (j := 5) (o := ⟨some 176, _, _, _, _, _⟩) (u := ⟨some 181, _, _, _, _, _⟩) (by kernel_rfl) rfl rfl (fun K hK => ?_) (fun K hK => ?_)
   ·rw [if_pos (by rfl)]
    go_simp
    have z0 := Lib.hid (alloc_below0 wd (.cells #[] 48))
    have C0 := Lib.hid (BD.out.trans (z0.out.mono BD.out.size))
    have O0 := Lib.hid (show OwnS lRef W9.heap.size (wd.alloc (.cells #[] 48)) (.slice (some ⟨wd.heap.size, 0, none⟩) 0 0) [] from OwnS.lit lRef W9.heap.size wd wd.heap.size rfl [] BD.out.size (by simp))
    have s0 := Lib.hid (show (wd.alloc (.cells #[] 48)).heap.size = wd.heap.size + 1 by simp)
    refine hK.out _ _ (fun _ => HS.out _ C0.out) ?_
    clear hK K
    try simp only [Act.put, sT, sZ, sS]
    generalize hg0 : wd.alloc (.cells #[] 48) = wa at *
    clear hg0 z0
    refine AnyBut.two (i := 3) (j := 5) (o := ⟨some 179, _, _, _, _, _⟩) (u := ⟨some 181, _, _, _, _, _⟩) (by kernel_rfl) rfl rfl (fun K hK => ?_) (fun K hK => ?_)
    ·refine step_appS lRef 66 Tryz.underlying66 lRef_known (by decide) (by decide) rfl (.tmp 176) (.tmp 178) rfl W9.heap.size rfl rfl O0.out (VR.out.below C0.out) (by have := LN.out; simp; omega) C0.out.size ?_
     intro v5 w5 ho hg
     have C3 := Lib.hid (C0.out.trans ((Kept.of_grown hg).below (n := W9.heap.size) (fun j hj => (O0.out.bounds j hj.symm).1) C0.out.size))
     have s3 := Lib.hid (show wa.heap.size ≤ w5.heap.size from hg.size)
     rw [List.nil_append] at ho
     have O1 := Lib.hid ho
     clear ho hg
     refine hK.out _ _ (fun _ => HS.out _ C3.out) ?_
     clear hK K
     try simp only [Act.put, sT, sZ, sS]
     refine AnyBut.one (i := 5) (o := ⟨some 181, _, _, _, _, _⟩) (by kernel_rfl) rfl (fun K hK => ?_)
     rw [if_pos (by rfl)]
     go_simp
     have z5 := Lib.hid (alloc_below0 w5 (.cells #[.int .i64 x, .int .i64 y] 48))
     have C5 := Lib.hid (C3.out.trans (z5.out.mono C3.out.size))
     have V1 := Lib.hid (show SV lRef (w5.alloc (.cells #[.int .i64 x, .int .i64 y] 48)) (.slice (some ⟨w5.heap.size, 0, none⟩) 1 1) [(x, y)] from (OwnS.lit lRef W9.heap.size w5 w5.heap.size rfl [(x, y)] C3.out.size (by simp [maxLen])).sv)
     have s5 := Lib.hid (show (w5.alloc (.cells #[.int .i64 x, .int .i64 y] 48)).heap.size = w5.heap.size + 1 by simp)
     have O2 := Lib.hid (O1.out.below z5.out)
     refine hK.out _ _ (fun _ => HS.out _ C5.out) ?_
     clear hK K
     try simp only [Act.put, sT, sZ, sS]
     generalize hg5 : w5.alloc (.cells #[.int .i64 x, .int .i64 y] 48) = wb at *
     clear hg5 z5
     refine AnyBut.one (i := 6) (o := ⟨some 182, _, _, _, _, _⟩) (by kernel_rfl) rfl (fun K hK => ?_)
     refine step_appS lRef 66 Tryz.underlying66 lRef_known (by decide) (by decide) rfl (.tmp 179) (.tmp 181) rfl W9.heap.size rfl rfl O2.out V1.out (by have := LN.out; simp; omega) C5.out.size ?_
     intro v7 w7 ho hg
     have B7 := Lib.hid (C5.out.trans ((Kept.of_grown hg).below (n := W9.heap.size) (fun j hj => (O2.out.bounds j hj.symm).1) C5.out.size))
     obtain ⟨a7, q7, rfl, -, -⟩ := ho.lenN (n := D.rfs.length + 1) (by rw [List.length_append]; rfl)
     have O7 := Lib.hid ho
     clear ho hg
     refine hK.out _ _ (fun _ => HS.out _ B7.out) ?_
     clear hK K
     try simp only [Act.put, sT, sZ, sS]
     refine AnyBut.one (i := 7) (o := ⟨some 183, _, _, _, _, _⟩) (by kernel_rfl) rfl (fun K hK => ?_)
     go_simp
     refine hK.out _ _ (fun _ => HS.out _ B7.out) ?_
     clear hK K
     try simp only [Act.put, sT, sZ, sS]
     have AF := Lib.hid (A9.out.low B7.out)
     have DF := Lib.hid (D9.out.low B7.out)
     have f8 := AF.out.i.free 27
     have f9 := AF.out.i.cRfs
     refine AnyBut.one (i := 8) (o := ⟨none, _, _, _, _, _⟩) (by kernel_rfl) rfl (fun K hK => ?_)
     go_simp
     refine hK.out _ _ (fun h => absurd rfl h) ?_
     clear hK K f8 f9
     try simp only [Act.put]
     refine AnyBut.done (by kernel_rfl) ?_ _
     go_wp2
     go_meet
     case rel => exact ⟨a7, q7, AF.out.rfs a7 (D.rfs.length + 1) q7, (DF.out.keep ((Kept.refl _ _).setCell _ _) boxT.i).newR (m := W9.heap.size) (O7.out.setOther (fun k hk e => by have h1 := (O7.out.bounds k hk).1; have h2 := A9.out.sz; omega)) (fun k hk => D9.out.hi k hk)⟩
    ·rw [if_pos (by rfl)]
     go_simp
     have z5 := Lib.hid (alloc_below0 wa (.cells #[.int .i64 x, .int .i64 y] 48))
     have C5 := Lib.hid (C0.out.trans (z5.out.mono C0.out.size))
     have V1 := Lib.hid (show SV lRef (wa.alloc (.cells #[.int .i64 x, .int .i64 y] 48)) (.slice (some ⟨wa.heap.size, 0, none⟩) 1 1) [(x, y)] from (OwnS.lit lRef W9.heap.size wa wa.heap.size rfl [(x, y)] C0.out.size (by simp [maxLen])).sv)
     have s5 := Lib.hid (show (wa.alloc (.cells #[.int .i64 x, .int .i64 y] 48)).heap.size = wa.heap.size + 1 by simp)
     have O3 := Lib.hid (O0.out.below z5.out)
     refine hK.out _ _ (fun _ => HS.out _ C5.out) ?_
     clear hK K
     try simp only [Act.put, sT, sZ, sS]
     generalize hg5 : wa.alloc (.cells #[.int .i64 x, .int .i64 y] 48) = wb at *
     clear hg5 z5
     refine AnyBut.one (i := 3) (o := ⟨some 179, _, _, _, _, _⟩) (by kernel_rfl) rfl (fun K hK => ?_)
     refine step_appS lRef 66 Tryz.underlying66 lRef_known (by decide) (by decide) rfl (.tmp 176) (.tmp 178) rfl W9.heap.size rfl rfl O3.out (VR.out.below C5.out) (by have := LN.out; simp; omega) C5.out.size ?_
     intro v5 w5 ho hg
     have C3 := Lib.hid (C5.out.trans ((Kept.of_grown hg).below (n := W9.heap.size) (fun j hj => (O3.out.bounds j hj.symm).1) C5.out.size))
     have V2 := Lib.hid (V1.out.kept (Kept.of_grown hg) (out_ne (by (have h1 := s0.out; omega))))
     rw [List.nil_append] at ho
     have O1 := Lib.hid ho
     clear ho hg
     refine hK.out _ _ (fun _ => HS.out _ C3.out) ?_
     clear hK K
     try simp only [Act.put, sT, sZ, sS]
     refine AnyBut.one (i := 6) (o := ⟨some 182, _, _, _, _, _⟩) (by kernel_rfl) rfl (fun K hK => ?_)
     refine step_appS lRef 66 Tryz.underlying66 lRef_known (by decide) (by decide) rfl (.tmp 179) (.tmp 181) rfl W9.heap.size rfl rfl O1.out V2.out (by have := LN.out; simp; omega) C3.out.size ?_
     intro v7 w7 ho hg
     have B7 := Lib.hid (C3.out.trans ((Kept.of_grown hg).below (n := W9.heap.size) (fun j hj => (O1.out.bounds j hj.symm).1) C3.out.size))
     obtain ⟨a7, q7, rfl, -, -⟩ := ho.lenN (n := D.rfs.length + 1) (by rw [List.length_append]; rfl)
     have O7 := Lib.hid ho
     clear ho hg
     refine hK.out _ _ (fun _ => HS.out _ B7.out) ?_
     clear hK K
     try simp only [Act.put, sT, sZ, sS]
     refine AnyBut.one (i := 7) (o := ⟨some 183, _, _, _, _, _⟩) (by kernel_rfl) rfl (fun K hK => ?_)
     go_simp
     refine hK.out _ _ (fun _ => HS.out _ B7.out) ?_
     clear hK K
     try simp only [Act.put, sT, sZ, sS]
     have AF := Lib.hid (A9.out.low B7.out)
     have DF := Lib.hid (D9.out.low B7.out)
     have f8 := AF.out.i.free 27
     have f9 := AF.out.i.cRfs
     refine AnyBut.one (i := 8) (o := ⟨none, _, _, _, _, _⟩) (by kernel_rfl) rfl (fun K hK => ?_)
     go_simp
     refine hK.out _ _ (fun h => absurd rfl h) ?_
     clear hK K f8 f9
     try simp only [Act.put]
     refine AnyBut.done (by kernel_rfl) ?_ _
     go_wp2
     go_meet
     case rel => exact ⟨a7, q7, AF.out.rfs a7 (D.rfs.length + 1) q7, (DF.out.keep ((Kept.refl _ _).setCell _ _) boxT.i).newR (m := W9.heap.size) (O7.out.setOther (fun k hk e => by have h1 := (O7.out.bounds k hk).1; have h2 := A9.out.sz; omega)) (fun k hk => D9.out.hi k hk)⟩
   ·rw [if_pos (by rfl)]
    go_simp
    have z5 := Lib.hid (alloc_below0 wd (.cells #[.int .i64 x, .int .i64 y] 48))
    have C5 := Lib.hid (BD.out.trans (z5.out.mono BD.out.size))
    have V1 := Lib.hid (show SV lRef (wd.alloc (.cells #[.int .i64 x, .int .i64 y] 48)) (.slice (some ⟨wd.heap.size, 0, none⟩) 1 1) [(x, y)] from (OwnS.lit lRef W9.heap.size wd wd.heap.size rfl [(x, y)] BD.out.size (by simp [maxLen])).sv)
    have s5 := Lib.hid (show (wd.alloc (.cells #[.int .i64 x, .int .i64 y] 48)).heap.size = wd.heap.size + 1 by simp)
    refine hK.out _ _ (fun _ => HS.out _ C5.out) ?_
    clear hK K
    try simp only [Act.put, sT, sZ, sS]
    generalize hg5 : wd.alloc (.cells #[.int .i64 x, .int .i64 y] 48) = wa at *
    clear hg5 z5
    refine AnyBut.one (i := 0) (o := ⟨some 176, _, _, _, _, _⟩) (by kernel_rfl) rfl (fun K hK => ?_)
    rw [if_pos (by rfl)]
    go_simp
    have z0 := Lib.hid (alloc_below0 wa (.cells #[] 48))
    have C0 := Lib.hid (C5.out.trans (z0.out.mono C5.out.size))
    have O0 := Lib.hid (show OwnS lRef W9.heap.size (wa.alloc (.cells #[] 48)) (.slice (some ⟨wa.heap.size, 0, none⟩) 0 0) [] from OwnS.lit lRef W9.heap.size wa wa.heap.size rfl [] C5.out.size (by simp))
    have s0 := Lib.hid (show (wa.alloc (.cells #[] 48)).heap.size = wa.heap.size + 1 by simp)
    have V1 := Lib.hid (V1.out.below z0.out)
    refine hK.out _ _ (fun _ => HS.out _ C0.out) ?_
    clear hK K
    try simp only [Act.put, sT, sZ, sS]
    generalize hg0 : wa.alloc (.cells #[] 48) = wb at *
    clear hg0 z0
    refine AnyBut.one (i := 3) (o := ⟨some 179, _, _, _, _, _⟩) (by kernel_rfl) rfl (fun K hK => ?_)
    refine step_appS lRef 66 Tryz.underlying66 lRef_known (by decide) (by decide) rfl (.tmp 176) (.tmp 178) rfl W9.heap.size rfl rfl O0.out (VR.out.below C0.out) (by have := LN.out; simp; omega) C0.out.size ?_
    intro v5 w5 ho hg
    have C3 := Lib.hid (C0.out.trans ((Kept.of_grown hg).below (n := W9.heap.size) (fun j hj => (O0.out.bounds j hj.symm).1) C0.out.size))
    have V2 := Lib.hid (V1.out.kept (Kept.of_grown hg) (out_ne (by (have h1 := s5.out; omega))))
    rw [List.nil_append] at ho
    have O1 := Lib.hid ho
    clear ho hg
    refine hK.out _ _ (fun _ => HS.out _ C3.out) ?_
    clear hK K
    try simp only [Act.put, sT, sZ, sS]
    refine AnyBut.one (i := 6) (o := ⟨some 182, _, _, _, _, _⟩) (by kernel_rfl) rfl (fun K hK => ?_)
    refine step_appS lRef 66 Tryz.underlying66 lRef_known (by decide) (by decide) rfl (.tmp 179) (.tmp 181) rfl W9.heap.size rfl rfl O1.out V2.out (by have := LN.out; simp; omega) C3.out.size ?_
    intro v7 w7 ho hg
    have B7 := Lib.hid (C3.out.trans ((Kept.of_grown hg).below (n := W9.heap.size) (fun j hj => (O1.out.bounds j hj.symm).1) C3.out.size))
    obtain ⟨a7, q7, rfl, -, -⟩ := ho.lenN (n := D.rfs.length + 1) (by rw [List.length_append]; rfl)
    have O7 := Lib.hid ho
    clear ho hg
    refine hK.out _ _ (fun _ => HS.out _ B7.out) ?_
    clear hK K
    try simp only [Act.put, sT, sZ, sS]
    refine AnyBut.one (i := 7) (o := ⟨some 183, _, _, _, _, _⟩) (by kernel_rfl) rfl (fun K hK => ?_)
    go_simp
    refine hK.out _ _ (fun _ => HS.out _ B7.out) ?_
    clear hK K
    try simp only [Act.put, sT, sZ, sS]
    have AF := Lib.hid (A9.out.low B7.out)
    have DF := Lib.hid (D9.out.low B7.out)
    have f8 := AF.out.i.free 27
    have f9 := AF.out.i.cRfs
    refine AnyBut.one (i := 8) (o := ⟨none, _, _, _, _, _⟩) (by kernel_rfl) rfl (fun K hK => ?_)
    go_simp
    refine hK.out _ _ (fun h => absurd rfl h) ?_
    clear hK K f8 f9
    try simp only [Act.put]
    refine AnyBut.done (by kernel_rfl) ?_ _
    go_wp2
    go_meet
    case rel => exact ⟨a7, q7, AF.out.rfs a7 (D.rfs.length + 1) q7, (DF.out.keep ((Kept.refl _ _).setCell _ _) boxT.i).newR (m := W9.heap.size) (O7.out.setOther (fun k hk e => by have h1 := (O7.out.bounds k hk).1; have h2 := A9.out.sz; omega)) (fun k hk => D9.out.hi k hk)⟩
  case rest =>
   obtain ⟨a7, q7, hA, hDD⟩ := hcut
   obtain ⟨WB, hwq⟩ : ∃ x, x = wc := ⟨_, rfl⟩
   subst hwq
   obtain ⟨X5, hX5⟩ : ∃ x, x = { X with ra := a7, rn := D.rfs.length + 1, rc := q7 } := ⟨_, rfl⟩
   rw [← hX5] at hA hDD
   have AX := Lib.hid hA
   have DX5 := Lib.hid hDD
   have X5D := Lib.hid (show X5.d = X.d by rw [hX5])
   clear hX5 hA hDD
   go_upto_region 31 with (fail)
   have A8 := Lib.hid (AX.out.low (Below.refl WB.heap.size WB).drew)
   have D8 := Lib.hid (DX5.out.low (Below.refl WB.heap.size WB).drew)
   refine anyH_region (fun w' => DXAt w' w.heap.size X5 ∧ MXAt w' (w.heap.size + 1) Y2) (by kernel_rfl) ?_
   generalize WB.drew = wd at *
   refine tkH (i := 0) (oi := ⟨some 184, _, _, _, _, _⟩) (v := .agg X5.list.toArray) rfl (yieldsIf_load_mid (by rfl) 68 (.tmp 2) rfl w.heap.size 0 rfl X5.list _ (fun w h => h.1.rng) Tryz.underlying68 rfl X5.info) ⟨A8.out.i, A8.out.m⟩ ?reste0
   simp only [Act.put, sT, sZ, sS]
   refine tkH (i := 1) (oi := ⟨some 185, _, _, _, _, _⟩) (v := .agg Y2.list.toArray) rfl (yieldsIf_load_mid (by rfl) 43 (.tmp 3) rfl (w.heap.size + 1) 0 rfl Y2.list _ (fun w h => h.2.rng) Tryz.underlying43 rfl Y2.info) ⟨A8.out.i, A8.out.m⟩ ?reste1
   simp only [Act.put, sT, sZ, sS]
   refine anyH_one (i := 2) (o := ⟨none, _, _, _, _, _⟩) (by kernel_rfl) rfl (fun K hK => ?_)
   rw [if_pos (by rfl)]
   refine wp_store_to 68 (.tmp 4) (.tmp 184) rfl (w.heap.size + 2) 0 X5.list rfl rfl ?_ X5.info X5.one ?_
   ·exact A8.out.ri.there
   intro W8 hW8
   have Q8 := Lib.hid (show SQ w W8 X5 Y2 by rw [hW8]; exact A8.out.ri')
   have D9 := Lib.hid (show DocS _ W8 _ _ _ _ _ _ _ _ by rw [hW8]; exact D8.out.keep (Kept.setCells _ _ _ (Kept.refl _ _)) boxT.ri)
   clear hW8
   refine hK.out _ _ ⟨Q8.out.i, Q8.out.m⟩ ?_
   clear hK K
   try simp only [Act.put]
   refine anyH_one (i := 3) (o := ⟨none, _, _, _, _, _⟩) (by kernel_rfl) rfl (fun K hK => ?_)
   rw [if_pos (by rfl)]
   refine wp_store_to 43 (.tmp 5) (.tmp 185) rfl (w.heap.size + 3) 0 Y2.list rfl rfl ?_ Y2.info Y2.one ?_
   ·exact Q8.out.rm.there
   intro W9 hW9
   have Q9 := Lib.hid (show SR w W9 X5 Y2 ∧ DXAt W9 w.heap.size X5 ∧ MXAt W9 (w.heap.size + 1) Y2 by rw [hW9]; exact Q8.out.rm')
   have DE := Lib.hid (show DocS _ W9 _ _ _ _ _ _ _ _ by rw [hW9]; exact D9.out.keep (Kept.setCells _ _ _ (Kept.refl _ _)) boxT.rm)
   clear hW9
   refine hK.out _ _ Q9.out.2 ?_
   clear hK K
   try simp only [Act.put]
   refine wpAnyH_done (by kernel_rfl) ?_ _
   go_wp2
   refine bodyPost_ret (v := .tuple #[X5.val, Y2.val]) (results_cell2 rfl _ _ (w.heap.size + 2) (w.heap.size + 3) X5.list Y2.list _ _ rfl rfl Q9.out.1.ri.rng Q9.out.1.rm.rng Tryz.underlying68 rfl X5.info Tryz.underlying43 rfl Y2.info) rfl ?_
   exact StepR.mk' HS2.out X5 Y2 us' ups rfl X5D.out Y2L.out (by rw [HO.out, if_neg (by decide)]; exact Y2C.out) DE.out.unbox LE.out (Nat.le_succ _) Q9.out.1.below
 ·have HS2 := Lib.hid (show D.step Y.l X.d ds hd ps L = (D.backE e0, us'.map PuD.pt, L) by rw [HS1.out, if_neg he])
  have b0 : (e0 == 0) = false := by simp [he]
  have b1 : (e0 != 0) = true := by simp [he]
  go_upto_region 29 with (fail)
  have A8 := Lib.hid (A9.out.low (Below.refl W9.heap.size W9).drew)
  have D8 := Lib.hid (D9.out.low (Below.refl W9.heap.size W9).drew)
  refine anyH_region (fun w' => DXAt w' w.heap.size X ∧ MXAt w' (w.heap.size + 1) Y2) (by kernel_rfl) ?_
  generalize W9.drew = wd at *
  refine tkH (i := 0) (oi := ⟨some 172, _, _, _, _, _⟩) (v := .agg X.list.toArray) rfl (yieldsIf_load_mid (by rfl) 68 (.tmp 2) rfl w.heap.size 0 rfl X.list _ (fun w h => h.1.rng) Tryz.underlying68 rfl X.info) ⟨A8.out.i, A8.out.m⟩ ?restk0
  simp only [Act.put, sT, sZ, sS]
  refine tkH (i := 1) (oi := ⟨some 173, _, _, _, _, _⟩) (v := ?vk1) rfl (Or.inl ⟨by rfl, ?hyk1⟩) ⟨A8.out.i, A8.out.m⟩ ?restk1
  case hyk1 => (intro w hSw; go_simp; try (with_reducible rfl))
  simp only [Act.put, sT, sZ, sS]
  refine tkH (i := 3) (oi := ⟨some 175, _, _, _, _, _⟩) (v := .agg Y2.list.toArray) rfl (yieldsIf_load_mid (by rfl) 43 (.tmp 3) rfl (w.heap.size + 1) 0 rfl Y2.list _ (fun w h => h.2.rng) Tryz.underlying43 rfl Y2.info) ⟨A8.out.i, A8.out.m⟩ ?restk3
  simp only [Act.put, sT, sZ, sS]
  refine anyH_one (i := 2) (o := ⟨some 174, _, _, _, _, _⟩) (by kernel_rfl) rfl (fun K hK => ?_)
  rw [if_pos (by rfl)]
  go_simp
  refine (iBack_any X e0 _ HBL.out).mono ?_
  rintro e5 w5 ⟨rfl, hs⟩
  have A5 := Lib.hid (A8.out.low hs)
  have D5 := Lib.hid (D8.out.low hs)
  clear hs
  refine hK.out _ _ ⟨A5.out.i, A5.out.m⟩ ?_
  clear hK K
  try simp only [Act.put, sT, sZ, sS]
  refine anyH_one (i := 4) (o := ⟨none, _, _, _, _, _⟩) (by kernel_rfl) rfl (fun K hK => ?_)
  rw [if_pos (by rfl)]
  refine wp_store_to 68 (.tmp 4) (.tmp 174) rfl (w.heap.size + 2) 0 (X.backE e0).list rfl rfl ?_ (X.backE e0).info (X.backE e0).one ?_
  ·exact A5.out.ri.there
  intro W8 hW8
  have Q8 := Lib.hid (show SQ2 w W8 X (X.backE e0) Y2 by rw [hW8]; exact A5.out.ri2)
  have D9 := Lib.hid (show DocS _ W8 _ _ _ _ _ _ _ _ by rw [hW8]; exact D5.out.keep (Kept.setCells _ _ _ (Kept.refl _ _)) boxT.ri)
  clear hW8
  refine hK.out _ _ ⟨Q8.out.i, Q8.out.m⟩ ?_
  clear hK K
  try simp only [Act.put]
  refine anyH_one (i := 5) (o := ⟨none, _, _, _, _, _⟩) (by kernel_rfl) rfl (fun K hK => ?_)
  rw [if_pos (by rfl)]
  refine wp_store_to 43 (.tmp 5) (.tmp 175) rfl (w.heap.size + 3) 0 Y2.list rfl rfl ?_ Y2.info Y2.one ?_
  ·exact Q8.out.rm.there
  intro W9 hW9
  have Q9 := Lib.hid (show SR w W9 (X.backE e0) Y2 ∧ DXAt W9 w.heap.size X ∧ MXAt W9 (w.heap.size + 1) Y2 by rw [hW9]; exact Q8.out.rm')
  have DE := Lib.hid (show DocS _ W9 _ _ _ _ _ _ _ _ by rw [hW9]; exact (D9.out.keep (Kept.setCells _ _ _ (Kept.refl _ _)) boxT.rm).backE e0)
  clear hW9
  refine hK.out _ _ Q9.out.2 ?_
  clear hK K
  try simp only [Act.put]
  refine wpAnyH_done (by kernel_rfl) ?_ _
  go_wp2
  refine bodyPost_ret (v := .tuple #[(X.backE e0).val, Y2.val]) (results_cell2 rfl _ _ (w.heap.size + 2) (w.heap.size + 3) (X.backE e0).list Y2.list _ _ rfl rfl Q9.out.1.ri.rng Q9.out.1.rm.rng Tryz.underlying68 rfl (X.backE e0).info Tryz.underlying43 rfl Y2.info) rfl ?_
  exact StepR.mk' HS2.out (X.backE e0) Y2 us' ups rfl rfl Y2L.out (by rw [HO.out, if_neg (by decide)]; exact Y2C.out) DE.out.unbox LE.out (Nat.le_succ _) Q9.out.1.below
open Go.RowKit
theorem iStep12_free {w0 w : World} {T : Nat → Prop} {X : DX} {Y : MX} {D : DI} {ps : List Pt} {L : List Pg} {us : List PuD} {ups : List Up} (ds : List RecD) (hd : RecD) (hD : DocS w0 w T X Y D ps L us ups) (ho : D.over = false) (hb : D.back = true) (hr : 0 < D.rfs.length) (hl : D.rfs.length ≤ 1000 ∧ D.pgs.length ≤ 1000) (hu : us.length ≤ 900) :
  Calls Tryz.prog 12 #[X.val, Y.val] w (StepR w0 w T ds hd X Y D ps L us ups) := by
 have HST := Lib.hid (show D.step Y.l X.d ds hd ps L = ({ D with rfs := D.rfs.take (D.rfs.length - 1), over := decide (D.rfs.length - 1 + D.pgs.length = 0) }, freeM Y.l.s ps D.lastR.1 D.lastR.2, L) by unfold DI.step; rw [if_neg (by rw [ho]; decide), if_pos hb, if_pos hr])
 obtain ⟨q, hq⟩ : ∃ q, D.rfs.length = q + 1 := ⟨D.rfs.length - 1, by omega⟩
 have HQ := Lib.hid hq
 have HO := Lib.hid ho
 have HB := Lib.hid hb
 have HL := Lib.hid hl
 have HU := Lib.hid hu
 clear ho hb hr hl hu hq
 obtain ⟨W0, hW0⟩ : ∃ W, W = ((((w.alloc (.cells X.list.toArray 68)).alloc (.cells Y.list.toArray 43)).alloc (.cells DX.zero.list.toArray 68)).alloc (.cells MX.zero.list.toArray 43)) := ⟨_, rfl⟩
 have A0 := Lib.hid (show SA w W0 X Y by rw [hW0]; exact SA.start w X Y)
 have D0 := Lib.hid (hD.boxes A0.out.below A0.out.sz)
 have XO := Lib.hid hD.over
 have XB := Lib.hid hD.back
 have XL := Lib.hid hD.links
 have PN := Lib.hid hD.pn
 have RN := Lib.hid hD.rn
 have TLT := Lib.hid hD.hi
 have hzl : DX.zero.list.toArray = #[.int .i64 0, .int .i64 0, .int .i64 0, .int .i64 0, .slice none 0 0, .int .i64 0, .string ⟨#[]⟩, .string ⟨#[]⟩, .bool false, .int .i64 0, .slice none 0 0, .slice none 0 0, .string ⟨#[]⟩, .string ⟨#[]⟩, .int .i64 0, .int .i64 0, .int .i64 0, .string ⟨#[]⟩, .int .i64 0, .int .i64 0, .int .i64 0, .bool false, .bool false, .bool false, .bool false, .int .i64 0, .slice none 0 0, .slice none 0 0, .int .i64 0] := rfl
 have hzm : MX.zero.list.toArray = #[.int .i64 0, .int .i64 0, .int .i64 0, .int .i64 0, .int .i64 0, .int .i64 0, .int .i64 0, .int .i64 0, .slice none 0 0, .int .i64 0, .slice none 0 0, .int .i64 0, .int .i64 0, .slice none 0 0, .int .i64 0] := rfl
 rw [hzl, hzm] at hW0
 clear hzl hzm hD
 unfold DX.val MX.val
 generalize hxl : X.list.toArray = xl at hW0 ⊢
 generalize hyl : Y.list.toArray = yl at hW0 ⊢
 clear hxl hyl
 go_enter Tryz.func12, Tryz.ntmps12
 go_upto_region 1 with (fail)
 rw [← hW0]
 clear hW0
 have y0 := A0.out.i.cOver
 rw [XO.out, HO.out] at y0
 obtain ⟨cnt, hcnt⟩ : ∃ x, x = IntKind.i64.wrap (Y.count + 1) := ⟨_, rfl⟩
 have ic : IntKind.i64.wrap (Y.count + 1) = cnt := hcnt.symm
 have CN := Lib.hid hcnt
 clear hcnt
 have y1 := A0.out.m.cCount
 have y2 := A0.out.m.free 14
 go_upto_region 4 with (fail)
 clear y0 y1 y2 ic
 have A1 := Lib.hid (A0.out.count cnt)
 have D1 := Lib.hid (show DocS _ (W0.setCell ⟨w.heap.size + 1, 14, none⟩ (.int .i64 cnt)) _ _ _ _ _ _ _ _ from (D0.out.keep ((Kept.refl _ _).setCell _ _) boxT.m).count cnt)
 generalize W0.setCell ⟨w.heap.size + 1, 14, none⟩ (.int .i64 cnt) = W1 at *
 obtain ⟨Y1, hY1⟩ : ∃ x, x = { Y with count := cnt } := ⟨_, rfl⟩
 rw [← hY1] at A1 D1
 have YL := Lib.hid (show Y1.l = Y.l by rw [hY1])
 have YC := Lib.hid (show Y1.count = IntKind.i64.wrap (Y.count + 1) by rw [hY1]; exact CN.out)
 clear hY1
 clear D0 A0
 have y0 := A1.out.i.cNews
 go_upto_region 5 with (fail)
 clear y0
 have y0 := A1.out.i.cBack
 rw [XB.out, HB.out] at y0
 have y1 := A1.out.i.cRfs
 rw [RN.out, HQ.out] at y1
 have VR := Lib.hid (show SV lRef W1 (.slice X.ra (q + 1) X.rc) D.rfs by have h := D1.out.rf; rw [RN.out, HQ.out] at h; exact h)
 obtain ⟨ra, hra⟩ : ∃ x, x = X.ra := ⟨_, rfl⟩
 rw [← hra] at VR y1
 have RA := Lib.hid hra
 clear hra
 obtain ⟨lb, lo, rfl⟩ := VR.out.addr (by rw [HQ.out]; omega)
 obtain ⟨x, y, hx⟩ : ∃ x y, D.rfs[q]? = some (x, y) := ⟨_, _, List.getElem?_eq_getElem (by rw [HQ.out]; omega)⟩
 have LR := Lib.hid (show D.lastR = (x, y) by unfold DI.lastR; rw [HQ.out, show q + 1 - 1 = q by omega, List.getD_eq_getElem?_getD, hx]; rfl)
 have RG := Lib.hid (show W1.rangeAt lb (lo + q * 2) [.int .i64 x, .int .i64 y] from VR.out.range hx)
 clear hx
 have i0 : (0 : Int) < (q : Int) + 1 := by omega
 have i1 : IntKind.i64.wrap ((q : Int) + 1 - 1) = (q : Int) := by rw [show (q : Int) + 1 - 1 = q by omega]; exact Go.IntWalk.i64_in _ (by have := HL.out.1; have := HQ.out; omega)
 have i4 : IntKind.i64.wrap (q : Int) = (q : Int) := Go.IntWalk.i64_in _ (by have := HL.out.1; have := HQ.out; omega)
 have i2 : (0 : Int) ≤ (q : Int) := by omega
 have i3 : (q : Int) < (q : Int) + 1 := by omega
 go_upto_region 7 with (fail)
 try simp only [Act.put]
 go_cut [7, 8] from 41 to 54 (fun s7 s8 wc => ∃ (nb : Nat) (va : Option Addr) (vn vc : Nat) (us' : List PuD), s7 = .pointer (some ⟨nb, 0, none⟩) ∧ wc.heap[nb]? = some (.cells (arL Y1 va vn vc).toArray 35 (0, 0)) ∧ W1.heap.size ≤ nb ∧ NewP W1 wc (.slice Y1.qa Y1.qn Y1.qc) (.slice va vn vc) us us' ∧ us'.map PuD.pt = (freeM Y1.l.s (us.map PuD.pt) x y) ∧ us'.length = us.length ∧ (∀ e ∈ us', ∃ e0 ∈ us, Heir e e0) ∧ Below W1.heap.size W1 wc)
 case first =>
  have BD := Lib.hid (Below.refl W1.heap.size W1).drew
  have HS := Lib.hid (show ∀ w', Below W1.heap.size W1 w' → (fun w' => w'.cell? ⟨w.heap.size, 27, none⟩ = some (.slice (some ⟨lb, lo, none⟩) (q + 1) X.rc) ∧ w'.rangeAt (w.heap.size + 1) 6 (arL Y1 Y1.qa Y1.qn Y1.qc) ∧ w'.rangeAt lb (lo + q * 2) [.int .i64 x, .int .i64 y]) w' from fun w' h => ⟨cell_step y1 h, rng_step A1.out.m.arena h, rng_step RG.out h⟩)
  have DD := Lib.hid (D1.out.low BD.out)
  have SD := Lib.hid (show W1.drew.heap.size = W1.heap.size from rfl)
  refine anyH_region (fun w' => w'.cell? ⟨w.heap.size, 27, none⟩ = some (.slice (some ⟨lb, lo, none⟩) (q + 1) X.rc) ∧ w'.rangeAt (w.heap.size + 1) 6 (arL Y1 Y1.qa Y1.qn Y1.qc) ∧ w'.rangeAt lb (lo + q * 2) [.int .i64 x, .int .i64 y]) (by kernel_rfl) ?_
  generalize W1.drew = wd at *
  refine tkH (i := 0) (oi := ⟨some 42, _, _, _, _, _⟩) (v := ?va0) rfl (Or.inl ⟨by rfl, ?hya0⟩) (HS.out _ BD.out) ?resta0
  case hya0 => (intro w hSw; have q0 := hSw.1; go_simp; try (with_reducible rfl))
  simp only [Act.put, sT, sZ, sS]
  refine tkH (i := 1) (oi := ⟨some 43, _, _, _, _, _⟩) (v := .agg (arL Y1 Y1.qa Y1.qn Y1.qc).toArray) rfl (yieldsIf_load_mid (by rfl) 35 (.tmp 42) rfl (w.heap.size + 1) 6 rfl (arL Y1 Y1.qa Y1.qn Y1.qc) _ (fun w h => h.2.1) Tryz.underlying35 rfl arInfo) (HS.out _ BD.out) ?resta1
  simp only [Act.put, sT, sZ, sS]
  refine tkH (i := 2) (oi := ⟨some 44, _, _, _, _, _⟩) (v := ?va2) rfl (Or.inl ⟨by rfl, ?hya2⟩) (HS.out _ BD.out) ?resta2
  case hya2 => (intro w hSw; have q0 := hSw.1; go_simp; try (with_reducible rfl))
  simp only [Act.put, sT, sZ, sS]
  refine tkH (i := 3) (oi := ⟨some 45, _, _, _, _, _⟩) (v := ?va3) rfl (Or.inl ⟨by rfl, ?hya3⟩) (HS.out _ BD.out) ?resta3
  case hya3 => (intro w hSw; have q0 := hSw.1; go_simp; try (with_reducible rfl))
  simp only [Act.put, sT, sZ, sS]
  refine tkH (i := 4) (oi := ⟨some 46, _, _, _, _, _⟩) (v := ?va4) rfl (Or.inl ⟨by rfl, ?hya4⟩) (HS.out _ BD.out) ?resta4
  case hya4 => (intro w hSw; have q0 := hSw.1; go_simp; try (with_reducible rfl))
  simp only [Act.put, sT, sZ, sS]
  refine tkH (i := 5) (oi := ⟨some 47, _, _, _, _, _⟩) (v := ?va5) rfl (Or.inl ⟨by rfl, ?hya5⟩) (HS.out _ BD.out) ?resta5
  case hya5 => (intro w hSw; have q0 := hSw.1; go_simp; try (with_reducible rfl))
  simp only [Act.put, sT, sZ, sS]
  refine tkH (i := 6) (oi := ⟨some 48, _, _, _, _, _⟩) (v := ?va6) rfl (Or.inl ⟨by rfl, ?hya6⟩) (HS.out _ BD.out) ?resta6
  case hya6 => (intro w hSw; have q0 := hSw.1; go_simp; try (with_reducible rfl))
  simp only [Act.put, sT, sZ, sS]
  refine tkH (i := 7) (oi := ⟨some 49, _, _, _, _, _⟩) (v := ?va7) rfl (Or.inl ⟨by rfl, ?hya7⟩) (HS.out _ BD.out) ?resta7
  case hya7 => (intro w hSw; have q0 := hSw.1; go_simp; try (with_reducible rfl))
  simp only [Act.put, sT, sZ, sS]
  refine tkH (i := 8) (oi := ⟨some 50, _, _, _, _, _⟩) (v := ?va8) rfl (Or.inl ⟨by rfl, ?hya8⟩) (HS.out _ BD.out) ?resta8
  case hya8 => (intro w hSw; have q0 := hSw.1; go_simp; try (with_reducible rfl))
  simp only [Act.put, sT, sZ, sS]
  refine tkH (i := 9) (oi := ⟨some 51, _, _, _, _, _⟩) (v := .agg #[.int .i64 x, .int .i64 y]) rfl (yieldsIf_load_mid (by rfl) 48 (.tmp 50) rfl lb (lo + q * 2) rfl [.int .i64 x, .int .i64 y] _ (fun w h => h.2.2) Tryz.underlying48 rfl refInfoS) (HS.out _ BD.out) ?resta9
  simp only [Act.put, sT, sZ, sS]
  refine anyH_two (i := 10) (j := 14) (o := ⟨some 52, _, _, _, _, _⟩) (u := ⟨some 7, _, _, _, _, _⟩) (by kernel_rfl) rfl rfl (fun K hK => ?_) (fun K hK => ?_)
  ·rw [if_pos (by rfl)]
   go_simp
   refine (rf_free Y1.l.s Y1.l.c (.slice Y1.qa Y1.qn Y1.qc) us x y _ DD.out.puts (by have := HU.out; omega)).mono ?_
   rintro e2 w2 ⟨v', us', rfl, hp, hm, hlen, ⟨hn, hh⟩, hs⟩
   obtain ⟨va, vc, rfl, -, -⟩ := hp.1.lenform
   have B2 := Lib.hid (BD.out.trans (hs.mono BD.out.size))
   have N2 := Lib.hid (hn.lower (w0 := W1) BD.out.size)
   have HM := Lib.hid hm
   have HH := Lib.hid hh
   have LE := Lib.hid hlen
   have K2 := Lib.hid hs
   clear hp hm hn hh hs hlen
   refine hK.out _ _ (HS.out _ B2.out) ?_
   clear hK K
   try simp only [Act.put, sT, sZ, sS]
   refine tkH (i := 11) (oi := ⟨some 41, _, _, _, _, _⟩) (v := ?vb11) rfl (Or.inl ⟨by rfl, ?hyb11⟩) (HS.out _ B2.out) ?restb11
   case hyb11 => (intro w hSw; go_simp; try (with_reducible rfl))
   simp only [Act.put, sT, sZ, sS]
   refine tkH (i := 12) (oi := ⟨some 53, _, _, _, _, _⟩) (v := ?vb12) rfl (Or.inl ⟨by rfl, ?hyb12⟩) (HS.out _ B2.out) ?restb12
   case hyb12 => (intro w hSw; go_simp; try (with_reducible rfl))
   simp only [Act.put, sT, sZ, sS]
   refine tkH (i := 13) (oi := ⟨some 54, _, _, _, _, _⟩) (v := ?vb13) rfl (Or.inl ⟨by rfl, ?hyb13⟩) (HS.out _ B2.out) ?restb13
   case hyb13 => (intro w hSw; go_simp; try (with_reducible rfl))
   simp only [Act.put, sT, sZ, sS]
   have b3 := Lib.hid (alloc_below0 w2 (.cells #[.int .i64 0, .int .i64 0, .slice none 0 0] 35))
   have B3 := Lib.hid (B2.out.trans (b3.out.mono B2.out.size))
   have z3 := Lib.hid (blk_new w2 (.cells #[.int .i64 0, .int .i64 0, .slice none 0 0] 35))
   have N3 := Lib.hid (N2.out.step b3.out)
   refine anyH_one (i := 14) (o := ⟨some 7, _, _, _, _, _⟩) (by kernel_rfl) rfl (fun K hK => ?_)
   rw [if_pos (by rfl)]
   go_simp
   refine hK.out _ _ (HS.out _ B3.out) ?_
   clear hK K
   try simp only [Act.put, sT, sZ, sS]
   refine anyH_one (i := 15) (o := ⟨none, _, _, _, _, _⟩) (by kernel_rfl) rfl (fun K hK => ?_)
   rw [if_pos (by rfl)]
   refine wp_store_to 35 (.tmp 7) (.tmp 53) rfl w2.heap.size 0 (arL Y1 va us'.length vc) rfl rfl ?_ arInfo (arL_one ..) ?_
   ·exact blk_there z3.out (arL Y1 va us'.length vc).length (Nat.le_refl _)
   intro W5 hW5
   have L5 := Lib.hid (show W5.heap[w2.heap.size]? = some (.cells (arL Y1 va us'.length vc).toArray 35 (0, 0)) by rw [hW5]; exact list_laid (arL Y1 va us'.length vc) z3.out rfl)
   have nb := Lib.hid (show W1.heap.size ≤ w2.heap.size by first | exact B2.out.size | exact Nat.le_of_eq SD.out.symm)
   have B5 := Lib.hid (show Below W1.heap.size W1 W5 by rw [hW5]; exact below_setCells nb.out _ 0 _ B3.out)
   have KB := Lib.hid (show Kept (fun j => j = w2.heap.size) (w2.alloc (.cells #[.int .i64 0, .int .i64 0, .slice none 0 0] 35)) W5 by rw [hW5]; exact Kept.setCells _ _ _ (Kept.refl _ _))
   have N5 := Lib.hid (N3.out.off z3.out KB.out)
   clear hW5
   refine hK.out _ _ (HS.out _ B5.out) ?_
   clear hK K
   try simp only [Act.put]
   refine anyH_one (i := 16) (o := ⟨some 8, _, _, _, _, _⟩) (by kernel_rfl) rfl (fun K hK => ?_)
   rw [if_pos (by rfl)]
   go_simp
   refine hK.out _ _ (HS.out _ B5.out) ?_
   clear hK K
   try simp only [Act.put, sT, sZ, sS]
   refine wpAnyH_done (by kernel_rfl) ?_ _
   go_wp2
   go_meet
   case rel => exact ⟨_, va, us'.length, vc, us', rfl, L5.out, nb.out, N5.out, HM.out, LE.out, HH.out, B5.out⟩
  ·rw [if_pos (by rfl)]
   go_simp
   have b3 := Lib.hid (alloc_below0 wd (.cells #[.int .i64 0, .int .i64 0, .slice none 0 0] 35))
   have z3 := Lib.hid (blk_new wd (.cells #[.int .i64 0, .int .i64 0, .slice none 0 0] 35))
   have B3 := Lib.hid (BD.out.trans (b3.out.mono BD.out.size))
   have D3 := Lib.hid (DD.out.low b3.out)
   refine hK.out _ _ (HS.out _ B3.out) ?_
   clear hK K
   try simp only [Act.put, sT, sZ, sS]
   refine anyH_one (i := 10) (o := ⟨some 52, _, _, _, _, _⟩) (by kernel_rfl) rfl (fun K hK => ?_)
   rw [if_pos (by rfl)]
   go_simp
   refine (rf_free Y1.l.s Y1.l.c (.slice Y1.qa Y1.qn Y1.qc) us x y _ D3.out.puts (by have := HU.out; omega)).mono ?_
   rintro e2 w2 ⟨v', us', rfl, hp, hm, hlen, ⟨hn, hh⟩, hs⟩
   obtain ⟨va, vc, rfl, -, -⟩ := hp.1.lenform
   have B2 := Lib.hid (B3.out.trans (hs.mono B3.out.size))
   have N2 := Lib.hid (hn.lower (w0 := W1) B3.out.size)
   have HM := Lib.hid hm
   have HH := Lib.hid hh
   have LE := Lib.hid hlen
   have K2 := Lib.hid hs
   clear hp hm hn hh hs hlen
   refine hK.out _ _ (HS.out _ B2.out) ?_
   clear hK K
   try simp only [Act.put, sT, sZ, sS]
   refine tkH (i := 11) (oi := ⟨some 41, _, _, _, _, _⟩) (v := ?vc11) rfl (Or.inl ⟨by rfl, ?hyc11⟩) (HS.out _ B2.out) ?restc11
   case hyc11 => (intro w hSw; go_simp; try (with_reducible rfl))
   simp only [Act.put, sT, sZ, sS]
   refine tkH (i := 12) (oi := ⟨some 53, _, _, _, _, _⟩) (v := ?vc12) rfl (Or.inl ⟨by rfl, ?hyc12⟩) (HS.out _ B2.out) ?restc12
   case hyc12 => (intro w hSw; go_simp; try (with_reducible rfl))
   simp only [Act.put, sT, sZ, sS]
   refine tkH (i := 13) (oi := ⟨some 54, _, _, _, _, _⟩) (v := ?vc13) rfl (Or.inl ⟨by rfl, ?hyc13⟩) (HS.out _ B2.out) ?restc13
   case hyc13 => (intro w hSw; go_simp; try (with_reducible rfl))
   simp only [Act.put, sT, sZ, sS]
   have z4 := Lib.hid (blk_step z3.out K2.out)
   refine anyH_one (i := 15) (o := ⟨none, _, _, _, _, _⟩) (by kernel_rfl) rfl (fun K hK => ?_)
   rw [if_pos (by rfl)]
   refine wp_store_to 35 (.tmp 7) (.tmp 53) rfl wd.heap.size 0 (arL Y1 va us'.length vc) rfl rfl ?_ arInfo (arL_one ..) ?_
   ·exact blk_there z4.out (arL Y1 va us'.length vc).length (Nat.le_refl _)
   intro W5 hW5
   have L5 := Lib.hid (show W5.heap[wd.heap.size]? = some (.cells (arL Y1 va us'.length vc).toArray 35 (0, 0)) by rw [hW5]; exact list_laid (arL Y1 va us'.length vc) z4.out rfl)
   have nb := Lib.hid (show W1.heap.size ≤ wd.heap.size by first | exact B2.out.size | exact Nat.le_of_eq SD.out.symm)
   have B5 := Lib.hid (show Below W1.heap.size W1 W5 by rw [hW5]; exact below_setCells nb.out _ 0 _ B2.out)
   have KB := Lib.hid (show Kept (fun j => j = wd.heap.size) w2 W5 by rw [hW5]; exact Kept.setCells _ _ _ (Kept.refl _ _))
   have N5 := Lib.hid (N2.out.off z4.out KB.out)
   clear hW5
   refine hK.out _ _ (HS.out _ B5.out) ?_
   clear hK K
   try simp only [Act.put]
   refine anyH_one (i := 16) (o := ⟨some 8, _, _, _, _, _⟩) (by kernel_rfl) rfl (fun K hK => ?_)
   rw [if_pos (by rfl)]
   go_simp
   refine hK.out _ _ (HS.out _ B5.out) ?_
   clear hK K
   try simp only [Act.put, sT, sZ, sS]
   refine wpAnyH_done (by kernel_rfl) ?_ _
   go_wp2
   go_meet
   case rel => exact ⟨_, va, us'.length, vc, us', rfl, L5.out, nb.out, N5.out, HM.out, LE.out, HH.out, B5.out⟩
 case rest =>
  obtain ⟨nb, va, vn, vc, us', rfl, hL, hnb, hn, hm, hle, hh, hs⟩ := hcut
  obtain ⟨W2, hwq⟩ : ∃ x, x = wc := ⟨_, rfl⟩
  subst hwq
  have A2 := Lib.hid (A1.out.low hs)
  have D2 := Lib.hid ((D1.out.low hs).arenaP hn (fun k hk => D1.out.hi k hk) (heirs_read D1.out.rc hh))
  have L2 := Lib.hid hL
  have LE := Lib.hid hle
  have HS2 := Lib.hid (show D.step Y.l X.d ds hd ps L = ({ D with rfs := D.rfs.take q, over := decide (q + D.pgs.length = 0) }, us'.map PuD.pt, L) by rw [HST.out, LR.out, HQ.out, hm, D1.out.am, YL.out]; rfl)
  have CP := Lib.hid (show q + 1 ≤ X.rc by obtain ⟨_, _, e, h2, -⟩ := VR.out.lenform; obtain ⟨-, h3, rfl⟩ := Value.slice.inj e; have := HQ.out; omega)
  clear hL hnb hn hm hle hh hs y0 y1
  have tm := blk_thereN A2.out.m.blk 6 3 (by show 6 + 3 ≤ 15; decide)
  obtain ⟨Y2, hY2⟩ : ∃ x, x = { Y1 with qa := va, qn := vn, qc := vc } := ⟨_, rfl⟩
  rw [← hY2] at D2
  have Y2L := Lib.hid (show Y2.l = Y.l by rw [hY2]; exact YL.out)
  have Y2C := Lib.hid (show Y2.count = IntKind.i64.wrap (Y.count + 1) by rw [hY2]; exact YC.out)
  have HY2 := Lib.hid hY2
  clear hY2
  go_upto_region 9 with (first
   | (refine wpList_load_mid rfl 35 (.tmp 7) rfl nb 0 rfl (arL Y1 va vn vc) _ ?_ Tryz.underlying35 rfl arInfo ?_; exact blk_rng L2.out)
   | (refine wpList_store_to rfl 35 (.tmp 56) (.tmp 55) rfl (w.heap.size + 1) 6 (arL Y1 va vn vc) rfl rfl ?_ arInfo (arL_one ..) ?_; exact tm; intro W3 hW3; have A3 := Lib.hid (show SA w W3 X Y2 by rw [hW3, HY2.out]; exact A2.out.arena va vn vc); have D3 := Lib.hid (show DocS _ W3 _ _ _ _ _ _ _ _ by rw [hW3]; exact D2.out.keep (Kept.setCells _ _ _ (Kept.refl _ _)) boxT.m); clear hW3))
  clear tm D2 A2 L2
  have y1 := A3.out.i.cRfs
  rw [RN.out, HQ.out, ← RA.out] at y1
  have y2 := A3.out.i.free 27
  have c1 : q ≤ X.rc := by have := CP.out; omega
  have c2 : (q : Int) ≤ (X.rc : Int) := by omega
  go_upto_region 13 with (fail)
  have A4 := Lib.hid (A3.out.rfs (some ⟨lb, lo, none⟩) q X.rc)
  obtain ⟨X4, hX4⟩ : ∃ x, x = { X with rn := q } := ⟨_, rfl⟩
  have EX := Lib.hid (show { X with ra := some ⟨lb, lo, none⟩, rn := q, rc := X.rc } = X4 by rw [hX4, RA.out])
  rw [EX.out] at A4
  have D4 := Lib.hid (show DocS _ (W3.setCell ⟨w.heap.size, 27, none⟩ (.slice (some ⟨lb, lo, none⟩) q X.rc)) _ X4 _ _ _ _ _ _ from (D3.out.keep ((Kept.refl _ _).setCell _ _) boxT.i).cutR4 hX4 (by rw [HQ.out]; omega))
  generalize W3.setCell ⟨w.heap.size, 27, none⟩ (.slice (some ⟨lb, lo, none⟩) q X.rc) = W4 at *
  have X4D := Lib.hid (show X4.d = X.d ∧ X4.rn = q ∧ X4.pn = X.pn by rw [hX4]; exact ⟨rfl, rfl, rfl⟩)
  clear y1 y2 hX4
  have y1 := A4.out.i.cRfs
  rw [X4D.out.2.1] at y1
  have y2 := A4.out.i.cPgs
  rw [X4D.out.2.2] at y2
  have y3 := A4.out.i.cOver
  have y4 := A4.out.i.free 23
  have i6 : IntKind.i64.wrap ((q : Int) + (X.pn : Int)) = (q : Int) + (X.pn : Int) := Go.IntWalk.i64_in _ (by have := HL.out; have := PN.out; have := HQ.out; omega)
  go_upto_region 14 with (fail)
  obtain ⟨ob, hob⟩ : ∃ x, x = ((q : Int) + (X.pn : Int) == 0) := ⟨_, rfl⟩
  rw [← hob]
  have OB := Lib.hid (show ob = decide (q + D.pgs.length = 0) by rw [hob, PN.out]; show decide ((q : Int) + (D.pgs.length : Int) = 0) = _; exact decide_eq_decide.2 ⟨fun h => by omega, fun h => by omega⟩)
  clear hob
  have A5 := Lib.hid (A4.out.over ob)
  have D5 := Lib.hid (show DocS _ (W4.setCell ⟨w.heap.size, 23, none⟩ (.bool ob)) _ { X4 with over := ob } _ _ _ _ _ _ from (D4.out.keep ((Kept.refl _ _).setCell _ _) boxT.i).setOver OB.out)
  generalize W4.setCell ⟨w.heap.size, 23, none⟩ (.bool ob) = W5 at *
  obtain ⟨X5, hX5⟩ : ∃ x, x = { X4 with over := ob } := ⟨_, rfl⟩
  rw [← hX5] at A5 D5
  have X5D := Lib.hid (show X5.d = X.d by rw [hX5]; exact X4D.out.1)
  clear hX5 y1 y2 y3 y4
  have A8 := Lib.hid (A5.out.low (Below.refl W5.heap.size W5).drew)
  have D8 := Lib.hid (D5.out.low (Below.refl W5.heap.size W5).drew)
  refine anyH_region (fun w' => DXAt w' w.heap.size X5 ∧ MXAt w' (w.heap.size + 1) Y2) (by kernel_rfl) ?_
  generalize W5.drew = wd at *
  refine tkH (i := 0) (oi := ⟨some 98, _, _, _, _, _⟩) (v := .agg X5.list.toArray) rfl (yieldsIf_load_mid (by rfl) 68 (.tmp 2) rfl w.heap.size 0 rfl X5.list _ (fun w h => h.1.rng) Tryz.underlying68 rfl X5.info) ⟨A8.out.i, A8.out.m⟩ ?reste0
  simp only [Act.put, sT, sZ, sS]
  refine tkH (i := 1) (oi := ⟨some 99, _, _, _, _, _⟩) (v := .agg Y2.list.toArray) rfl (yieldsIf_load_mid (by rfl) 43 (.tmp 3) rfl (w.heap.size + 1) 0 rfl Y2.list _ (fun w h => h.2.rng) Tryz.underlying43 rfl Y2.info) ⟨A8.out.i, A8.out.m⟩ ?reste1
  simp only [Act.put, sT, sZ, sS]
  refine anyH_one (i := 2) (o := ⟨none, _, _, _, _, _⟩) (by kernel_rfl) rfl (fun K hK => ?_)
  rw [if_pos (by rfl)]
  refine wp_store_to 68 (.tmp 4) (.tmp 98) rfl (w.heap.size + 2) 0 X5.list rfl rfl ?_ X5.info X5.one ?_
  ·exact A8.out.ri.there
  intro W8 hW8
  have Q8 := Lib.hid (show SQ w W8 X5 Y2 by rw [hW8]; exact A8.out.ri')
  have D9 := Lib.hid (show DocS _ W8 _ _ _ _ _ _ _ _ by rw [hW8]; exact D8.out.keep (Kept.setCells _ _ _ (Kept.refl _ _)) boxT.ri)
  clear hW8
  refine hK.out _ _ ⟨Q8.out.i, Q8.out.m⟩ ?_
  clear hK K
  try simp only [Act.put]
  refine anyH_one (i := 3) (o := ⟨none, _, _, _, _, _⟩) (by kernel_rfl) rfl (fun K hK => ?_)
  rw [if_pos (by rfl)]
  refine wp_store_to 43 (.tmp 5) (.tmp 99) rfl (w.heap.size + 3) 0 Y2.list rfl rfl ?_ Y2.info Y2.one ?_
  ·exact Q8.out.rm.there
  intro W9 hW9
  have Q9 := Lib.hid (show SR w W9 X5 Y2 ∧ DXAt W9 w.heap.size X5 ∧ MXAt W9 (w.heap.size + 1) Y2 by rw [hW9]; exact Q8.out.rm')
  have DE := Lib.hid (show DocS _ W9 _ _ _ _ _ _ _ _ by rw [hW9]; exact D9.out.keep (Kept.setCells _ _ _ (Kept.refl _ _)) boxT.rm)
  clear hW9
  refine hK.out _ _ Q9.out.2 ?_
  clear hK K
  try simp only [Act.put]
  refine wpAnyH_done (by kernel_rfl) ?_ _
  go_wp2
  refine bodyPost_ret (v := .tuple #[X5.val, Y2.val]) (results_cell2 rfl _ _ (w.heap.size + 2) (w.heap.size + 3) X5.list Y2.list _ _ rfl rfl Q9.out.1.ri.rng Q9.out.1.rm.rng Tryz.underlying68 rfl X5.info Tryz.underlying43 rfl Y2.info) rfl ?_
  exact StepR.mk' HS2.out X5 Y2 us' ups rfl X5D.out Y2L.out (by rw [HO.out, if_neg (by decide)]; exact Y2C.out) DE.out.unbox (by rw [LE.out]; exact Nat.le_succ _) (Nat.le_succ _) Q9.out.1.below
open Go.RowKit
theorem iStep12_give {w0 w : World} {T : Nat → Prop} {X : DX} {Y : MX} {D : DI} {ps : List Pt} {L : List Pg} {us : List PuD} {ups : List Up} (ds : List RecD) (hd : RecD) (hD : DocS w0 w T X Y D ps L us ups) (ho : D.over = false) (hb : D.back = true) (hr : D.rfs.length = 0) (hp : 0 < D.pgs.length) (hl : D.rfs.length ≤ 1000 ∧ D.pgs.length ≤ 1000) (hu : ups.length ≤ 900) :
  Calls Tryz.prog 12 #[X.val, Y.val] w (StepR w0 w T ds hd X Y D ps L us ups) := by
 have HST := Lib.hid (show D.step Y.l X.d ds hd ps L = ({ D with pgs := D.pgs.take (D.pgs.length - 1), over := decide (D.rfs.length + (D.pgs.length - 1) = 0) }, ps, giveL L D.lastP) by unfold DI.step; rw [if_neg (by rw [ho]; decide), if_pos hb, if_neg (by rw [hr]; decide)])
 obtain ⟨q, hq⟩ : ∃ q, D.pgs.length = q + 1 := ⟨D.pgs.length - 1, by omega⟩
 have HQ := Lib.hid hq
 have HR := Lib.hid hr
 have HO := Lib.hid ho
 have HB := Lib.hid hb
 have HL := Lib.hid hl
 have HU := Lib.hid hu
 clear ho hb hr hp hl hu hq
 obtain ⟨W0, hW0⟩ : ∃ W, W = ((((w.alloc (.cells X.list.toArray 68)).alloc (.cells Y.list.toArray 43)).alloc (.cells DX.zero.list.toArray 68)).alloc (.cells MX.zero.list.toArray 43)) := ⟨_, rfl⟩
 have A0 := Lib.hid (show SA w W0 X Y by rw [hW0]; exact SA.start w X Y)
 have D0 := Lib.hid (hD.boxes A0.out.below A0.out.sz)
 have XO := Lib.hid hD.over
 have XB := Lib.hid hD.back
 have XL := Lib.hid hD.links
 have PN := Lib.hid hD.pn
 have RN := Lib.hid hD.rn
 have TLT := Lib.hid hD.hi
 have hzl : DX.zero.list.toArray = #[.int .i64 0, .int .i64 0, .int .i64 0, .int .i64 0, .slice none 0 0, .int .i64 0, .string ⟨#[]⟩, .string ⟨#[]⟩, .bool false, .int .i64 0, .slice none 0 0, .slice none 0 0, .string ⟨#[]⟩, .string ⟨#[]⟩, .int .i64 0, .int .i64 0, .int .i64 0, .string ⟨#[]⟩, .int .i64 0, .int .i64 0, .int .i64 0, .bool false, .bool false, .bool false, .bool false, .int .i64 0, .slice none 0 0, .slice none 0 0, .int .i64 0] := rfl
 have hzm : MX.zero.list.toArray = #[.int .i64 0, .int .i64 0, .int .i64 0, .int .i64 0, .int .i64 0, .int .i64 0, .int .i64 0, .int .i64 0, .slice none 0 0, .int .i64 0, .slice none 0 0, .int .i64 0, .int .i64 0, .slice none 0 0, .int .i64 0] := rfl
 rw [hzl, hzm] at hW0
 clear hzl hzm hD
 unfold DX.val MX.val
 generalize hxl : X.list.toArray = xl at hW0 ⊢
 generalize hyl : Y.list.toArray = yl at hW0 ⊢
 clear hxl hyl
 go_enter Tryz.func12, Tryz.ntmps12
 go_upto_region 1 with (fail)
 rw [← hW0]
 clear hW0
 have y0 := A0.out.i.cOver
 rw [XO.out, HO.out] at y0
 obtain ⟨cnt, hcnt⟩ : ∃ x, x = IntKind.i64.wrap (Y.count + 1) := ⟨_, rfl⟩
 have ic : IntKind.i64.wrap (Y.count + 1) = cnt := hcnt.symm
 have CN := Lib.hid hcnt
 clear hcnt
 have y1 := A0.out.m.cCount
 have y2 := A0.out.m.free 14
 go_upto_region 4 with (fail)
 clear y0 y1 y2 ic
 have A1 := Lib.hid (A0.out.count cnt)
 have D1 := Lib.hid (show DocS _ (W0.setCell ⟨w.heap.size + 1, 14, none⟩ (.int .i64 cnt)) _ _ _ _ _ _ _ _ from (D0.out.keep ((Kept.refl _ _).setCell _ _) boxT.m).count cnt)
 generalize W0.setCell ⟨w.heap.size + 1, 14, none⟩ (.int .i64 cnt) = W1 at *
 obtain ⟨Y1, hY1⟩ : ∃ x, x = { Y with count := cnt } := ⟨_, rfl⟩
 rw [← hY1] at A1 D1
 have YL := Lib.hid (show Y1.l = Y.l by rw [hY1])
 have YC := Lib.hid (show Y1.count = IntKind.i64.wrap (Y.count + 1) by rw [hY1]; exact CN.out)
 clear hY1
 clear D0 A0
 have y0 := A1.out.i.cNews
 go_upto_region 5 with (fail)
 clear y0
 have y0 := A1.out.i.cBack
 rw [XB.out, HB.out] at y0
 have y8 := A1.out.i.cRfs
 rw [RN.out, HR.out] at y8
 have y1 := A1.out.i.cPgs
 rw [PN.out, HQ.out] at y1
 have VR := Lib.hid (show SV lInt W1 (.slice X.pa (q + 1) X.pc) D.pgs by have h := D1.out.pg; rw [PN.out, HQ.out] at h; exact h)
 obtain ⟨ra, hra⟩ : ∃ x, x = X.pa := ⟨_, rfl⟩
 rw [← hra] at VR y1
 have RA := Lib.hid hra
 clear hra
 obtain ⟨lb, lo, rfl⟩ := VR.out.addr (by rw [HQ.out]; omega)
 obtain ⟨x, hx⟩ : ∃ x, D.pgs[q]? = some x := ⟨_, List.getElem?_eq_getElem (by rw [HQ.out]; omega)⟩
 have LR := Lib.hid (show D.lastP = x by unfold DI.lastP; rw [HQ.out, show q + 1 - 1 = q by omega, List.getD_eq_getElem?_getD, hx]; rfl)
 have RG := Lib.hid (show W1.cell? ⟨lb, lo + q, none⟩ = some (.int .i64 x) by simpa [lInt] using VR.out.cellAt (j := 0) hx rfl)
 clear hx
 have i0 : (0 : Int) < (q : Int) + 1 := by omega
 have i1 : IntKind.i64.wrap ((q : Int) + 1 - 1) = (q : Int) := by rw [show (q : Int) + 1 - 1 = q by omega]; exact Go.IntWalk.i64_in _ (by have := HL.out.2; have := HQ.out; omega)
 have i4 : IntKind.i64.wrap (q : Int) = (q : Int) := Go.IntWalk.i64_in _ (by have := HL.out.2; have := HQ.out; omega)
 have i2 : (0 : Int) ≤ (q : Int) := by omega
 have i3 : (q : Int) < (q : Int) + 1 := by omega
 go_upto_region 10 with (fail)
 try simp only [Act.put]
 go_cut [9, 10] from 65 to 78 (fun s7 s8 wc => ∃ (nb : Nat) (va : Option Addr) (vn vc : Nat) (us' : List Up), s7 = .pointer (some ⟨nb, 0, none⟩) ∧ wc.heap[nb]? = some (.cells (tbL Y1 va vn vc).toArray 38 (0, 0)) ∧ W1.heap.size ≤ nb ∧ NewU W1.heap.size wc (.slice Y1.ta Y1.tn Y1.tc) (.slice va vn vc) us' ∧ RefOk us' (giveL L x) ∧ us'.length ≤ ups.length ∧ Below W1.heap.size W1 wc)
 case first =>
  have BD := Lib.hid (Below.refl W1.heap.size W1).drew
  have HS := Lib.hid (show ∀ w', Below W1.heap.size W1 w' → (fun w' => w'.cell? ⟨w.heap.size, 26, none⟩ = some (.slice (some ⟨lb, lo, none⟩) (q + 1) X.pc) ∧ w'.rangeAt (w.heap.size + 1) 9 (tbL Y1 Y1.ta Y1.tn Y1.tc) ∧ w'.cell? ⟨lb, lo + q, none⟩ = some (.int .i64 x)) w' from fun w' h => ⟨cell_step y1 h, rng_step A1.out.m.table h, cell_step RG.out h⟩)
  have DD := Lib.hid (D1.out.low BD.out)
  have SD := Lib.hid (show W1.drew.heap.size = W1.heap.size from rfl)
  refine anyH_region (fun w' => w'.cell? ⟨w.heap.size, 26, none⟩ = some (.slice (some ⟨lb, lo, none⟩) (q + 1) X.pc) ∧ w'.rangeAt (w.heap.size + 1) 9 (tbL Y1 Y1.ta Y1.tn Y1.tc) ∧ w'.cell? ⟨lb, lo + q, none⟩ = some (.int .i64 x)) (by kernel_rfl) ?_
  generalize W1.drew = wd at *
  refine tkH (i := 0) (oi := ⟨some 66, _, _, _, _, _⟩) (v := ?va0) rfl (Or.inl ⟨by rfl, ?hya0⟩) (HS.out _ BD.out) ?resta0
  case hya0 => (intro w hSw; have q0 := hSw.1; go_simp; try (with_reducible rfl))
  simp only [Act.put, sT, sZ, sS]
  refine tkH (i := 1) (oi := ⟨some 67, _, _, _, _, _⟩) (v := .agg (tbL Y1 Y1.ta Y1.tn Y1.tc).toArray) rfl (yieldsIf_load_mid (by rfl) 38 (.tmp 66) rfl (w.heap.size + 1) 9 rfl (tbL Y1 Y1.ta Y1.tn Y1.tc) _ (fun w h => h.2.1) Tryz.underlying38 rfl tbInfo) (HS.out _ BD.out) ?resta1
  simp only [Act.put, sT, sZ, sS]
  refine tkH (i := 2) (oi := ⟨some 68, _, _, _, _, _⟩) (v := ?va2) rfl (Or.inl ⟨by rfl, ?hya2⟩) (HS.out _ BD.out) ?resta2
  case hya2 => (intro w hSw; have q0 := hSw.1; go_simp; try (with_reducible rfl))
  simp only [Act.put, sT, sZ, sS]
  refine tkH (i := 3) (oi := ⟨some 69, _, _, _, _, _⟩) (v := ?va3) rfl (Or.inl ⟨by rfl, ?hya3⟩) (HS.out _ BD.out) ?resta3
  case hya3 => (intro w hSw; have q0 := hSw.1; go_simp; try (with_reducible rfl))
  simp only [Act.put, sT, sZ, sS]
  refine tkH (i := 4) (oi := ⟨some 70, _, _, _, _, _⟩) (v := ?va4) rfl (Or.inl ⟨by rfl, ?hya4⟩) (HS.out _ BD.out) ?resta4
  case hya4 => (intro w hSw; have q0 := hSw.1; go_simp; try (with_reducible rfl))
  simp only [Act.put, sT, sZ, sS]
  refine tkH (i := 5) (oi := ⟨some 71, _, _, _, _, _⟩) (v := ?va5) rfl (Or.inl ⟨by rfl, ?hya5⟩) (HS.out _ BD.out) ?resta5
  case hya5 => (intro w hSw; have q0 := hSw.1; go_simp; try (with_reducible rfl))
  simp only [Act.put, sT, sZ, sS]
  refine tkH (i := 6) (oi := ⟨some 72, _, _, _, _, _⟩) (v := ?va6) rfl (Or.inl ⟨by rfl, ?hya6⟩) (HS.out _ BD.out) ?resta6
  case hya6 => (intro w hSw; have q0 := hSw.1; go_simp; try (with_reducible rfl))
  simp only [Act.put, sT, sZ, sS]
  refine tkH (i := 7) (oi := ⟨some 73, _, _, _, _, _⟩) (v := ?va7) rfl (Or.inl ⟨by rfl, ?hya7⟩) (HS.out _ BD.out) ?resta7
  case hya7 => (intro w hSw; have q0 := hSw.1; go_simp; try (with_reducible rfl))
  simp only [Act.put, sT, sZ, sS]
  refine tkH (i := 8) (oi := ⟨some 74, _, _, _, _, _⟩) (v := ?va8) rfl (Or.inl ⟨by rfl, ?hya8⟩) (HS.out _ BD.out) ?resta8
  case hya8 => (intro w hSw; have q0 := hSw.1; go_simp; try (with_reducible rfl))
  simp only [Act.put, sT, sZ, sS]
  refine tkH (i := 9) (oi := ⟨some 75, _, _, _, _, _⟩) (v := ?va9) rfl (Or.inl ⟨by rfl, ?hya9⟩) (HS.out _ BD.out) ?resta9
  case hya9 => (intro w hSw; have q0 := hSw.1; go_simp; try (with_reducible rfl))
  simp only [Act.put, sT, sZ, sS]
  refine anyH_two (i := 10) (j := 14) (o := ⟨some 76, _, _, _, _, _⟩) (u := ⟨some 9, _, _, _, _, _⟩) (by kernel_rfl) rfl rfl (fun K hK => ?_) (fun K hK => ?_)
  ·rw [if_pos (by rfl)]
   go_simp
   refine (rf_giveN Y1.l.p (.slice Y1.ta Y1.tn Y1.tc) ups L x _ DD.out.tb DD.out.rk DD.out.ln (by have := HU.out; omega)).mono ?_
   rintro e2 w2 ⟨v', us', rfl, hp, hn, hm, hlen, hs⟩
   obtain ⟨va, vc, rfl, -, -⟩ := hp.sv.lenform
   have B2 := Lib.hid (BD.out.trans (hs.mono BD.out.size))
   have N2 := Lib.hid (NewU.lower (m := W1.heap.size) ⟨hp, hn⟩ BD.out.size)
   have HM := Lib.hid hm
   have LE := Lib.hid hlen
   have K2 := Lib.hid hs
   clear hp hm hn hs hlen
   refine hK.out _ _ (HS.out _ B2.out) ?_
   clear hK K
   try simp only [Act.put, sT, sZ, sS]
   refine tkH (i := 11) (oi := ⟨some 65, _, _, _, _, _⟩) (v := ?vb11) rfl (Or.inl ⟨by rfl, ?hyb11⟩) (HS.out _ B2.out) ?restb11
   case hyb11 => (intro w hSw; go_simp; try (with_reducible rfl))
   simp only [Act.put, sT, sZ, sS]
   refine tkH (i := 12) (oi := ⟨some 77, _, _, _, _, _⟩) (v := ?vb12) rfl (Or.inl ⟨by rfl, ?hyb12⟩) (HS.out _ B2.out) ?restb12
   case hyb12 => (intro w hSw; go_simp; try (with_reducible rfl))
   simp only [Act.put, sT, sZ, sS]
   refine tkH (i := 13) (oi := ⟨some 78, _, _, _, _, _⟩) (v := ?vb13) rfl (Or.inl ⟨by rfl, ?hyb13⟩) (HS.out _ B2.out) ?restb13
   case hyb13 => (intro w hSw; go_simp; try (with_reducible rfl))
   simp only [Act.put, sT, sZ, sS]
   have b3 := Lib.hid (alloc_below0 w2 (.cells #[.int .i64 0, .slice none 0 0] 38))
   have B3 := Lib.hid (B2.out.trans (b3.out.mono B2.out.size))
   have z3 := Lib.hid (blk_new w2 (.cells #[.int .i64 0, .slice none 0 0] 38))
   have N3 := Lib.hid (N2.out.step b3.out)
   refine anyH_one (i := 14) (o := ⟨some 9, _, _, _, _, _⟩) (by kernel_rfl) rfl (fun K hK => ?_)
   rw [if_pos (by rfl)]
   go_simp
   refine hK.out _ _ (HS.out _ B3.out) ?_
   clear hK K
   try simp only [Act.put, sT, sZ, sS]
   refine anyH_one (i := 15) (o := ⟨none, _, _, _, _, _⟩) (by kernel_rfl) rfl (fun K hK => ?_)
   rw [if_pos (by rfl)]
   refine wp_store_to 38 (.tmp 9) (.tmp 77) rfl w2.heap.size 0 (tbL Y1 va us'.length vc) rfl rfl ?_ tbInfo (tbL_one ..) ?_
   ·exact blk_there z3.out (tbL Y1 va us'.length vc).length (Nat.le_refl _)
   intro W5 hW5
   have L5 := Lib.hid (show W5.heap[w2.heap.size]? = some (.cells (tbL Y1 va us'.length vc).toArray 38 (0, 0)) by rw [hW5]; exact list_laid (tbL Y1 va us'.length vc) z3.out rfl)
   have nb := Lib.hid (show W1.heap.size ≤ w2.heap.size by first | exact B2.out.size | exact Nat.le_of_eq SD.out.symm)
   have B5 := Lib.hid (show Below W1.heap.size W1 W5 by rw [hW5]; exact below_setCells nb.out _ 0 _ B3.out)
   have KB := Lib.hid (show Kept (fun j => j = w2.heap.size) (w2.alloc (.cells #[.int .i64 0, .slice none 0 0] 38)) W5 by rw [hW5]; exact Kept.setCells _ _ _ (Kept.refl _ _))
   have N5 := Lib.hid (N3.out.off z3.out KB.out)
   clear hW5
   refine hK.out _ _ (HS.out _ B5.out) ?_
   clear hK K
   try simp only [Act.put]
   refine anyH_one (i := 16) (o := ⟨some 10, _, _, _, _, _⟩) (by kernel_rfl) rfl (fun K hK => ?_)
   rw [if_pos (by rfl)]
   go_simp
   refine hK.out _ _ (HS.out _ B5.out) ?_
   clear hK K
   try simp only [Act.put, sT, sZ, sS]
   refine wpAnyH_done (by kernel_rfl) ?_ _
   go_wp2
   go_meet
   case rel => exact ⟨_, va, us'.length, vc, us', rfl, L5.out, nb.out, N5.out, HM.out, LE.out, B5.out⟩
  ·rw [if_pos (by rfl)]
   go_simp
   have b3 := Lib.hid (alloc_below0 wd (.cells #[.int .i64 0, .slice none 0 0] 38))
   have z3 := Lib.hid (blk_new wd (.cells #[.int .i64 0, .slice none 0 0] 38))
   have B3 := Lib.hid (BD.out.trans (b3.out.mono BD.out.size))
   have D3 := Lib.hid (DD.out.low b3.out)
   refine hK.out _ _ (HS.out _ B3.out) ?_
   clear hK K
   try simp only [Act.put, sT, sZ, sS]
   refine anyH_one (i := 10) (o := ⟨some 76, _, _, _, _, _⟩) (by kernel_rfl) rfl (fun K hK => ?_)
   rw [if_pos (by rfl)]
   go_simp
   refine (rf_giveN Y1.l.p (.slice Y1.ta Y1.tn Y1.tc) ups L x _ D3.out.tb D3.out.rk D3.out.ln (by have := HU.out; omega)).mono ?_
   rintro e2 w2 ⟨v', us', rfl, hp, hn, hm, hlen, hs⟩
   obtain ⟨va, vc, rfl, -, -⟩ := hp.sv.lenform
   have B2 := Lib.hid (B3.out.trans (hs.mono B3.out.size))
   have N2 := Lib.hid (NewU.lower (m := W1.heap.size) ⟨hp, hn⟩ B3.out.size)
   have HM := Lib.hid hm
   have LE := Lib.hid hlen
   have K2 := Lib.hid hs
   clear hp hm hn hs hlen
   refine hK.out _ _ (HS.out _ B2.out) ?_
   clear hK K
   try simp only [Act.put, sT, sZ, sS]
   refine tkH (i := 11) (oi := ⟨some 65, _, _, _, _, _⟩) (v := ?vc11) rfl (Or.inl ⟨by rfl, ?hyc11⟩) (HS.out _ B2.out) ?restc11
   case hyc11 => (intro w hSw; go_simp; try (with_reducible rfl))
   simp only [Act.put, sT, sZ, sS]
   refine tkH (i := 12) (oi := ⟨some 77, _, _, _, _, _⟩) (v := ?vc12) rfl (Or.inl ⟨by rfl, ?hyc12⟩) (HS.out _ B2.out) ?restc12
   case hyc12 => (intro w hSw; go_simp; try (with_reducible rfl))
   simp only [Act.put, sT, sZ, sS]
   refine tkH (i := 13) (oi := ⟨some 78, _, _, _, _, _⟩) (v := ?vc13) rfl (Or.inl ⟨by rfl, ?hyc13⟩) (HS.out _ B2.out) ?restc13
   case hyc13 => (intro w hSw; go_simp; try (with_reducible rfl))
   simp only [Act.put, sT, sZ, sS]
   have z4 := Lib.hid (blk_step z3.out K2.out)
   refine anyH_one (i := 15) (o := ⟨none, _, _, _, _, _⟩) (by kernel_rfl) rfl (fun K hK => ?_)
   rw [if_pos (by rfl)]
   refine wp_store_to 38 (.tmp 9) (.tmp 77) rfl wd.heap.size 0 (tbL Y1 va us'.length vc) rfl rfl ?_ tbInfo (tbL_one ..) ?_
   ·exact blk_there z4.out (tbL Y1 va us'.length vc).length (Nat.le_refl _)
   intro W5 hW5
   have L5 := Lib.hid (show W5.heap[wd.heap.size]? = some (.cells (tbL Y1 va us'.length vc).toArray 38 (0, 0)) by rw [hW5]; exact list_laid (tbL Y1 va us'.length vc) z4.out rfl)
   have nb := Lib.hid (show W1.heap.size ≤ wd.heap.size by first | exact B2.out.size | exact Nat.le_of_eq SD.out.symm)
   have B5 := Lib.hid (show Below W1.heap.size W1 W5 by rw [hW5]; exact below_setCells nb.out _ 0 _ B2.out)
   have KB := Lib.hid (show Kept (fun j => j = wd.heap.size) w2 W5 by rw [hW5]; exact Kept.setCells _ _ _ (Kept.refl _ _))
   have N5 := Lib.hid (N2.out.off z4.out KB.out)
   clear hW5
   refine hK.out _ _ (HS.out _ B5.out) ?_
   clear hK K
   try simp only [Act.put]
   refine anyH_one (i := 16) (o := ⟨some 10, _, _, _, _, _⟩) (by kernel_rfl) rfl (fun K hK => ?_)
   rw [if_pos (by rfl)]
   go_simp
   refine hK.out _ _ (HS.out _ B5.out) ?_
   clear hK K
   try simp only [Act.put, sT, sZ, sS]
   refine wpAnyH_done (by kernel_rfl) ?_ _
   go_wp2
   go_meet
   case rel => exact ⟨_, va, us'.length, vc, us', rfl, L5.out, nb.out, N5.out, HM.out, LE.out, B5.out⟩
 case rest =>
  obtain ⟨nb, va, vn, vc, us', rfl, hL, hnb, hn, hm, hle, hs⟩ := hcut
  obtain ⟨W2, hwq⟩ : ∃ x, x = wc := ⟨_, rfl⟩
  subst hwq
  have A2 := Lib.hid (A1.out.low hs)
  have D2 := Lib.hid ((D1.out.low hs).tableP hn (fun k hk => D1.out.hi k hk) hm (by rw [giveL_len]))
  have L2 := Lib.hid hL
  have LE := Lib.hid hle
  have HS2 := Lib.hid (show D.step Y.l X.d ds hd ps L = ({ D with pgs := D.pgs.take q, over := decide (D.rfs.length + q = 0) }, ps, giveL L x) by rw [HST.out, LR.out, HQ.out]; rfl)
  have CP := Lib.hid (show q + 1 ≤ X.pc by obtain ⟨_, _, e, h2, -⟩ := VR.out.lenform; obtain ⟨-, h3, rfl⟩ := Value.slice.inj e; have := HQ.out; omega)
  clear hL hnb hn hm hle hs y0 y1 y8
  have tm := blk_thereN A2.out.m.blk 9 2 (by show 9 + 2 ≤ 15; decide)
  obtain ⟨Y2, hY2⟩ : ∃ x, x = { Y1 with ta := va, tn := vn, tc := vc } := ⟨_, rfl⟩
  rw [← hY2] at D2
  have Y2L := Lib.hid (show Y2.l = Y.l by rw [hY2]; exact YL.out)
  have Y2C := Lib.hid (show Y2.count = IntKind.i64.wrap (Y.count + 1) by rw [hY2]; exact YC.out)
  have HY2 := Lib.hid hY2
  clear hY2
  go_upto_region 12 with (first
   | (refine wpList_load_mid rfl 38 (.tmp 9) rfl nb 0 rfl (tbL Y1 va vn vc) _ ?_ Tryz.underlying38 rfl tbInfo ?_; exact blk_rng L2.out)
   | (refine wpList_store_to rfl 38 (.tmp 80) (.tmp 79) rfl (w.heap.size + 1) 9 (tbL Y1 va vn vc) rfl rfl ?_ tbInfo (tbL_one ..) ?_; exact tm; intro W3 hW3; have A3 := Lib.hid (show SA w W3 X Y2 by rw [hW3, HY2.out]; exact A2.out.table va vn vc); have D3 := Lib.hid (show DocS _ W3 _ _ _ _ _ _ _ _ by rw [hW3]; exact D2.out.keep (Kept.setCells _ _ _ (Kept.refl _ _)) boxT.m); clear hW3))
  clear tm D2 A2 L2
  have y1 := A3.out.i.cPgs
  rw [PN.out, HQ.out, ← RA.out] at y1
  have y2 := A3.out.i.free 26
  have c1 : q ≤ X.pc := by have := CP.out; omega
  have c2 : (q : Int) ≤ (X.pc : Int) := by omega
  go_upto_region 13 with (fail)
  have A4 := Lib.hid (A3.out.pgs (some ⟨lb, lo, none⟩) q X.pc)
  obtain ⟨X4, hX4⟩ : ∃ x, x = { X with pn := q } := ⟨_, rfl⟩
  have EX := Lib.hid (show { X with pa := some ⟨lb, lo, none⟩, pn := q, pc := X.pc } = X4 by rw [hX4, RA.out])
  rw [EX.out] at A4
  have D4 := Lib.hid (show DocS _ (W3.setCell ⟨w.heap.size, 26, none⟩ (.slice (some ⟨lb, lo, none⟩) q X.pc)) _ X4 _ _ _ _ _ _ from (D3.out.keep ((Kept.refl _ _).setCell _ _) boxT.i).cutP4 hX4 (by rw [HQ.out]; omega))
  generalize W3.setCell ⟨w.heap.size, 26, none⟩ (.slice (some ⟨lb, lo, none⟩) q X.pc) = W4 at *
  have X4D := Lib.hid (show X4.d = X.d ∧ X4.rn = X.rn ∧ X4.pn = q by rw [hX4]; exact ⟨rfl, rfl, rfl⟩)
  clear y1 y2 hX4
  have y1 := A4.out.i.cRfs
  rw [X4D.out.2.1, RN.out, HR.out] at y1
  have y2 := A4.out.i.cPgs
  rw [X4D.out.2.2] at y2
  have y3 := A4.out.i.cOver
  have y4 := A4.out.i.free 23
  have i6 : IntKind.i64.wrap (q : Int) = (q : Int) := Go.IntWalk.i64_in _ (by have := HL.out; have := HQ.out; omega)
  go_upto_region 14 with (fail)
  obtain ⟨ob, hob⟩ : ∃ x, x = ((q : Int) == 0) := ⟨_, rfl⟩
  rw [← hob]
  have OB := Lib.hid (show ob = decide (D.rfs.length + q = 0) by rw [hob, HR.out]; show decide ((q : Int) = 0) = _; exact decide_eq_decide.2 ⟨fun h => by omega, fun h => by omega⟩)
  clear hob
  have A5 := Lib.hid (A4.out.over ob)
  have D5 := Lib.hid (show DocS _ (W4.setCell ⟨w.heap.size, 23, none⟩ (.bool ob)) _ { X4 with over := ob } _ _ _ _ _ _ from (D4.out.keep ((Kept.refl _ _).setCell _ _) boxT.i).setOver OB.out)
  generalize W4.setCell ⟨w.heap.size, 23, none⟩ (.bool ob) = W5 at *
  obtain ⟨X5, hX5⟩ : ∃ x, x = { X4 with over := ob } := ⟨_, rfl⟩
  rw [← hX5] at A5 D5
  have X5D := Lib.hid (show X5.d = X.d by rw [hX5]; exact X4D.out.1)
  clear hX5 y1 y2 y3 y4
  have A8 := Lib.hid (A5.out.low (Below.refl W5.heap.size W5).drew)
  have D8 := Lib.hid (D5.out.low (Below.refl W5.heap.size W5).drew)
  refine anyH_region (fun w' => DXAt w' w.heap.size X5 ∧ MXAt w' (w.heap.size + 1) Y2) (by kernel_rfl) ?_
  generalize W5.drew = wd at *
  refine tkH (i := 0) (oi := ⟨some 98, _, _, _, _, _⟩) (v := .agg X5.list.toArray) rfl (yieldsIf_load_mid (by rfl) 68 (.tmp 2) rfl w.heap.size 0 rfl X5.list _ (fun w h => h.1.rng) Tryz.underlying68 rfl X5.info) ⟨A8.out.i, A8.out.m⟩ ?reste0
  simp only [Act.put, sT, sZ, sS]
  refine tkH (i := 1) (oi := ⟨some 99, _, _, _, _, _⟩) (v := .agg Y2.list.toArray) rfl (yieldsIf_load_mid (by rfl) 43 (.tmp 3) rfl (w.heap.size + 1) 0 rfl Y2.list _ (fun w h => h.2.rng) Tryz.underlying43 rfl Y2.info) ⟨A8.out.i, A8.out.m⟩ ?reste1
  simp only [Act.put, sT, sZ, sS]
  refine anyH_one (i := 2) (o := ⟨none, _, _, _, _, _⟩) (by kernel_rfl) rfl (fun K hK => ?_)
  rw [if_pos (by rfl)]
  refine wp_store_to 68 (.tmp 4) (.tmp 98) rfl (w.heap.size + 2) 0 X5.list rfl rfl ?_ X5.info X5.one ?_
  ·exact A8.out.ri.there
  intro W8 hW8
  have Q8 := Lib.hid (show SQ w W8 X5 Y2 by rw [hW8]; exact A8.out.ri')
  have D9 := Lib.hid (show DocS _ W8 _ _ _ _ _ _ _ _ by rw [hW8]; exact D8.out.keep (Kept.setCells _ _ _ (Kept.refl _ _)) boxT.ri)
  clear hW8
  refine hK.out _ _ ⟨Q8.out.i, Q8.out.m⟩ ?_
  clear hK K
  try simp only [Act.put]
  refine anyH_one (i := 3) (o := ⟨none, _, _, _, _, _⟩) (by kernel_rfl) rfl (fun K hK => ?_)
  rw [if_pos (by rfl)]
  refine wp_store_to 43 (.tmp 5) (.tmp 99) rfl (w.heap.size + 3) 0 Y2.list rfl rfl ?_ Y2.info Y2.one ?_
  ·exact Q8.out.rm.there
  intro W9 hW9
  have Q9 := Lib.hid (show SR w W9 X5 Y2 ∧ DXAt W9 w.heap.size X5 ∧ MXAt W9 (w.heap.size + 1) Y2 by rw [hW9]; exact Q8.out.rm')
  have DE := Lib.hid (show DocS _ W9 _ _ _ _ _ _ _ _ by rw [hW9]; exact D9.out.keep (Kept.setCells _ _ _ (Kept.refl _ _)) boxT.rm)
  clear hW9
  refine hK.out _ _ Q9.out.2 ?_
  clear hK K
  try simp only [Act.put]
  refine wpAnyH_done (by kernel_rfl) ?_ _
  go_wp2
  refine bodyPost_ret (v := .tuple #[X5.val, Y2.val]) (results_cell2 rfl _ _ (w.heap.size + 2) (w.heap.size + 3) X5.list Y2.list _ _ rfl rfl Q9.out.1.ri.rng Q9.out.1.rm.rng Tryz.underlying68 rfl X5.info Tryz.underlying43 rfl Y2.info) rfl ?_
  exact StepR.mk' HS2.out X5 Y2 us us' rfl X5D.out Y2L.out (by rw [HO.out, if_neg (by decide)]; exact Y2C.out) DE.out.unbox (Nat.le_succ _) (Nat.le_succ_of_le LE.out) Q9.out.1.below
open Go.RowKit
theorem iStep12_swapS {w0 w : World} {T : Nat → Prop} {X : DX} {Y : MX} {D : DI} {ps : List Pt} {L : List Pg} {us : List PuD} {ups : List Up} (ds : List RecD) (hd : RecD) (hD : DocS w0 w T X Y D ps L us ups) {n s : Nat} (ho : D.over = false) (hb : D.back = false) (hn : X.d.news = (n : Int)) (hp : D.pgs.length = n) (hr : D.rfs.length = n) (hk : D.links = (s : Int)) (hs : s < n) (hl : n ≤ 900) (hu : ups.length ≤ 900) :
  Calls Tryz.prog 12 #[X.val, Y.val] w (StepR w0 w T ds hd X Y D ps L us ups) := by
 have HST := Lib.hid (show D.step Y.l X.d ds hd ps L = (if swapB L (D.spage X.d) (D.sold X.d) = true then { D with links := (s : Int) + 1 } else D.backE (codeT L (D.spage X.d)), ps, swapL L (D.spage X.d) (D.sold X.d) D.shead) by unfold DI.step; rw [if_neg (by rw [ho]; decide), if_neg (by rw [hb]; decide), if_neg (by rw [hp, hn]; omega), if_neg (by rw [hr, hk, hn]; omega), if_neg (show ¬ D.links = X.d.news by rw [hk, hn]; omega), hk])
 have HN := Lib.hid hn
 have HPL := Lib.hid hp
 have HRL := Lib.hid hr
 have HK := Lib.hid hk
 have HO := Lib.hid ho
 have HB := Lib.hid hb
 have HL := Lib.hid hl
 have HU := Lib.hid hu
 have HBL := Lib.hid (show X.rn ≤ 1000 ∧ X.pn ≤ 1000 by rw [hD.pn, hD.rn]; omega)
 have HSN := Lib.hid hs
 have XS := Lib.hid (show D.sold X.d = (0, 0) by unfold DI.sold; rw [if_pos (by rw [hk, hn]; omega)])
 obtain ⟨x, hx⟩ : ∃ x, D.pgs[s]? = some x := ⟨_, List.getElem?_eq_getElem (by omega)⟩
 have XP := Lib.hid (show D.spage X.d = x by unfold DI.spage; rw [if_pos (by rw [hk, hn]; omega), hk, Int.toNat_natCast, List.getD_eq_getElem?_getD, hx]; rfl)
 have HX := Lib.hid hx
 clear hx
 obtain ⟨a, b, hab⟩ : ∃ a b, D.rfs[s]? = some (a, b) := ⟨_, _, List.getElem?_eq_getElem (by omega)⟩
 have XH := Lib.hid (show D.shead = (a, b) from shead_at (by rw [hk, Int.toNat_natCast]; omega) hab)
 have HAB := Lib.hid hab
 clear hab hn hp hr hk ho hb hl hu hs
 obtain ⟨W0, hW0⟩ : ∃ W, W = ((((w.alloc (.cells X.list.toArray 68)).alloc (.cells Y.list.toArray 43)).alloc (.cells DX.zero.list.toArray 68)).alloc (.cells MX.zero.list.toArray 43)) := ⟨_, rfl⟩
 have A0 := Lib.hid (show SA w W0 X Y by rw [hW0]; exact SA.start w X Y)
 have D0 := Lib.hid (hD.boxes A0.out.below A0.out.sz)
 have XO := Lib.hid hD.over
 have XB := Lib.hid hD.back
 have XL := Lib.hid hD.links
 have PN := Lib.hid hD.pn
 have RN := Lib.hid hD.rn
 have TLT := Lib.hid hD.hi
 have hzl : DX.zero.list.toArray = #[.int .i64 0, .int .i64 0, .int .i64 0, .int .i64 0, .slice none 0 0, .int .i64 0, .string ⟨#[]⟩, .string ⟨#[]⟩, .bool false, .int .i64 0, .slice none 0 0, .slice none 0 0, .string ⟨#[]⟩, .string ⟨#[]⟩, .int .i64 0, .int .i64 0, .int .i64 0, .string ⟨#[]⟩, .int .i64 0, .int .i64 0, .int .i64 0, .bool false, .bool false, .bool false, .bool false, .int .i64 0, .slice none 0 0, .slice none 0 0, .int .i64 0] := rfl
 have hzm : MX.zero.list.toArray = #[.int .i64 0, .int .i64 0, .int .i64 0, .int .i64 0, .int .i64 0, .int .i64 0, .int .i64 0, .int .i64 0, .slice none 0 0, .int .i64 0, .slice none 0 0, .int .i64 0, .int .i64 0, .slice none 0 0, .int .i64 0] := rfl
 rw [hzl, hzm] at hW0
 clear hzl hzm hD
 unfold DX.val MX.val
 generalize hxl : X.list.toArray = xl at hW0 ⊢
 generalize hyl : Y.list.toArray = yl at hW0 ⊢
 clear hxl hyl
 go_enter Tryz.func12, Tryz.ntmps12
 go_upto_region 1 with (fail)
 rw [← hW0]
 clear hW0
 have y0 := A0.out.i.cOver
 rw [XO.out, HO.out] at y0
 obtain ⟨cnt, hcnt⟩ : ∃ x, x = IntKind.i64.wrap (Y.count + 1) := ⟨_, rfl⟩
 have ic : IntKind.i64.wrap (Y.count + 1) = cnt := hcnt.symm
 have CN := Lib.hid hcnt
 clear hcnt
 have y1 := A0.out.m.cCount
 have y2 := A0.out.m.free 14
 go_upto_region 4 with (fail)
 clear y0 y1 y2 ic
 have A1 := Lib.hid (A0.out.count cnt)
 have D1 := Lib.hid (show DocS _ (W0.setCell ⟨w.heap.size + 1, 14, none⟩ (.int .i64 cnt)) _ _ _ _ _ _ _ _ from (D0.out.keep ((Kept.refl _ _).setCell _ _) boxT.m).count cnt)
 generalize W0.setCell ⟨w.heap.size + 1, 14, none⟩ (.int .i64 cnt) = W1 at *
 obtain ⟨Y1, hY1⟩ : ∃ x, x = { Y with count := cnt } := ⟨_, rfl⟩
 rw [← hY1] at A1 D1
 have YL := Lib.hid (show Y1.l = Y.l by rw [hY1])
 have YC := Lib.hid (show Y1.count = IntKind.i64.wrap (Y.count + 1) by rw [hY1]; exact CN.out)
 clear hY1
 clear D0 A0
 have y0 := A1.out.i.cNews
 rw [HN.out] at y0
 go_upto_region 5 with (fail)
 clear y0
 have y0 := A1.out.i.cBack
 rw [XB.out, HB.out] at y0
 have y1 := A1.out.i.cPgs
 rw [PN.out, HPL.out] at y1
 have y2 := A1.out.i.cRfs
 rw [RN.out, HRL.out] at y2
 have y3 := A1.out.i.cLinks
 rw [XL.out, HK.out] at y3
 have isn : ((s : Int) == (n : Int)) = false := by have := HSN.out; simp; omega
 have isn2 : ¬ (s : Int) = (n : Int) := by have := HSN.out; omega
 go_upto_region 32 with (fail)
 have y4 := A1.out.i.cPage
 go_upto_region 33 with (fail)
 have g0 := A1.out.i.old
 have TA1 := Lib.hid (show (W1.alloc (.cells #[.int .i64 0, .int .i64 0] 48)).there W1.heap.size 0 2 from blk_there (blk_new W1 _) 2 (Nat.le_refl _))
 have LA1 := Lib.hid (show ((W1.alloc (.cells #[.int .i64 0, .int .i64 0] 48)).setCells W1.heap.size 0 [.int .i64 X.d.os, .int .i64 X.d.og]).heap[W1.heap.size]? = some (.cells ([.int .i64 X.d.os, .int .i64 X.d.og] : List Value).toArray 48 (0, 0)) from list_laid [.int .i64 X.d.os, .int .i64 X.d.og] (blk_new W1 _) rfl)
 have BA1 := Lib.hid (show Below W1.heap.size W1 ((W1.alloc (.cells #[.int .i64 0, .int .i64 0] 48)).setCells W1.heap.size 0 [.int .i64 X.d.os, .int .i64 X.d.og]) from below_setCells (Nat.le_refl _) _ 0 _ (alloc_below0 W1 _))
 have SA1 := Lib.hid (show (W1.alloc (.cells #[.int .i64 0, .int .i64 0] 48)).heap.size = W1.heap.size + 1 by simp)
 go_upto_region 34 with (first
  | (refine wpList_load_mid rfl 48 (.tmp 190) rfl w.heap.size 1 rfl [.int .i64 X.d.os, .int .i64 X.d.og] _ ?_ Tryz.underlying48 rfl refInfoS ?_; exact g0)
  | (refine wpList_store_to rfl 48 (.tmp 19) (.tmp 191) rfl W1.heap.size 0 [.int .i64 X.d.os, .int .i64 X.d.og] rfl rfl ?_ refInfoS (xy_one ..) ?_; exact TA1.out; intro Wa hWa; have La := Lib.hid (show Wa.heap[W1.heap.size]? = some (.cells ([.int .i64 X.d.os, .int .i64 X.d.og] : List Value).toArray 48 (0, 0)) by rw [hWa]; exact LA1.out); have Ba := Lib.hid (show Below W1.heap.size W1 Wa by rw [hWa]; exact BA1.out); clear hWa))
 clear g0 TA1 LA1 BA1 SA1 y0 y1 y2 y3 y4
 have Aa := Lib.hid (A1.out.low Ba.out)
 have Da := Lib.hid (D1.out.low Ba.out)
 have SZa := Lib.hid (show W1.heap.size < Wa.heap.size from (Array.getElem?_eq_some_iff.1 La.out).1)
 have y3 := Aa.out.i.cLinks
 rw [XL.out, HK.out] at y3
 have y1 := Aa.out.i.cPgs
 rw [PN.out, HPL.out] at y1
 have VP := Lib.hid (show SV lInt Wa (.slice X.pa n X.pc) D.pgs by have h := Da.out.pg; rw [PN.out, HPL.out] at h; exact h)
 obtain ⟨pa, hpa⟩ : ∃ x, x = X.pa := ⟨_, rfl⟩
 rw [← hpa] at VP y1
 clear hpa
 obtain ⟨lb, lo, rfl⟩ := VP.out.addr (by rw [HPL.out]; have := HSN.out; omega)
 have y5 : Wa.cell? ⟨lb, lo + s, none⟩ = some (.int .i64 x) := by simpa [lInt] using VP.out.cellAt (j := 0) HX.out rfl
 have j1 : (s : Int) < (n : Int) := by have := HSN.out; omega
 have j2 : (0 : Int) ≤ (s : Int) := by omega
 go_upto_region 36 with (fail)
 clear y1 y3 y5
 go_upto_region 37 with (refine wpList_store_to rfl 48 (.tmp 19) (.tmp 202) rfl W1.heap.size 0 [.int .i64 0, .int .i64 0] rfl rfl ?_ refInfoS (xy_one ..) ?_; exact blk_there La.out 2 (Nat.le_refl _); intro Wb hWb; have Lb := Lib.hid (show Wb.heap[W1.heap.size]? = some (.cells ([.int .i64 0, .int .i64 0] : List Value).toArray 48 (0, 0)) by rw [hWb]; exact list_laid [.int .i64 0, .int .i64 0] La.out rfl); have Bb := Lib.hid (show Below W1.heap.size W1 Wb by rw [hWb]; exact below_setCells (Nat.le_refl _) _ 0 _ Ba.out); clear hWb)
 have Ab := Lib.hid (A1.out.low Bb.out)
 have Db := Lib.hid (D1.out.low Bb.out)
 have y2 := Ab.out.i.cRfs
 rw [RN.out, HRL.out] at y2
 have y3 := Ab.out.i.cLinks
 rw [XL.out, HK.out] at y3
 have VR := Lib.hid (show SV lRef Wb (.slice X.ra n X.rc) D.rfs by have h := Db.out.rf; rw [RN.out, HRL.out] at h; exact h)
 obtain ⟨ra, hra⟩ : ∃ x, x = X.ra := ⟨_, rfl⟩
 rw [← hra] at VR y2
 clear hra
 obtain ⟨mb, mo, rfl⟩ := VR.out.addr (by rw [HRL.out]; have := HSN.out; omega)
 have RG := Lib.hid (show Wb.rangeAt mb (mo + s * 2) [.int .i64 a, .int .i64 b] from VR.out.range HAB.out)
 have k0 : (0 : Int) ≤ (s : Int) := by omega
 have k1 : (s : Int) < (n : Int) := by have := HSN.out; omega
 have k2 : IntKind.i64.wrap ((n : Int) - 1) = (n : Int) - 1 := Go.IntWalk.i64_in _ (by have := HL.out; have := HSN.out; omega)
 have k3 : min (s : Int) ((n : Int) - 1) = (s : Int) := by have := HSN.out; omega
 have k4 : ¬ (n : Int) - 1 < (s : Int) := by have := HSN.out; omega
 have k5 : (s : Int) ≤ (n : Int) - 1 := by have := HSN.out; omega
 have TC1 := Lib.hid (show (Wb.alloc (.cells #[.int .i64 0, .int .i64 0] 48)).there Wb.heap.size 0 2 from blk_there (blk_new Wb _) 2 (Nat.le_refl _))
 have LC1 := Lib.hid (show ((Wb.alloc (.cells #[.int .i64 0, .int .i64 0] 48)).setCells Wb.heap.size 0 [.int .i64 a, .int .i64 b]).heap[Wb.heap.size]? = some (.cells ([.int .i64 a, .int .i64 b] : List Value).toArray 48 (0, 0)) from list_laid [.int .i64 a, .int .i64 b] (blk_new Wb _) rfl)
 have BC1 := Lib.hid (show Below Wb.heap.size Wb ((Wb.alloc (.cells #[.int .i64 0, .int .i64 0] 48)).setCells Wb.heap.size 0 [.int .i64 a, .int .i64 b]) from below_setCells (Nat.le_refl _) _ 0 _ (alloc_below0 Wb _))
 go_upto_region 38 with (first
  | (refine wpList_load_mid rfl 48 (.tmp 212) rfl mb (mo + s * 2) rfl [.int .i64 a, .int .i64 b] _ ?_ Tryz.underlying48 rfl refInfoS ?_; exact RG.out)
  | (refine wpList_store_to rfl 48 (.tmp 20) (.tmp 213) rfl Wb.heap.size 0 [.int .i64 a, .int .i64 b] rfl rfl ?_ refInfoS (xy_one ..) ?_; exact TC1.out; intro Wc hWc; have Lc := Lib.hid (show Wc.heap[Wb.heap.size]? = some (.cells ([.int .i64 a, .int .i64 b] : List Value).toArray 48 (0, 0)) by rw [hWc]; exact LC1.out); have Bc := Lib.hid (show Below Wb.heap.size Wb Wc by rw [hWc]; exact BC1.out); clear hWc))
 have Ac := Lib.hid (Ab.out.low Bc.out)
 have Dc := Lib.hid (Db.out.low Bc.out)
 have Lo := Lib.hid (blk_step Lb.out Bc.out)
 clear TC1 LC1 BC1 y2 y3 RG k0 k1 k2 k3 k4 k5
 have g1 := Ac.out.m.table
 go_wp2_with (first
  | (refine wpList_load_mid rfl 38 (.tmp 215) rfl (w.heap.size + 1) 9 rfl (tbL Y1 Y1.ta Y1.tn Y1.tc) _ ?_ Tryz.underlying38 rfl tbInfo ?_; exact g1)
  | (refine wpList_load_mid rfl 48 (.tmp 19) rfl W1.heap.size 0 rfl [.int .i64 0, .int .i64 0] _ ?_ Tryz.underlying48 rfl refInfoS ?_; exact blk_rng Lo.out)
  | (refine wpList_load_mid rfl 48 (.tmp 20) rfl Wb.heap.size 0 rfl [.int .i64 a, .int .i64 b] _ ?_ Tryz.underlying48 rfl refInfoS ?_; exact blk_rng Lc.out))
 refine (rf_swapN Y1.l.p (.slice Y1.ta Y1.tn Y1.tc) ups L x 0 0 a b _ Dc.out.tb Dc.out.rk Dc.out.ln (by have := HU.out; omega)).mono ?_
 rintro e6 w6 ⟨v', us', rfl, hp, hn, hm, hlen, hs⟩
 obtain ⟨va, vc, rfl, -, -⟩ := hp.sv.lenform
 have A6 := Lib.hid (Ac.out.low hs)
 have D6 := Lib.hid ((Dc.out.low hs).tableP (NewU.lower (m := Wc.heap.size) ⟨hp, hn⟩ (Nat.le_refl _)) (fun k hk => Dc.out.hi k hk) hm (by rw [swapL_len]))
 have LE := Lib.hid hlen
 have HS1 := Lib.hid (show D.step Y.l X.d ds hd ps L = (if swapB L x (0, 0) = true then { D with links := (s : Int) + 1 } else D.backE (codeT L x), ps, swapL L x (0, 0) (a, b)) by rw [HST.out, XP.out, XS.out, XH.out])
 obtain ⟨bo, hbo⟩ : ∃ z, z = swapB L x (0, 0) := ⟨_, rfl⟩
 obtain ⟨e0, he0⟩ : ∃ z, z = codeT L x := ⟨_, rfl⟩
 rw [← hbo, ← he0] at HS1
 rw [← hbo, ← he0]
 clear hbo he0 hp hn hm hlen hs g1
 obtain ⟨Y2, hY2⟩ : ∃ x, x = { Y1 with ta := va, tn := us'.length, tc := vc } := ⟨_, rfl⟩
 rw [← hY2] at D6
 have Y2L := Lib.hid (show Y2.l = Y.l by rw [hY2]; exact YL.out)
 have Y2C := Lib.hid (show Y2.count = IntKind.i64.wrap (Y.count + 1) by rw [hY2]; exact YC.out)
 have HY2 := Lib.hid hY2
 clear hY2
 have b3 := Lib.hid (alloc_below0 w6 (.cells #[.int .i64 0, .slice none 0 0] 38))
 have L2 := Lib.hid (list_laid (tbL Y1 va us'.length vc) (blk_new w6 (.cells #[.int .i64 0, .slice none 0 0] 38)) rfl)
 have T2 := Lib.hid (blk_there (blk_new w6 (.cells #[.int .i64 0, .slice none 0 0] 38)) 2 (Nat.le_refl _))
 have B2 := Lib.hid (show Below w6.heap.size w6 ((w6.alloc (.cells #[.int .i64 0, .slice none 0 0] 38)).setCells w6.heap.size 0 (tbL Y1 va us'.length vc)) from below_setCells (Nat.le_refl _) _ 0 _ b3.out)
 clear b3
 go_upto_region 40 with (first
  | (refine wpList_store_to rfl 38 (.tmp 21) (.tmp 221) rfl w6.heap.size 0 (tbL Y1 va us'.length vc) rfl rfl ?_ tbInfo (tbL_one ..) ?_; exact T2.out; intro W7 hW7; have L7 := Lib.hid (show W7.heap[w6.heap.size]? = some _ by rw [hW7]; exact L2.out); have B7 := Lib.hid (show Below w6.heap.size w6 W7 by rw [hW7]; exact B2.out); have A7 := Lib.hid (A6.out.low B7.out); have D7 := Lib.hid (D6.out.low B7.out); have tm := blk_thereN A7.out.m.blk 9 2 (by show 9 + 2 ≤ 15; decide); clear hW7)
  | (refine wpList_load_mid rfl 38 (.tmp 21) rfl w6.heap.size 0 rfl (tbL Y1 va us'.length vc) _ ?_ Tryz.underlying38 rfl tbInfo ?_; exact blk_rng L7.out)
  | (refine wpList_store_to rfl 38 (.tmp 225) (.tmp 224) rfl (w.heap.size + 1) 9 (tbL Y1 va us'.length vc) rfl rfl ?_ tbInfo (tbL_one ..) ?_; exact tm; intro W8 hW8; have A8 := Lib.hid (show SA w W8 X Y2 by rw [hW8, HY2.out]; exact A7.out.table va us'.length vc); have D8 := Lib.hid (show DocS _ W8 _ _ _ _ _ _ _ _ by rw [hW8]; exact D7.out.keep (Kept.setCells _ _ _ (Kept.refl _ _)) boxT.m); clear hW8))
 clear tm A6 D6 L2 T2 B2 A7 D7 L7 B7
 have AZ := Lib.hid A8.out
 have DZ := Lib.hid D8.out
 clear A8 D8
 cases bo with
 | false =>
  have HS2 := Lib.hid (show D.step Y.l X.d ds hd ps L = (D.backE e0, ps, swapL L x (0, 0) (a, b)) by rw [HS1.out, if_neg (by decide)])
  go_upto_region 41 with (fail)
  have A8 := Lib.hid (AZ.out.low (Below.refl W8.heap.size W8).drew)
  have D8 := Lib.hid (DZ.out.low (Below.refl W8.heap.size W8).drew)
  refine anyH_region (fun w' => DXAt w' w.heap.size X ∧ MXAt w' (w.heap.size + 1) Y2) (by kernel_rfl) ?_
  generalize W8.drew = wd at *
  refine tkH (i := 0) (oi := ⟨some 228, _, _, _, _, _⟩) (v := .agg X.list.toArray) rfl (yieldsIf_load_mid (by rfl) 68 (.tmp 2) rfl w.heap.size 0 rfl X.list _ (fun w h => h.1.rng) Tryz.underlying68 rfl X.info) ⟨A8.out.i, A8.out.m⟩ ?restk0
  simp only [Act.put, sT, sZ, sS]
  refine tkH (i := 1) (oi := ⟨some 229, _, _, _, _, _⟩) (v := ?vk1) rfl (Or.inl ⟨by rfl, ?hyk1⟩) ⟨A8.out.i, A8.out.m⟩ ?restk1
  case hyk1 => (intro w hSw; go_simp; try (with_reducible rfl))
  simp only [Act.put, sT, sZ, sS]
  refine tkH (i := 3) (oi := ⟨some 231, _, _, _, _, _⟩) (v := .agg Y2.list.toArray) rfl (yieldsIf_load_mid (by rfl) 43 (.tmp 3) rfl (w.heap.size + 1) 0 rfl Y2.list _ (fun w h => h.2.rng) Tryz.underlying43 rfl Y2.info) ⟨A8.out.i, A8.out.m⟩ ?restk3
  simp only [Act.put, sT, sZ, sS]
  refine anyH_one (i := 2) (o := ⟨some 230, _, _, _, _, _⟩) (by kernel_rfl) rfl (fun K hK => ?_)
  rw [if_pos (by rfl)]
  go_simp
  refine (iBack_any X e0 _ HBL.out).mono ?_
  rintro e5 w5 ⟨rfl, hs⟩
  have A5 := Lib.hid (A8.out.low hs)
  have D5 := Lib.hid (D8.out.low hs)
  clear hs
  refine hK.out _ _ ⟨A5.out.i, A5.out.m⟩ ?_
  clear hK K
  try simp only [Act.put, sT, sZ, sS]
  refine anyH_one (i := 4) (o := ⟨none, _, _, _, _, _⟩) (by kernel_rfl) rfl (fun K hK => ?_)
  rw [if_pos (by rfl)]
  refine wp_store_to 68 (.tmp 4) (.tmp 230) rfl (w.heap.size + 2) 0 (X.backE e0).list rfl rfl ?_ (X.backE e0).info (X.backE e0).one ?_
  ·exact A5.out.ri.there
  intro W8 hW8
  have Q8 := Lib.hid (show SQ2 w W8 X (X.backE e0) Y2 by rw [hW8]; exact A5.out.ri2)
  have D9 := Lib.hid (show DocS _ W8 _ _ _ _ _ _ _ _ by rw [hW8]; exact D5.out.keep (Kept.setCells _ _ _ (Kept.refl _ _)) boxT.ri)
  clear hW8
  refine hK.out _ _ ⟨Q8.out.i, Q8.out.m⟩ ?_
  clear hK K
  try simp only [Act.put]
  refine anyH_one (i := 5) (o := ⟨none, _, _, _, _, _⟩) (by kernel_rfl) rfl (fun K hK => ?_)
  rw [if_pos (by rfl)]
  refine wp_store_to 43 (.tmp 5) (.tmp 231) rfl (w.heap.size + 3) 0 Y2.list rfl rfl ?_ Y2.info Y2.one ?_
  ·exact Q8.out.rm.there
  intro W9 hW9
  have Q9 := Lib.hid (show SR w W9 (X.backE e0) Y2 ∧ DXAt W9 w.heap.size X ∧ MXAt W9 (w.heap.size + 1) Y2 by rw [hW9]; exact Q8.out.rm')
  have DE := Lib.hid (show DocS _ W9 _ _ _ _ _ _ _ _ by rw [hW9]; exact (D9.out.keep (Kept.setCells _ _ _ (Kept.refl _ _)) boxT.rm).backE e0)
  clear hW9
  refine hK.out _ _ Q9.out.2 ?_
  clear hK K
  try simp only [Act.put]
  refine wpAnyH_done (by kernel_rfl) ?_ _
  go_wp2
  refine bodyPost_ret (v := .tuple #[(X.backE e0).val, Y2.val]) (results_cell2 rfl _ _ (w.heap.size + 2) (w.heap.size + 3) (X.backE e0).list Y2.list _ _ rfl rfl Q9.out.1.ri.rng Q9.out.1.rm.rng Tryz.underlying68 rfl (X.backE e0).info Tryz.underlying43 rfl Y2.info) rfl ?_
  exact StepR.mk' HS2.out (X.backE e0) Y2 us us' rfl rfl Y2L.out (by rw [HO.out, if_neg (by decide)]; exact Y2C.out) DE.out.unbox (Nat.le_succ _) (Nat.le_succ_of_le LE.out) Q9.out.1.below
 | true =>
  have HS2 := Lib.hid (show D.step Y.l X.d ds hd ps L = ({ D with links := (s : Int) + 1 }, ps, swapL L x (0, 0) (a, b)) by rw [HS1.out, if_pos rfl])
  have y3 := AZ.out.i.cLinks
  rw [XL.out, HK.out] at y3
  have y4 := AZ.out.i.free 28
  have k1 : IntKind.i64.wrap ((s : Int) + 1) = (s : Int) + 1 := Go.IntWalk.i64_in _ (by have := HL.out; have := HSN.out; omega)
  go_upto_region 47 with (fail)
  have A9 := Lib.hid (AZ.out.links ((s : Int) + 1))
  have D9 := Lib.hid (show DocS _ (W8.setCell ⟨w.heap.size, 28, none⟩ (.int .i64 ((s : Int) + 1))) _ { X with links := (s : Int) + 1 } _ _ _ _ _ _ from (DZ.out.keep ((Kept.refl _ _).setCell _ _) boxT.i).links4 ((s : Int) + 1))
  generalize W8.setCell ⟨w.heap.size, 28, none⟩ (.int .i64 ((s : Int) + 1)) = WE at *
  obtain ⟨X5, hX5⟩ : ∃ x, x = { X with links := (s : Int) + 1 } := ⟨_, rfl⟩
  rw [← hX5] at A9 D9
  have X5D := Lib.hid (show X5.d = X.d by rw [hX5])
  have AX := Lib.hid A9.out
  have DX5 := Lib.hid D9.out
  clear hX5 y3 y4 A9 D9
  have A8 := Lib.hid (AX.out.low (Below.refl WE.heap.size WE).drew)
  have D8 := Lib.hid (DX5.out.low (Below.refl WE.heap.size WE).drew)
  refine anyH_region (fun w' => DXAt w' w.heap.size X5 ∧ MXAt w' (w.heap.size + 1) Y2) (by kernel_rfl) ?_
  generalize WE.drew = wd at *
  refine tkH (i := 0) (oi := ⟨some 244, _, _, _, _, _⟩) (v := .agg X5.list.toArray) rfl (yieldsIf_load_mid (by rfl) 68 (.tmp 2) rfl w.heap.size 0 rfl X5.list _ (fun w h => h.1.rng) Tryz.underlying68 rfl X5.info) ⟨A8.out.i, A8.out.m⟩ ?reste0
  simp only [Act.put, sT, sZ, sS]
  refine tkH (i := 1) (oi := ⟨some 245, _, _, _, _, _⟩) (v := .agg Y2.list.toArray) rfl (yieldsIf_load_mid (by rfl) 43 (.tmp 3) rfl (w.heap.size + 1) 0 rfl Y2.list _ (fun w h => h.2.rng) Tryz.underlying43 rfl Y2.info) ⟨A8.out.i, A8.out.m⟩ ?reste1
  simp only [Act.put, sT, sZ, sS]
  refine anyH_one (i := 2) (o := ⟨none, _, _, _, _, _⟩) (by kernel_rfl) rfl (fun K hK => ?_)
  rw [if_pos (by rfl)]
  refine wp_store_to 68 (.tmp 4) (.tmp 244) rfl (w.heap.size + 2) 0 X5.list rfl rfl ?_ X5.info X5.one ?_
  ·exact A8.out.ri.there
  intro W8 hW8
  have Q8 := Lib.hid (show SQ w W8 X5 Y2 by rw [hW8]; exact A8.out.ri')
  have D9 := Lib.hid (show DocS _ W8 _ _ _ _ _ _ _ _ by rw [hW8]; exact D8.out.keep (Kept.setCells _ _ _ (Kept.refl _ _)) boxT.ri)
  clear hW8
  refine hK.out _ _ ⟨Q8.out.i, Q8.out.m⟩ ?_
  clear hK K
  try simp only [Act.put]
  refine anyH_one (i := 3) (o := ⟨none, _, _, _, _, _⟩) (by kernel_rfl) rfl (fun K hK => ?_)
  rw [if_pos (by rfl)]
  refine wp_store_to 43 (.tmp 5) (.tmp 245) rfl (w.heap.size + 3) 0 Y2.list rfl rfl ?_ Y2.info Y2.one ?_
  ·exact Q8.out.rm.there
  intro W9 hW9
  have Q9 := Lib.hid (show SR w W9 X5 Y2 ∧ DXAt W9 w.heap.size X5 ∧ MXAt W9 (w.heap.size + 1) Y2 by rw [hW9]; exact Q8.out.rm')
  have DE := Lib.hid (show DocS _ W9 _ _ _ _ _ _ _ _ by rw [hW9]; exact D9.out.keep (Kept.setCells _ _ _ (Kept.refl _ _)) boxT.rm)
  clear hW9
  refine hK.out _ _ Q9.out.2 ?_
  clear hK K
  try simp only [Act.put]
  refine wpAnyH_done (by kernel_rfl) ?_ _
  go_wp2
  refine bodyPost_ret (v := .tuple #[X5.val, Y2.val]) (results_cell2 rfl _ _ (w.heap.size + 2) (w.heap.size + 3) X5.list Y2.list _ _ rfl rfl Q9.out.1.ri.rng Q9.out.1.rm.rng Tryz.underlying68 rfl X5.info Tryz.underlying43 rfl Y2.info) rfl ?_
  exact StepR.mk' HS2.out X5 Y2 us us' rfl X5D.out Y2L.out (by rw [HO.out, if_neg (by decide)]; exact Y2C.out) DE.out.unbox (Nat.le_succ _) (Nat.le_succ_of_le LE.out) Q9.out.1.below
open Go.RowKit
theorem iStep12_swapT {w0 w : World} {T : Nat → Prop} {X : DX} {Y : MX} {D : DI} {ps : List Pt} {L : List Pg} {us : List PuD} {ups : List Up} (ds : List RecD) (hd : RecD) (hD : DocS w0 w T X Y D ps L us ups) {n : Nat} (ho : D.over = false) (hb : D.back = false) (hn : X.d.news = (n : Int)) (hp : D.pgs.length = n) (hr : D.rfs.length = n + 1) (hk : D.links = (n : Int)) (hl : n ≤ 900) (hu : ups.length ≤ 900) :
  Calls Tryz.prog 12 #[X.val, Y.val] w (StepR w0 w T ds hd X Y D ps L us ups) := by
 have HST := Lib.hid (show D.step Y.l X.d ds hd ps L = (if swapB L (D.spage X.d) (D.sold X.d) = true then { D with over := true, done := true } else D.backE (codeT L (D.spage X.d)), ps, swapL L (D.spage X.d) (D.sold X.d) D.shead) by unfold DI.step; rw [if_neg (by rw [ho]; decide), if_neg (by rw [hb]; decide), if_neg (by rw [hp, hn]; omega), if_neg (by rw [hr, hk, hn]; omega), if_pos (show D.links = X.d.news by rw [hk, hn])])
 have HN := Lib.hid hn
 have HPL := Lib.hid hp
 have HRL := Lib.hid hr
 have HK := Lib.hid hk
 have HO := Lib.hid ho
 have HB := Lib.hid hb
 have HL := Lib.hid hl
 have HU := Lib.hid hu
 have HBL := Lib.hid (show X.rn ≤ 1000 ∧ X.pn ≤ 1000 by rw [hD.pn, hD.rn]; omega)
 have XS := Lib.hid (show D.sold X.d = (X.d.os, X.d.og) by unfold DI.sold; rw [if_neg (by rw [hk, hn]; omega)])
 obtain ⟨x, hx⟩ : ∃ x, x = X.d.page := ⟨_, rfl⟩
 have XP := Lib.hid (show D.spage X.d = x by unfold DI.spage; rw [if_neg (by rw [hk, hn]; omega), hx])
 have HX := Lib.hid hx
 clear hx
 obtain ⟨a, b, hab⟩ : ∃ a b, D.rfs[n]? = some (a, b) := ⟨_, _, List.getElem?_eq_getElem (by omega)⟩
 have XH := Lib.hid (show D.shead = (a, b) from shead_at (by rw [hk, Int.toNat_natCast]; omega) hab)
 have HAB := Lib.hid hab
 clear hab hn hp hr hk ho hb hl hu
 obtain ⟨W0, hW0⟩ : ∃ W, W = ((((w.alloc (.cells X.list.toArray 68)).alloc (.cells Y.list.toArray 43)).alloc (.cells DX.zero.list.toArray 68)).alloc (.cells MX.zero.list.toArray 43)) := ⟨_, rfl⟩
 have A0 := Lib.hid (show SA w W0 X Y by rw [hW0]; exact SA.start w X Y)
 have D0 := Lib.hid (hD.boxes A0.out.below A0.out.sz)
 have XO := Lib.hid hD.over
 have XB := Lib.hid hD.back
 have XL := Lib.hid hD.links
 have PN := Lib.hid hD.pn
 have RN := Lib.hid hD.rn
 have TLT := Lib.hid hD.hi
 have hzl : DX.zero.list.toArray = #[.int .i64 0, .int .i64 0, .int .i64 0, .int .i64 0, .slice none 0 0, .int .i64 0, .string ⟨#[]⟩, .string ⟨#[]⟩, .bool false, .int .i64 0, .slice none 0 0, .slice none 0 0, .string ⟨#[]⟩, .string ⟨#[]⟩, .int .i64 0, .int .i64 0, .int .i64 0, .string ⟨#[]⟩, .int .i64 0, .int .i64 0, .int .i64 0, .bool false, .bool false, .bool false, .bool false, .int .i64 0, .slice none 0 0, .slice none 0 0, .int .i64 0] := rfl
 have hzm : MX.zero.list.toArray = #[.int .i64 0, .int .i64 0, .int .i64 0, .int .i64 0, .int .i64 0, .int .i64 0, .int .i64 0, .int .i64 0, .slice none 0 0, .int .i64 0, .slice none 0 0, .int .i64 0, .int .i64 0, .slice none 0 0, .int .i64 0] := rfl
 rw [hzl, hzm] at hW0
 clear hzl hzm hD
 unfold DX.val MX.val
 generalize hxl : X.list.toArray = xl at hW0 ⊢
 generalize hyl : Y.list.toArray = yl at hW0 ⊢
 clear hxl hyl
 go_enter Tryz.func12, Tryz.ntmps12
 go_upto_region 1 with (fail)
 rw [← hW0]
 clear hW0
 have y0 := A0.out.i.cOver
 rw [XO.out, HO.out] at y0
 obtain ⟨cnt, hcnt⟩ : ∃ x, x = IntKind.i64.wrap (Y.count + 1) := ⟨_, rfl⟩
 have ic : IntKind.i64.wrap (Y.count + 1) = cnt := hcnt.symm
 have CN := Lib.hid hcnt
 clear hcnt
 have y1 := A0.out.m.cCount
 have y2 := A0.out.m.free 14
 go_upto_region 4 with (fail)
 clear y0 y1 y2 ic
 have A1 := Lib.hid (A0.out.count cnt)
 have D1 := Lib.hid (show DocS _ (W0.setCell ⟨w.heap.size + 1, 14, none⟩ (.int .i64 cnt)) _ _ _ _ _ _ _ _ from (D0.out.keep ((Kept.refl _ _).setCell _ _) boxT.m).count cnt)
 generalize W0.setCell ⟨w.heap.size + 1, 14, none⟩ (.int .i64 cnt) = W1 at *
 obtain ⟨Y1, hY1⟩ : ∃ x, x = { Y with count := cnt } := ⟨_, rfl⟩
 rw [← hY1] at A1 D1
 have YL := Lib.hid (show Y1.l = Y.l by rw [hY1])
 have YC := Lib.hid (show Y1.count = IntKind.i64.wrap (Y.count + 1) by rw [hY1]; exact CN.out)
 clear hY1
 clear D0 A0
 have y0 := A1.out.i.cNews
 rw [HN.out] at y0
 go_upto_region 5 with (fail)
 clear y0
 have y0 := A1.out.i.cBack
 rw [XB.out, HB.out] at y0
 have y1 := A1.out.i.cPgs
 rw [PN.out, HPL.out] at y1
 have y2 := A1.out.i.cRfs
 rw [RN.out, HRL.out] at y2
 have y3 := A1.out.i.cLinks
 rw [XL.out, HK.out] at y3
 have isn : ((n : Int) + 1 == (n : Int)) = false := by simp; omega
 have isn2 : ¬ (n : Int) + 1 = (n : Int) := by omega
 have isn3 : ¬ (n : Int) + 1 < (n : Int) := by omega
 go_upto_region 32 with (fail)
 have y4 := A1.out.i.cPage
 rw [← HX.out] at y4
 go_upto_region 33 with (fail)
 have g0 := A1.out.i.old
 have TA1 := Lib.hid (show (W1.alloc (.cells #[.int .i64 0, .int .i64 0] 48)).there W1.heap.size 0 2 from blk_there (blk_new W1 _) 2 (Nat.le_refl _))
 have LA1 := Lib.hid (show ((W1.alloc (.cells #[.int .i64 0, .int .i64 0] 48)).setCells W1.heap.size 0 [.int .i64 X.d.os, .int .i64 X.d.og]).heap[W1.heap.size]? = some (.cells ([.int .i64 X.d.os, .int .i64 X.d.og] : List Value).toArray 48 (0, 0)) from list_laid [.int .i64 X.d.os, .int .i64 X.d.og] (blk_new W1 _) rfl)
 have BA1 := Lib.hid (show Below W1.heap.size W1 ((W1.alloc (.cells #[.int .i64 0, .int .i64 0] 48)).setCells W1.heap.size 0 [.int .i64 X.d.os, .int .i64 X.d.og]) from below_setCells (Nat.le_refl _) _ 0 _ (alloc_below0 W1 _))
 have SA1 := Lib.hid (show (W1.alloc (.cells #[.int .i64 0, .int .i64 0] 48)).heap.size = W1.heap.size + 1 by simp)
 go_upto_region 34 with (first
  | (refine wpList_load_mid rfl 48 (.tmp 190) rfl w.heap.size 1 rfl [.int .i64 X.d.os, .int .i64 X.d.og] _ ?_ Tryz.underlying48 rfl refInfoS ?_; exact g0)
  | (refine wpList_store_to rfl 48 (.tmp 19) (.tmp 191) rfl W1.heap.size 0 [.int .i64 X.d.os, .int .i64 X.d.og] rfl rfl ?_ refInfoS (xy_one ..) ?_; exact TA1.out; intro Wa hWa; have La := Lib.hid (show Wa.heap[W1.heap.size]? = some (.cells ([.int .i64 X.d.os, .int .i64 X.d.og] : List Value).toArray 48 (0, 0)) by rw [hWa]; exact LA1.out); have Ba := Lib.hid (show Below W1.heap.size W1 Wa by rw [hWa]; exact BA1.out); clear hWa))
 clear g0 TA1 LA1 BA1 SA1 y0 y1 y2 y3 y4
 have Aa := Lib.hid (A1.out.low Ba.out)
 have Da := Lib.hid (D1.out.low Ba.out)
 have SZa := Lib.hid (show W1.heap.size < Wa.heap.size from (Array.getElem?_eq_some_iff.1 La.out).1)
 have y3 := Aa.out.i.cLinks
 rw [XL.out, HK.out] at y3
 go_upto_region 37 with (fail)
 clear y3
 have y2 := Aa.out.i.cRfs
 rw [RN.out, HRL.out] at y2
 have y3 := Aa.out.i.cLinks
 rw [XL.out, HK.out] at y3
 have VR := Lib.hid (show SV lRef Wa (.slice X.ra (n + 1) X.rc) D.rfs by have h := Da.out.rf; rw [RN.out, HRL.out] at h; exact h)
 obtain ⟨ra, hra⟩ : ∃ x, x = X.ra := ⟨_, rfl⟩
 rw [← hra] at VR y2
 clear hra
 obtain ⟨mb, mo, rfl⟩ := VR.out.addr (by rw [HRL.out]; omega)
 have RG := Lib.hid (show Wa.rangeAt mb (mo + n * 2) [.int .i64 a, .int .i64 b] from VR.out.range HAB.out)
 have k0 : (0 : Int) ≤ (n : Int) := by omega
 have k1 : (n : Int) < (n : Int) + 1 := by omega
 have k2 : IntKind.i64.wrap (n : Int) = (n : Int) := Go.IntWalk.i64_in _ (by have := HL.out; omega)
 have k3 : IntKind.i64.wrap ((n : Int) + 1 - 1) = (n : Int) := by rw [show (n : Int) + 1 - 1 = n by omega]; exact Go.IntWalk.i64_in _ (by have := HL.out; omega)
 have k4 : ¬ (n : Int) < (n : Int) := by omega
 have TC1 := Lib.hid (show (Wa.alloc (.cells #[.int .i64 0, .int .i64 0] 48)).there Wa.heap.size 0 2 from blk_there (blk_new Wa _) 2 (Nat.le_refl _))
 have LC1 := Lib.hid (show ((Wa.alloc (.cells #[.int .i64 0, .int .i64 0] 48)).setCells Wa.heap.size 0 [.int .i64 a, .int .i64 b]).heap[Wa.heap.size]? = some (.cells ([.int .i64 a, .int .i64 b] : List Value).toArray 48 (0, 0)) from list_laid [.int .i64 a, .int .i64 b] (blk_new Wa _) rfl)
 have BC1 := Lib.hid (show Below Wa.heap.size Wa ((Wa.alloc (.cells #[.int .i64 0, .int .i64 0] 48)).setCells Wa.heap.size 0 [.int .i64 a, .int .i64 b]) from below_setCells (Nat.le_refl _) _ 0 _ (alloc_below0 Wa _))
 go_upto_region 38 with (first
  | (refine wpList_load_mid rfl 48 (.tmp 212) rfl mb (mo + n * 2) rfl [.int .i64 a, .int .i64 b] _ ?_ Tryz.underlying48 rfl refInfoS ?_; exact RG.out)
  | (refine wpList_store_to rfl 48 (.tmp 20) (.tmp 213) rfl Wa.heap.size 0 [.int .i64 a, .int .i64 b] rfl rfl ?_ refInfoS (xy_one ..) ?_; exact TC1.out; intro Wc hWc; have Lc := Lib.hid (show Wc.heap[Wa.heap.size]? = some (.cells ([.int .i64 a, .int .i64 b] : List Value).toArray 48 (0, 0)) by rw [hWc]; exact LC1.out); have Bc := Lib.hid (show Below Wa.heap.size Wa Wc by rw [hWc]; exact BC1.out); clear hWc))
 have Ac := Lib.hid (Aa.out.low Bc.out)
 have Dc := Lib.hid (Da.out.low Bc.out)
 have Lo := Lib.hid (blk_step La.out Bc.out)
 clear TC1 LC1 BC1 y2 y3 RG k0 k1 k2 k3 k4
 have g1 := Ac.out.m.table
 go_wp2_with (first
  | (refine wpList_load_mid rfl 38 (.tmp 215) rfl (w.heap.size + 1) 9 rfl (tbL Y1 Y1.ta Y1.tn Y1.tc) _ ?_ Tryz.underlying38 rfl tbInfo ?_; exact g1)
  | (refine wpList_load_mid rfl 48 (.tmp 19) rfl W1.heap.size 0 rfl [.int .i64 X.d.os, .int .i64 X.d.og] _ ?_ Tryz.underlying48 rfl refInfoS ?_; exact blk_rng Lo.out)
  | (refine wpList_load_mid rfl 48 (.tmp 20) rfl Wa.heap.size 0 rfl [.int .i64 a, .int .i64 b] _ ?_ Tryz.underlying48 rfl refInfoS ?_; exact blk_rng Lc.out))
 refine (rf_swapN Y1.l.p (.slice Y1.ta Y1.tn Y1.tc) ups L x X.d.os X.d.og a b _ Dc.out.tb Dc.out.rk Dc.out.ln (by have := HU.out; omega)).mono ?_
 rintro e6 w6 ⟨v', us', rfl, hp, hn, hm, hlen, hs⟩
 obtain ⟨va, vc, rfl, -, -⟩ := hp.sv.lenform
 have A6 := Lib.hid (Ac.out.low hs)
 have D6 := Lib.hid ((Dc.out.low hs).tableP (NewU.lower (m := Wc.heap.size) ⟨hp, hn⟩ (Nat.le_refl _)) (fun k hk => Dc.out.hi k hk) hm (by rw [swapL_len]))
 have LE := Lib.hid hlen
 have HS1 := Lib.hid (show D.step Y.l X.d ds hd ps L = (if swapB L x (X.d.os, X.d.og) = true then { D with over := true, done := true } else D.backE (codeT L x), ps, swapL L x (X.d.os, X.d.og) (a, b)) by rw [HST.out, XP.out, XS.out, XH.out])
 obtain ⟨bo, hbo⟩ : ∃ z, z = swapB L x (X.d.os, X.d.og) := ⟨_, rfl⟩
 obtain ⟨e0, he0⟩ : ∃ z, z = codeT L x := ⟨_, rfl⟩
 rw [← hbo, ← he0] at HS1
 rw [← hbo, ← he0]
 clear hbo he0 hp hn hm hlen hs g1
 obtain ⟨Y2, hY2⟩ : ∃ x, x = { Y1 with ta := va, tn := us'.length, tc := vc } := ⟨_, rfl⟩
 rw [← hY2] at D6
 have Y2L := Lib.hid (show Y2.l = Y.l by rw [hY2]; exact YL.out)
 have Y2C := Lib.hid (show Y2.count = IntKind.i64.wrap (Y.count + 1) by rw [hY2]; exact YC.out)
 have HY2 := Lib.hid hY2
 clear hY2
 have b3 := Lib.hid (alloc_below0 w6 (.cells #[.int .i64 0, .slice none 0 0] 38))
 have L2 := Lib.hid (list_laid (tbL Y1 va us'.length vc) (blk_new w6 (.cells #[.int .i64 0, .slice none 0 0] 38)) rfl)
 have T2 := Lib.hid (blk_there (blk_new w6 (.cells #[.int .i64 0, .slice none 0 0] 38)) 2 (Nat.le_refl _))
 have B2 := Lib.hid (show Below w6.heap.size w6 ((w6.alloc (.cells #[.int .i64 0, .slice none 0 0] 38)).setCells w6.heap.size 0 (tbL Y1 va us'.length vc)) from below_setCells (Nat.le_refl _) _ 0 _ b3.out)
 clear b3
 go_upto_region 40 with (first
  | (refine wpList_store_to rfl 38 (.tmp 21) (.tmp 221) rfl w6.heap.size 0 (tbL Y1 va us'.length vc) rfl rfl ?_ tbInfo (tbL_one ..) ?_; exact T2.out; intro W7 hW7; have L7 := Lib.hid (show W7.heap[w6.heap.size]? = some _ by rw [hW7]; exact L2.out); have B7 := Lib.hid (show Below w6.heap.size w6 W7 by rw [hW7]; exact B2.out); have A7 := Lib.hid (A6.out.low B7.out); have D7 := Lib.hid (D6.out.low B7.out); have tm := blk_thereN A7.out.m.blk 9 2 (by show 9 + 2 ≤ 15; decide); clear hW7)
  | (refine wpList_load_mid rfl 38 (.tmp 21) rfl w6.heap.size 0 rfl (tbL Y1 va us'.length vc) _ ?_ Tryz.underlying38 rfl tbInfo ?_; exact blk_rng L7.out)
  | (refine wpList_store_to rfl 38 (.tmp 225) (.tmp 224) rfl (w.heap.size + 1) 9 (tbL Y1 va us'.length vc) rfl rfl ?_ tbInfo (tbL_one ..) ?_; exact tm; intro W8 hW8; have A8 := Lib.hid (show SA w W8 X Y2 by rw [hW8, HY2.out]; exact A7.out.table va us'.length vc); have D8 := Lib.hid (show DocS _ W8 _ _ _ _ _ _ _ _ by rw [hW8]; exact D7.out.keep (Kept.setCells _ _ _ (Kept.refl _ _)) boxT.m); clear hW8))
 clear tm A6 D6 L2 T2 B2 A7 D7 L7 B7
 have AZ := Lib.hid A8.out
 have DZ := Lib.hid D8.out
 clear A8 D8
 cases bo with
 | false =>
  have HS2 := Lib.hid (show D.step Y.l X.d ds hd ps L = (D.backE e0, ps, swapL L x (X.d.os, X.d.og) (a, b)) by rw [HS1.out, if_neg (by decide)])
  go_upto_region 41 with (fail)
  have A8 := Lib.hid (AZ.out.low (Below.refl W8.heap.size W8).drew)
  have D8 := Lib.hid (DZ.out.low (Below.refl W8.heap.size W8).drew)
  refine anyH_region (fun w' => DXAt w' w.heap.size X ∧ MXAt w' (w.heap.size + 1) Y2) (by kernel_rfl) ?_
  generalize W8.drew = wd at *
  refine tkH (i := 0) (oi := ⟨some 228, _, _, _, _, _⟩) (v := .agg X.list.toArray) rfl (yieldsIf_load_mid (by rfl) 68 (.tmp 2) rfl w.heap.size 0 rfl X.list _ (fun w h => h.1.rng) Tryz.underlying68 rfl X.info) ⟨A8.out.i, A8.out.m⟩ ?restk0
  simp only [Act.put, sT, sZ, sS]
  refine tkH (i := 1) (oi := ⟨some 229, _, _, _, _, _⟩) (v := ?vk1) rfl (Or.inl ⟨by rfl, ?hyk1⟩) ⟨A8.out.i, A8.out.m⟩ ?restk1
  case hyk1 => (intro w hSw; go_simp; try (with_reducible rfl))
  simp only [Act.put, sT, sZ, sS]
  refine tkH (i := 3) (oi := ⟨some 231, _, _, _, _, _⟩) (v := .agg Y2.list.toArray) rfl (yieldsIf_load_mid (by rfl) 43 (.tmp 3) rfl (w.heap.size + 1) 0 rfl Y2.list _ (fun w h => h.2.rng) Tryz.underlying43 rfl Y2.info) ⟨A8.out.i, A8.out.m⟩ ?restk3
  simp only [Act.put, sT, sZ, sS]
  refine anyH_one (i := 2) (o := ⟨some 230, _, _, _, _, _⟩) (by kernel_rfl) rfl (fun K hK => ?_)
  rw [if_pos (by rfl)]
  go_simp
  refine (iBack_any X e0 _ HBL.out).mono ?_
  rintro e5 w5 ⟨rfl, hs⟩
  have A5 := Lib.hid (A8.out.low hs)
  have D5 := Lib.hid (D8.out.low hs)
  clear hs
  refine hK.out _ _ ⟨A5.out.i, A5.out.m⟩ ?_
  clear hK K
  try simp only [Act.put, sT, sZ, sS]
  refine anyH_one (i := 4) (o := ⟨none, _, _, _, _, _⟩) (by kernel_rfl) rfl (fun K hK => ?_)
  rw [if_pos (by rfl)]
  refine wp_store_to 68 (.tmp 4) (.tmp 230) rfl (w.heap.size + 2) 0 (X.backE e0).list rfl rfl ?_ (X.backE e0).info (X.backE e0).one ?_
  ·exact A5.out.ri.there
  intro W8 hW8
  have Q8 := Lib.hid (show SQ2 w W8 X (X.backE e0) Y2 by rw [hW8]; exact A5.out.ri2)
  have D9 := Lib.hid (show DocS _ W8 _ _ _ _ _ _ _ _ by rw [hW8]; exact D5.out.keep (Kept.setCells _ _ _ (Kept.refl _ _)) boxT.ri)
  clear hW8
  refine hK.out _ _ ⟨Q8.out.i, Q8.out.m⟩ ?_
  clear hK K
  try simp only [Act.put]
  refine anyH_one (i := 5) (o := ⟨none, _, _, _, _, _⟩) (by kernel_rfl) rfl (fun K hK => ?_)
  rw [if_pos (by rfl)]
  refine wp_store_to 43 (.tmp 5) (.tmp 231) rfl (w.heap.size + 3) 0 Y2.list rfl rfl ?_ Y2.info Y2.one ?_
  ·exact Q8.out.rm.there
  intro W9 hW9
  have Q9 := Lib.hid (show SR w W9 (X.backE e0) Y2 ∧ DXAt W9 w.heap.size X ∧ MXAt W9 (w.heap.size + 1) Y2 by rw [hW9]; exact Q8.out.rm')
  have DE := Lib.hid (show DocS _ W9 _ _ _ _ _ _ _ _ by rw [hW9]; exact (D9.out.keep (Kept.setCells _ _ _ (Kept.refl _ _)) boxT.rm).backE e0)
  clear hW9
  refine hK.out _ _ Q9.out.2 ?_
  clear hK K
  try simp only [Act.put]
  refine wpAnyH_done (by kernel_rfl) ?_ _
  go_wp2
  refine bodyPost_ret (v := .tuple #[(X.backE e0).val, Y2.val]) (results_cell2 rfl _ _ (w.heap.size + 2) (w.heap.size + 3) (X.backE e0).list Y2.list _ _ rfl rfl Q9.out.1.ri.rng Q9.out.1.rm.rng Tryz.underlying68 rfl (X.backE e0).info Tryz.underlying43 rfl Y2.info) rfl ?_
  exact StepR.mk' HS2.out (X.backE e0) Y2 us us' rfl rfl Y2L.out (by rw [HO.out, if_neg (by decide)]; exact Y2C.out) DE.out.unbox (Nat.le_succ _) (Nat.le_succ_of_le LE.out) Q9.out.1.below
 | true =>
  have HS2 := Lib.hid (show D.step Y.l X.d ds hd ps L = ({ D with over := true, done := true }, ps, swapL L x (X.d.os, X.d.og) (a, b)) by rw [HS1.out, if_pos rfl])
  have y3 := AZ.out.i.cLinks
  rw [XL.out, HK.out] at y3
  have y4 := AZ.out.i.cOver
  have y5 := AZ.out.i.free 23
  go_upto_region 44 with (fail)
  have A9 := Lib.hid (AZ.out.over true)
  have D9 := Lib.hid (show DocS _ (W8.setCell ⟨w.heap.size, 23, none⟩ (.bool true)) _ { X with over := true } _ { D with over := true } _ _ _ _ from (DZ.out.keep ((Kept.refl _ _).setCell _ _) boxT.i).setOver rfl)
  generalize W8.setCell ⟨w.heap.size, 23, none⟩ (.bool true) = WD at *
  clear y3 y4 y5
  have y4 := A9.out.i.cDone
  have y5 := A9.out.i.free 24
  go_upto_region 45 with (fail)
  have A10 := Lib.hid (A9.out.done true)
  have D10 := Lib.hid (show DocS _ (WD.setCell ⟨w.heap.size, 24, none⟩ (.bool true)) _ { X with over := true, done := true } _ { D with over := true, done := true } _ _ _ _ from (D9.out.keep ((Kept.refl _ _).setCell _ _) boxT.i).setDone true)
  generalize WD.setCell ⟨w.heap.size, 24, none⟩ (.bool true) = WE at *
  obtain ⟨X5, hX5⟩ : ∃ x, x = { X with over := true, done := true } := ⟨_, rfl⟩
  have AX := Lib.hid (show SA w WE X5 Y2 by rw [hX5]; exact A10.out)
  rw [← hX5] at D10
  have X5D := Lib.hid (show X5.d = X.d by rw [hX5])
  have DX5 := Lib.hid D10.out
  clear hX5 y4 y5 A9 D9 A10 D10
  have A8 := Lib.hid (AX.out.low (Below.refl WE.heap.size WE).drew)
  have D8 := Lib.hid (DX5.out.low (Below.refl WE.heap.size WE).drew)
  refine anyH_region (fun w' => DXAt w' w.heap.size X5 ∧ MXAt w' (w.heap.size + 1) Y2) (by kernel_rfl) ?_
  generalize WE.drew = wd at *
  refine tkH (i := 0) (oi := ⟨some 238, _, _, _, _, _⟩) (v := .agg X5.list.toArray) rfl (yieldsIf_load_mid (by rfl) 68 (.tmp 2) rfl w.heap.size 0 rfl X5.list _ (fun w h => h.1.rng) Tryz.underlying68 rfl X5.info) ⟨A8.out.i, A8.out.m⟩ ?reste0
  simp only [Act.put, sT, sZ, sS]
  refine tkH (i := 1) (oi := ⟨some 239, _, _, _, _, _⟩) (v := .agg Y2.list.toArray) rfl (yieldsIf_load_mid (by rfl) 43 (.tmp 3) rfl (w.heap.size + 1) 0 rfl Y2.list _ (fun w h => h.2.rng) Tryz.underlying43 rfl Y2.info) ⟨A8.out.i, A8.out.m⟩ ?reste1
  simp only [Act.put, sT, sZ, sS]
  refine anyH_one (i := 2) (o := ⟨none, _, _, _, _, _⟩) (by kernel_rfl) rfl (fun K hK => ?_)
  rw [if_pos (by rfl)]
  refine wp_store_to 68 (.tmp 4) (.tmp 238) rfl (w.heap.size + 2) 0 X5.list rfl rfl ?_ X5.info X5.one ?_
  ·exact A8.out.ri.there
  intro W8 hW8
  have Q8 := Lib.hid (show SQ w W8 X5 Y2 by rw [hW8]; exact A8.out.ri')
  have D9 := Lib.hid (show DocS _ W8 _ _ _ _ _ _ _ _ by rw [hW8]; exact D8.out.keep (Kept.setCells _ _ _ (Kept.refl _ _)) boxT.ri)
  clear hW8
  refine hK.out _ _ ⟨Q8.out.i, Q8.out.m⟩ ?_
  clear hK K
  try simp only [Act.put]
  refine anyH_one (i := 3) (o := ⟨none, _, _, _, _, _⟩) (by kernel_rfl) rfl (fun K hK => ?_)
  rw [if_pos (by rfl)]
  refine wp_store_to 43 (.tmp 5) (.tmp 239) rfl (w.heap.size + 3) 0 Y2.list rfl rfl ?_ Y2.info Y2.one ?_
  ·exact Q8.out.rm.there
  intro W9 hW9
  have Q9 := Lib.hid (show SR w W9 X5 Y2 ∧ DXAt W9 w.heap.size X5 ∧ MXAt W9 (w.heap.size + 1) Y2 by rw [hW9]; exact Q8.out.rm')
  have DE := Lib.hid (show DocS _ W9 _ _ _ _ _ _ _ _ by rw [hW9]; exact D9.out.keep (Kept.setCells _ _ _ (Kept.refl _ _)) boxT.rm)
  clear hW9
  refine hK.out _ _ Q9.out.2 ?_
  clear hK K
  try simp only [Act.put]
  refine wpAnyH_done (by kernel_rfl) ?_ _
  go_wp2
  refine bodyPost_ret (v := .tuple #[X5.val, Y2.val]) (results_cell2 rfl _ _ (w.heap.size + 2) (w.heap.size + 3) X5.list Y2.list _ _ rfl rfl Q9.out.1.ri.rng Q9.out.1.rm.rng Tryz.underlying68 rfl X5.info Tryz.underlying43 rfl Y2.info) rfl ?_
  exact StepR.mk' HS2.out X5 Y2 us us' rfl X5D.out Y2L.out (by rw [HO.out, if_neg (by decide)]; exact Y2C.out) DE.out.unbox (Nat.le_succ _) (Nat.le_succ_of_le LE.out) Q9.out.1.below
open Go.RowKit
theorem iStep12_take {w0 w : World} {T : Nat → Prop} {X : DX} {Y : MX} {D : DI} {ps : List Pt} {L : List Pg} {us : List PuD} {ups : List Up} (ds : List RecD) (hd : RecD) (hD : DocS w0 w T X Y D ps L us ups) (ho : D.over = false) (hb : D.back = false) (hp : (D.pgs.length : Int) < X.d.news) (hl : D.rfs.length ≤ 1000 ∧ D.pgs.length ≤ 900) (hu : ups.length ≤ 900) (hyp : Y.l.p ≤ 256) :
  Calls Tryz.prog 12 #[X.val, Y.val] w (StepR w0 w T ds hd X Y D ps L us ups) := by
 have HST := Lib.hid (show D.step Y.l X.d ds hd ps L = (if takeE L = 0 then { D with pgs := D.pgs ++ [(takeN L : Int)] } else D.backE (takeE L), ps, takeL L) by unfold DI.step; rw [if_neg (by rw [ho]; decide), if_neg (by rw [hb]; decide), if_pos hp])
 have HO := Lib.hid ho
 have HB := Lib.hid hb
 have HP := Lib.hid hp
 have HL := Lib.hid hl
 have HU := Lib.hid hu
 have HY := Lib.hid hyp
 have HBL := Lib.hid (show X.rn ≤ 1000 ∧ X.pn ≤ 1000 by rw [hD.pn, hD.rn]; omega)
 clear ho hb hp hl hu hyp
 obtain ⟨W0, hW0⟩ : ∃ W, W = ((((w.alloc (.cells X.list.toArray 68)).alloc (.cells Y.list.toArray 43)).alloc (.cells DX.zero.list.toArray 68)).alloc (.cells MX.zero.list.toArray 43)) := ⟨_, rfl⟩
 have A0 := Lib.hid (show SA w W0 X Y by rw [hW0]; exact SA.start w X Y)
 have D0 := Lib.hid (hD.boxes A0.out.below A0.out.sz)
 have XO := Lib.hid hD.over
 have XB := Lib.hid hD.back
 have XL := Lib.hid hD.links
 have PN := Lib.hid hD.pn
 have RN := Lib.hid hD.rn
 have TLT := Lib.hid hD.hi
 have hzl : DX.zero.list.toArray = #[.int .i64 0, .int .i64 0, .int .i64 0, .int .i64 0, .slice none 0 0, .int .i64 0, .string ⟨#[]⟩, .string ⟨#[]⟩, .bool false, .int .i64 0, .slice none 0 0, .slice none 0 0, .string ⟨#[]⟩, .string ⟨#[]⟩, .int .i64 0, .int .i64 0, .int .i64 0, .string ⟨#[]⟩, .int .i64 0, .int .i64 0, .int .i64 0, .bool false, .bool false, .bool false, .bool false, .int .i64 0, .slice none 0 0, .slice none 0 0, .int .i64 0] := rfl
 have hzm : MX.zero.list.toArray = #[.int .i64 0, .int .i64 0, .int .i64 0, .int .i64 0, .int .i64 0, .int .i64 0, .int .i64 0, .int .i64 0, .slice none 0 0, .int .i64 0, .slice none 0 0, .int .i64 0, .int .i64 0, .slice none 0 0, .int .i64 0] := rfl
 rw [hzl, hzm] at hW0
 clear hzl hzm hD
 unfold DX.val MX.val
 generalize hxl : X.list.toArray = xl at hW0 ⊢
 generalize hyl : Y.list.toArray = yl at hW0 ⊢
 clear hxl hyl
 go_enter Tryz.func12, Tryz.ntmps12
 go_upto_region 1 with (fail)
 rw [← hW0]
 clear hW0
 have y0 := A0.out.i.cOver
 rw [XO.out, HO.out] at y0
 obtain ⟨cnt, hcnt⟩ : ∃ x, x = IntKind.i64.wrap (Y.count + 1) := ⟨_, rfl⟩
 have ic : IntKind.i64.wrap (Y.count + 1) = cnt := hcnt.symm
 have CN := Lib.hid hcnt
 clear hcnt
 have y1 := A0.out.m.cCount
 have y2 := A0.out.m.free 14
 go_upto_region 4 with (fail)
 clear y0 y1 y2 ic
 have A1 := Lib.hid (A0.out.count cnt)
 have D1 := Lib.hid (show DocS _ (W0.setCell ⟨w.heap.size + 1, 14, none⟩ (.int .i64 cnt)) _ _ _ _ _ _ _ _ from (D0.out.keep ((Kept.refl _ _).setCell _ _) boxT.m).count cnt)
 generalize W0.setCell ⟨w.heap.size + 1, 14, none⟩ (.int .i64 cnt) = W1 at *
 obtain ⟨Y1, hY1⟩ : ∃ x, x = { Y with count := cnt } := ⟨_, rfl⟩
 rw [← hY1] at A1 D1
 have YL := Lib.hid (show Y1.l = Y.l by rw [hY1])
 have YC := Lib.hid (show Y1.count = IntKind.i64.wrap (Y.count + 1) by rw [hY1]; exact CN.out)
 clear hY1
 clear D0 A0
 have y0 := A1.out.i.cNews
 go_upto_region 5 with (fail)
 clear y0
 have y0 := A1.out.i.cBack
 rw [XB.out, HB.out] at y0
 have y1 := A1.out.i.cPgs
 have ip : (X.pn : Int) < X.d.news := by rw [PN.out]; exact HP.out
 have g0 := A1.out.m.table
 go_wp2_with (refine wpList_load_mid rfl 38 (.tmp 106) rfl (w.heap.size + 1) 9 rfl (tbL Y1 Y1.ta Y1.tn Y1.tc) _ ?_ Tryz.underlying38 rfl tbInfo ?_; exact g0)
 refine (rf_takeN Y1.l.p (.slice Y1.ta Y1.tn Y1.tc) ups L _ D1.out.tb D1.out.rk D1.out.ln (by rw [YL.out]; exact HY.out) (by have := HU.out; omega)).mono ?_
 rintro e2 w2 ⟨v', us', rfl, hp, hn, hm, hlen, hs⟩
 obtain ⟨va, vc, rfl, -, -⟩ := hp.sv.lenform
 have A2 := Lib.hid (A1.out.low hs)
 have D2 := Lib.hid ((D1.out.low hs).tableP (NewU.lower (m := W1.heap.size) ⟨hp, hn⟩ (Nat.le_refl _)) (fun k hk => D1.out.hi k hk) hm (by rw [takeL_len]))
 have LE := Lib.hid hlen
 clear hp hn hm hlen hs y0 y1 g0
 obtain ⟨Y2, hY2⟩ : ∃ x, x = { Y1 with ta := va, tn := us'.length, tc := vc } := ⟨_, rfl⟩
 rw [← hY2] at D2
 have Y2L := Lib.hid (show Y2.l = Y.l by rw [hY2]; exact YL.out)
 have Y2C := Lib.hid (show Y2.count = IntKind.i64.wrap (Y.count + 1) by rw [hY2]; exact YC.out)
 have HY2 := Lib.hid hY2
 clear hY2
 have b3 := Lib.hid (alloc_below0 w2 (.cells #[.int .i64 0, .slice none 0 0] 38))
 have L2 := Lib.hid (list_laid (tbL Y1 va us'.length vc) (blk_new w2 (.cells #[.int .i64 0, .slice none 0 0] 38)) rfl)
 have T2 := Lib.hid (blk_there (blk_new w2 (.cells #[.int .i64 0, .slice none 0 0] 38)) 2 (Nat.le_refl _))
 have B2 := Lib.hid (show Below w2.heap.size w2 ((w2.alloc (.cells #[.int .i64 0, .slice none 0 0] 38)).setCells w2.heap.size 0 (tbL Y1 va us'.length vc)) from below_setCells (Nat.le_refl _) _ 0 _ b3.out)
 clear b3
 obtain ⟨e0, he0⟩ : ∃ x, x = takeE L := ⟨_, rfl⟩
 obtain ⟨n0, hn0⟩ : ∃ x, x = (takeN L : Int) := ⟨_, rfl⟩
 rw [← he0, ← hn0]
 rw [← he0, ← hn0] at HST
 clear he0 hn0
 go_upto_region 18 with (first
  | (refine wpList_store_to rfl 38 (.tmp 11) (.tmp 109) rfl w2.heap.size 0 (tbL Y1 va us'.length vc) rfl rfl ?_ tbInfo (tbL_one ..) ?_; exact T2.out; intro W3 hW3; have L3 := Lib.hid (show W3.heap[w2.heap.size]? = some _ by rw [hW3]; exact L2.out); have B3 := Lib.hid (show Below w2.heap.size w2 W3 by rw [hW3]; exact B2.out); have A3 := Lib.hid (A2.out.low B3.out); have D3 := Lib.hid (D2.out.low B3.out); have tm := blk_thereN A3.out.m.blk 9 2 (by show 9 + 2 ≤ 15; decide); clear hW3)
  | (refine wpList_load_mid rfl 38 (.tmp 11) rfl w2.heap.size 0 rfl (tbL Y1 va us'.length vc) _ ?_ Tryz.underlying38 rfl tbInfo ?_; exact blk_rng L3.out)
  | (refine wpList_store_to rfl 38 (.tmp 113) (.tmp 112) rfl (w.heap.size + 1) 9 (tbL Y1 va us'.length vc) rfl rfl ?_ tbInfo (tbL_one ..) ?_; exact tm; intro W4 hW4; have A4 := Lib.hid (show SA w W4 X Y2 by rw [hW4, HY2.out]; exact A3.out.table va us'.length vc); have D4 := Lib.hid (show DocS _ W4 _ _ _ _ _ _ _ _ by rw [hW4]; exact D3.out.keep (Kept.setCells _ _ _ (Kept.refl _ _)) boxT.m); clear hW4))
 clear tm A2 D2 L2 T2 B2 A3 D3 L3 B3
 by_cases he : e0 = 0
 ·subst he
  have HS2 := Lib.hid (show D.step Y.l X.d ds hd ps L = ({ D with pgs := D.pgs ++ [n0] }, ps, takeL L) by rw [HST.out, if_pos rfl])
  have y1 := A4.out.i.cPgs
  rw [PN.out] at y1
  have LN := Lib.hid HL.out.2
  have BZ := Lib.hid (alloc_below0 W4 (.cells #[] 3))
  have V4 := Lib.hid ((show SV lInt W4 (.slice X.pa D.pgs.length X.pc) D.pgs by have h := D4.out.pg; rw [PN.out] at h; exact h).below BZ.out)
  have O0 := Lib.hid (show OwnS lInt W4.heap.size (W4.alloc (.cells #[] 3)) (.slice (some ⟨W4.heap.size, 0, none⟩) 0 0) [] from OwnS.lit lInt W4.heap.size W4 W4.heap.size rfl [] (Nat.le_refl _) (by simp))
  have y1 := cell_step y1 BZ.out
  go_upto_region 21 with (first
   | (refine wpList_appS lInt 39 Tryz.underlying39 lInt_known (by decide) (by decide) rfl (.tmp 120) (.tmp 122) rfl W4.heap.size rfl rfl O0.out V4.out (by have := LN.out; simp; omega) BZ.out.size ?_; intro v5 w5 ho5 hg5; rw [List.nil_append] at ho5; have B5 := Lib.hid (BZ.out.trans ((Kept.of_grown hg5).below (n := W4.heap.size) (fun j hj => (O0.out.bounds j hj.symm).1) BZ.out.size)); have bx := alloc_below0 w5 (.cells (lInt.flat [n0]).toArray 3); have SVX := Lib.hid (OwnS.lit lInt W4.heap.size w5 w5.heap.size rfl [n0] B5.out.size (by simp [maxLen])).sv; have O5 := Lib.hid (ho5.below bx); have B6 := Lib.hid (B5.out.trans (bx.mono B5.out.size)); clear ho5 hg5 bx)
   | (refine wpList_appS lInt 39 Tryz.underlying39 lInt_known (by decide) (by decide) rfl (.tmp 123) (.tmp 125) rfl W4.heap.size rfl rfl O5.out SVX.out (by have := LN.out; simp; omega) B6.out.size ?_; intro v7 w7 ho7 hg7; have B7 := Lib.hid (B6.out.trans ((Kept.of_grown hg7).below (n := W4.heap.size) (fun j hj => (O5.out.bounds j hj.symm).1) B6.out.size)); obtain ⟨a7, q7, rfl, -, -⟩ := ho7.lenN (n := D.pgs.length + 1) (by rw [List.length_append]; rfl); have O7 := Lib.hid ho7; have A7 := Lib.hid (A4.out.low B7.out); have D7 := Lib.hid (D4.out.low B7.out); have f7 := A7.out.i.free 26; have f8 := A7.out.i.free 27; have f9 := A7.out.i.cPgs; have f10 := A7.out.i.cRfs; clear ho7 hg7))
  have A5 := Lib.hid (A7.out.pgs a7 (D.pgs.length + 1) q7)
  have D5 := Lib.hid (show DocS _ (w7.setCell ⟨w.heap.size, 26, none⟩ (.slice a7 (D.pgs.length + 1) q7)) _ { X with pa := a7, pn := D.pgs.length + 1, pc := q7 } _ _ _ _ _ _ from (D7.out.keep ((Kept.refl _ _).setCell _ _) boxT.i).newP (m := W4.heap.size) (O7.out.setOther (fun k hk e => by have h1 := (O7.out.bounds k hk).1; have h2 := A4.out.sz; omega)) (fun k hk => D4.out.hi k hk))
  generalize w7.setCell ⟨w.heap.size, 26, none⟩ (.slice a7 (D.pgs.length + 1) q7) = W5 at *
  obtain ⟨X5, hX5⟩ : ∃ x, x = { X with pa := a7, pn := D.pgs.length + 1, pc := q7 } := ⟨_, rfl⟩
  rw [← hX5] at A5 D5
  have X5D := Lib.hid (show X5.d = X.d by rw [hX5])
  clear hX5 y1 f7 f8 f9 f10
  have A8 := Lib.hid (A5.out.low (Below.refl W5.heap.size W5).drew)
  have D8 := Lib.hid (D5.out.low (Below.refl W5.heap.size W5).drew)
  refine anyH_region (fun w' => DXAt w' w.heap.size X5 ∧ MXAt w' (w.heap.size + 1) Y2) (by kernel_rfl) ?_
  generalize W5.drew = wd at *
  refine tkH (i := 0) (oi := ⟨some 128, _, _, _, _, _⟩) (v := .agg X5.list.toArray) rfl (yieldsIf_load_mid (by rfl) 68 (.tmp 2) rfl w.heap.size 0 rfl X5.list _ (fun w h => h.1.rng) Tryz.underlying68 rfl X5.info) ⟨A8.out.i, A8.out.m⟩ ?reste0
  simp only [Act.put, sT, sZ, sS]
  refine tkH (i := 1) (oi := ⟨some 129, _, _, _, _, _⟩) (v := .agg Y2.list.toArray) rfl (yieldsIf_load_mid (by rfl) 43 (.tmp 3) rfl (w.heap.size + 1) 0 rfl Y2.list _ (fun w h => h.2.rng) Tryz.underlying43 rfl Y2.info) ⟨A8.out.i, A8.out.m⟩ ?reste1
  simp only [Act.put, sT, sZ, sS]
  refine anyH_one (i := 2) (o := ⟨none, _, _, _, _, _⟩) (by kernel_rfl) rfl (fun K hK => ?_)
  rw [if_pos (by rfl)]
  refine wp_store_to 68 (.tmp 4) (.tmp 128) rfl (w.heap.size + 2) 0 X5.list rfl rfl ?_ X5.info X5.one ?_
  ·exact A8.out.ri.there
  intro W8 hW8
  have Q8 := Lib.hid (show SQ w W8 X5 Y2 by rw [hW8]; exact A8.out.ri')
  have D9 := Lib.hid (show DocS _ W8 _ _ _ _ _ _ _ _ by rw [hW8]; exact D8.out.keep (Kept.setCells _ _ _ (Kept.refl _ _)) boxT.ri)
  clear hW8
  refine hK.out _ _ ⟨Q8.out.i, Q8.out.m⟩ ?_
  clear hK K
  try simp only [Act.put]
  refine anyH_one (i := 3) (o := ⟨none, _, _, _, _, _⟩) (by kernel_rfl) rfl (fun K hK => ?_)
  rw [if_pos (by rfl)]
  refine wp_store_to 43 (.tmp 5) (.tmp 129) rfl (w.heap.size + 3) 0 Y2.list rfl rfl ?_ Y2.info Y2.one ?_
  ·exact Q8.out.rm.there
  intro W9 hW9
  have Q9 := Lib.hid (show SR w W9 X5 Y2 ∧ DXAt W9 w.heap.size X5 ∧ MXAt W9 (w.heap.size + 1) Y2 by rw [hW9]; exact Q8.out.rm')
  have DE := Lib.hid (show DocS _ W9 _ _ _ _ _ _ _ _ by rw [hW9]; exact D9.out.keep (Kept.setCells _ _ _ (Kept.refl _ _)) boxT.rm)
  clear hW9
  refine hK.out _ _ Q9.out.2 ?_
  clear hK K
  try simp only [Act.put]
  refine wpAnyH_done (by kernel_rfl) ?_ _
  go_wp2
  refine bodyPost_ret (v := .tuple #[X5.val, Y2.val]) (results_cell2 rfl _ _ (w.heap.size + 2) (w.heap.size + 3) X5.list Y2.list _ _ rfl rfl Q9.out.1.ri.rng Q9.out.1.rm.rng Tryz.underlying68 rfl X5.info Tryz.underlying43 rfl Y2.info) rfl ?_
  exact StepR.mk' HS2.out X5 Y2 us us' rfl X5D.out Y2L.out (by rw [HO.out, if_neg (by decide)]; exact Y2C.out) DE.out.unbox (Nat.le_succ _) LE.out Q9.out.1.below
 ·have HS2 := Lib.hid (show D.step Y.l X.d ds hd ps L = (D.backE e0, ps, takeL L) by rw [HST.out, if_neg he])
  have b0 : (e0 == 0) = false := by simp [he]
  have b1 : (e0 != 0) = true := by simp [he]
  go_upto_region 19 with (fail)
  have A8 := Lib.hid (A4.out.low (Below.refl W4.heap.size W4).drew)
  have D8 := Lib.hid (D4.out.low (Below.refl W4.heap.size W4).drew)
  refine anyH_region (fun w' => DXAt w' w.heap.size X ∧ MXAt w' (w.heap.size + 1) Y2) (by kernel_rfl) ?_
  generalize W4.drew = wd at *
  refine tkH (i := 0) (oi := ⟨some 116, _, _, _, _, _⟩) (v := .agg X.list.toArray) rfl (yieldsIf_load_mid (by rfl) 68 (.tmp 2) rfl w.heap.size 0 rfl X.list _ (fun w h => h.1.rng) Tryz.underlying68 rfl X.info) ⟨A8.out.i, A8.out.m⟩ ?restk0
  simp only [Act.put, sT, sZ, sS]
  refine tkH (i := 1) (oi := ⟨some 117, _, _, _, _, _⟩) (v := ?vk1) rfl (Or.inl ⟨by rfl, ?hyk1⟩) ⟨A8.out.i, A8.out.m⟩ ?restk1
  case hyk1 => (intro w hSw; go_simp; try (with_reducible rfl))
  simp only [Act.put, sT, sZ, sS]
  refine tkH (i := 3) (oi := ⟨some 119, _, _, _, _, _⟩) (v := .agg Y2.list.toArray) rfl (yieldsIf_load_mid (by rfl) 43 (.tmp 3) rfl (w.heap.size + 1) 0 rfl Y2.list _ (fun w h => h.2.rng) Tryz.underlying43 rfl Y2.info) ⟨A8.out.i, A8.out.m⟩ ?restk3
  simp only [Act.put, sT, sZ, sS]
  refine anyH_one (i := 2) (o := ⟨some 118, _, _, _, _, _⟩) (by kernel_rfl) rfl (fun K hK => ?_)
  rw [if_pos (by rfl)]
  go_simp
  refine (iBack_any X e0 _ HBL.out).mono ?_
  rintro e5 w5 ⟨rfl, hs⟩
  have A5 := Lib.hid (A8.out.low hs)
  have D5 := Lib.hid (D8.out.low hs)
  clear hs
  refine hK.out _ _ ⟨A5.out.i, A5.out.m⟩ ?_
  clear hK K
  try simp only [Act.put, sT, sZ, sS]
  refine anyH_one (i := 4) (o := ⟨none, _, _, _, _, _⟩) (by kernel_rfl) rfl (fun K hK => ?_)
  rw [if_pos (by rfl)]
  refine wp_store_to 68 (.tmp 4) (.tmp 118) rfl (w.heap.size + 2) 0 (X.backE e0).list rfl rfl ?_ (X.backE e0).info (X.backE e0).one ?_
  ·exact A5.out.ri.there
  intro W8 hW8
  have Q8 := Lib.hid (show SQ2 w W8 X (X.backE e0) Y2 by rw [hW8]; exact A5.out.ri2)
  have D9 := Lib.hid (show DocS _ W8 _ _ _ _ _ _ _ _ by rw [hW8]; exact D5.out.keep (Kept.setCells _ _ _ (Kept.refl _ _)) boxT.ri)
  clear hW8
  refine hK.out _ _ ⟨Q8.out.i, Q8.out.m⟩ ?_
  clear hK K
  try simp only [Act.put]
  refine anyH_one (i := 5) (o := ⟨none, _, _, _, _, _⟩) (by kernel_rfl) rfl (fun K hK => ?_)
  rw [if_pos (by rfl)]
  refine wp_store_to 43 (.tmp 5) (.tmp 119) rfl (w.heap.size + 3) 0 Y2.list rfl rfl ?_ Y2.info Y2.one ?_
  ·exact Q8.out.rm.there
  intro W9 hW9
  have Q9 := Lib.hid (show SR w W9 (X.backE e0) Y2 ∧ DXAt W9 w.heap.size X ∧ MXAt W9 (w.heap.size + 1) Y2 by rw [hW9]; exact Q8.out.rm')
  have DE := Lib.hid (show DocS _ W9 _ _ _ _ _ _ _ _ by rw [hW9]; exact (D9.out.keep (Kept.setCells _ _ _ (Kept.refl _ _)) boxT.rm).backE e0)
  clear hW9
  refine hK.out _ _ Q9.out.2 ?_
  clear hK K
  try simp only [Act.put]
  refine wpAnyH_done (by kernel_rfl) ?_ _
  go_wp2
  refine bodyPost_ret (v := .tuple #[(X.backE e0).val, Y2.val]) (results_cell2 rfl _ _ (w.heap.size + 2) (w.heap.size + 3) (X.backE e0).list Y2.list _ _ rfl rfl Q9.out.1.ri.rng Q9.out.1.rm.rng Tryz.underlying68 rfl (X.backE e0).info Tryz.underlying43 rfl Y2.info) rfl ?_
  exact StepR.mk' HS2.out (X.backE e0) Y2 us us' rfl rfl Y2L.out (by rw [HO.out, if_neg (by decide)]; exact Y2C.out) DE.out.unbox (Nat.le_succ _) LE.out Q9.out.1.below
open Go.RowKit
theorem doc_step {w0 w : World} {T : Nat → Prop} {X : DX} {Y : MX} {D : DI} {ps : List Pt} {L : List Pg} {us : List PuD} {ups : List Up} {i : Ins} {e : Int} {bs : List RcL} {ds : List RecD} {hd : RecD} (hD : DocS w0 w T X Y D ps L us ups) (hJ : JobR w0 X.d bs ds hd) (hS : Shape i) (hM : Sim X.d i e D) (hu : us.length ≤ 900) (hv : ups.length ≤ 900) (hp : Y.l.p ≤ 256) (hlm : Y.l.s ≤ 4096 ∧ Y.l.c ≤ 1099511627776) :
  Calls Tryz.prog 12 #[X.val, Y.val] w (StepR w0 w T ds hd X Y D ps L us ups) := by
 obtain ⟨hn4, ht4, hp5, hw4, -, hsh⟩ := hS
 by_cases h0 : i.st = 0
 ·exact iStep12_over ds hd hD (by rw [hM.over]; exact decide_eq_true h0)
 have ho : D.over = false := by rw [hM.over]; exact decide_eq_false h0
 by_cases h6 : i.st ≤ 6
 ·obtain ⟨j1, j2, j3, j4⟩ := hM.job ⟨by omega, h6⟩
  obtain ⟨f1, f2, f3, f4, f5, f6⟩ := hM.fwd ⟨by omega, h6⟩
  have hpl : D.pgs.length = i.tk := by rw [f4, pgsL_len]
  have hrl : D.rfs.length = i.pt := by rw [f5, rfsL_len]
  have c : (i.tk < i.news) ∨ (i.tk = i.news ∧ i.pt < i.news) ∨ (i.tk = i.news ∧ i.pt = i.news ∧ i.sw = i.news) ∨ (i.tk = i.news ∧ i.pt = i.news ∧ i.sw < i.news) ∨ (i.tk = i.news ∧ i.pt = i.news + 1 ∧ i.sw = i.news) := by
   rcases hsh with g | g | g | g | g | g | g | g | g
   ·exact absurd g.1 h0
   ·exact .inl g.2.1
   ·obtain ⟨-, g1, g2, g3, -⟩ := g
    omega
   ·exact .inr (.inl ⟨g.2.2.1, g.2.2.2.1⟩)
   ·exact .inr (.inr (.inr (.inl ⟨g.2.2.1, g.2.2.2.1, g.2.2.2.2.1⟩)))
   ·exact .inr (.inr (.inl ⟨g.2.2.1, g.2.2.2.1, g.2.2.2.2.1⟩))
   ·exact .inr (.inr (.inr (.inr ⟨g.2.2.1, g.2.2.2.1, g.2.2.2.2.1⟩)))
   ·have := g.1; omega
   ·have := g.1; omega
  rcases c with c | ⟨c1, c2⟩ | ⟨c1, c2, c3⟩ | ⟨c1, c2, c3⟩ | ⟨c1, c2, c3⟩
  ·exact iStep12_take ds hd hD ho f1 (by omega) (by omega) hv hp
  ·exact iStep12_putB ds hd hD hJ ho f1 (by omega) (by omega) (by omega) hu hlm
  ·exact iStep12_putH ds hd hD hJ ho f1 (by omega) (by omega) (by omega) (by omega) hu hlm
  ·exact iStep12_swapS (n := i.news) (s := i.sw) ds hd hD ho f1 j4.symm (by omega) (by omega) f6 c3 (by omega) hv
  ·exact iStep12_swapT (n := i.news) ds hd hD ho f1 j4.symm (by omega) (by omega) (by omega) (by omega) hv
 ·have h78 : i.st = 7 ∨ i.st = 8 := by
   rcases hsh with g | g | g | g | g | g | g | g | g
   ·exact absurd g.1 h0
   ·have := g.1; omega
   ·have := g.1; omega
   ·have := g.1; omega
   ·have := g.1; omega
   ·have := g.1; omega
   ·have := g.1; omega
   ·exact .inl g.1
   ·exact .inr g.1
  obtain ⟨f1, f2, f3, f4, f5⟩ := hM.bck h78
  have hpl : D.pgs.length = i.tk := by rw [f4, pgsL_len]
  have hrl : D.rfs.length = i.pt := by rw [f5, rfsL_len]
  rcases hsh with g | g | g | g | g | g | g | g | g
  ·exact absurd g.1 h0
  ·have := g.1; omega
  ·have := g.1; omega
  ·have := g.1; omega
  ·have := g.1; omega
  ·have := g.1; omega
  ·have := g.1; omega
  ·exact iStep12_free ds hd hD ho f1 (by have := g.2.2.1; omega) (by omega) hu
  ·exact iStep12_give ds hd hD ho f1 (by have := g.2.2.1; omega) (by have := g.2.2.2.1; omega) (by omega) hv
open Go.RowKit
def DX.begin (d : JbD) : DX := ⟨d, false, false, false, 0, none, 0, 0, none, 0, 0, 0⟩
def DX.wrong (d : JbD) : DX := ⟨d, false, true, false, 1, none, 0, 0, none, 0, 0, 0⟩
theorem built_dx (d : JbD) : Tryz.prog.built 68 [(0, .agg d.cells.toArray)] = some (DX.begin d).list.toArray := by kernel_rfl
theorem built_dw (d : JbD) : Tryz.prog.built 68 [(0, .agg d.cells.toArray), (3, .bool true), (5, .int .i64 1)] = some (DX.wrong d).list.toArray := by kernel_rfl
structure JA (w0 w : World) (d : JbD) : Prop where
 j : w.heap[w0.heap.size]? = some (.cells d.cells.toArray 57 (0, 0))
 r : DXAt w (w0.heap.size + 1) DX.zero
 below : Below w0.heap.size w0 w
theorem JA.start (w : World) (d : JbD) : JA w ((w.alloc (.cells d.cells.toArray 57)).alloc (.cells DX.zero.list.toArray 68)) d := by
 obtain ⟨w1, hw1⟩ : ∃ x, x = w.alloc (.cells d.cells.toArray 57) := ⟨_, rfl⟩
 have z1 : w1.heap.size = w.heap.size + 1 := by rw [hw1]; simp
 have b1 : Below w.heap.size w w1 := by rw [hw1]; exact alloc_below0 _ _
 have k0 : w1.heap[w.heap.size]? = some (.cells d.cells.toArray 57 (0, 0)) := by rw [hw1]; exact blk_new _ _
 rw [← hw1]
 have b2 := alloc_below0 w1 (.cells DX.zero.list.toArray 68)
 exact ⟨blk_step k0 b2, by rw [← z1]; exact DXAt.new _ _, b1.trans (b2.mono b1.size)⟩
theorem iBegin12_y (d : JbD) (w : World) (h0 : 0 ≤ d.news) (h4 : d.news ≤ 4) : Calls Tryz.prog 10 #[.agg d.cells.toArray] w fun ev w' => ev = .returned (DX.begin d).val ∧ Below w.heap.size w w' := by
 obtain ⟨W0, hW0⟩ : ∃ W, W = ((w.alloc (.cells d.cells.toArray 57)).alloc (.cells DX.zero.list.toArray 68)) := ⟨_, rfl⟩
 have A0 := Lib.hid (show JA w W0 d by rw [hW0]; exact JA.start w d)
 have hzl : DX.zero.list.toArray = #[.int .i64 0, .int .i64 0, .int .i64 0, .int .i64 0, .slice none 0 0, .int .i64 0, .string ⟨#[]⟩, .string ⟨#[]⟩, .bool false, .int .i64 0, .slice none 0 0, .slice none 0 0, .string ⟨#[]⟩, .string ⟨#[]⟩, .int .i64 0, .int .i64 0, .int .i64 0, .string ⟨#[]⟩, .int .i64 0, .int .i64 0, .int .i64 0, .bool false, .bool false, .bool false, .bool false, .int .i64 0, .slice none 0 0, .slice none 0 0, .int .i64 0] := rfl
 rw [hzl] at hW0
 clear hzl
 have y0 : W0.cell? ⟨w.heap.size, 3, none⟩ = some (.int .i64 d.news) := blk_cell A0.out.j 3
 have RJ := Lib.hid (show W0.rangeAt w.heap.size 0 d.cells from blk_rng A0.out.j)
 have BT := Lib.hid (built_dx d)
 have IJ := Lib.hid (show (Tryz.prog.info? 57).map (·.size) = some d.cells.length from jobInfo21)
 have n1 : ¬ d.news < 0 := by omega
 have n2 : ¬ 4 < d.news := by omega
 generalize hdl : d.cells = dl at hW0 BT RJ IJ ⊢
 clear hdl
 go_enter Tryz.func10, Tryz.ntmps10
 go_upto_region 1 with (fail)
 rw [← hW0]
 clear hW0
 go_upto_region 3 with (fail)
 go_wp2_with (first
  | (refine wpList_load_mid rfl 57 (.tmp 1) rfl w.heap.size 0 rfl dl _ ?_ Tryz.underlying57 rfl IJ.out ?_; exact RJ.out)
  | (refine wpList_build_to rfl 68 _ rfl (DX.begin d).list.toArray ?_ ?_; exact (congrArg (Program.built Tryz.prog 68) (by rfl)).trans BT.out)
  | (refine wpList_store_to rfl 68 (.tmp 2) (.tmp 14) rfl (w.heap.size + 1) 0 (DX.begin d).list rfl rfl ?_ (DX.begin d).info (DX.begin d).one ?_; exact A0.out.r.there; intro W5 hW5; have Z5 := Lib.hid (show DXAt W5 (w.heap.size + 1) (DX.begin d) by rw [hW5]; exact dx_laid A0.out.r _); have B5 := Lib.hid (show Below w.heap.size w W5 by rw [hW5]; exact below_setCells (by omega) _ 0 _ A0.out.below); clear hW5))
 exact bodyPost_ret (v := (DX.begin d).val) (results_cell1 rfl _ _ (w.heap.size + 1) (DX.begin d).list _ rfl Z5.out.rng Tryz.underlying68 rfl (DX.begin d).info) rfl ⟨rfl, B5.out⟩
theorem iBegin12_l (d : JbD) (w : World) (h0 : d.news < 0) : Calls Tryz.prog 10 #[.agg d.cells.toArray] w fun ev w' => ev = .returned (DX.wrong d).val ∧ Below w.heap.size w w' := by
 obtain ⟨W0, hW0⟩ : ∃ W, W = ((w.alloc (.cells d.cells.toArray 57)).alloc (.cells DX.zero.list.toArray 68)) := ⟨_, rfl⟩
 have A0 := Lib.hid (show JA w W0 d by rw [hW0]; exact JA.start w d)
 have hzl : DX.zero.list.toArray = #[.int .i64 0, .int .i64 0, .int .i64 0, .int .i64 0, .slice none 0 0, .int .i64 0, .string ⟨#[]⟩, .string ⟨#[]⟩, .bool false, .int .i64 0, .slice none 0 0, .slice none 0 0, .string ⟨#[]⟩, .string ⟨#[]⟩, .int .i64 0, .int .i64 0, .int .i64 0, .string ⟨#[]⟩, .int .i64 0, .int .i64 0, .int .i64 0, .bool false, .bool false, .bool false, .bool false, .int .i64 0, .slice none 0 0, .slice none 0 0, .int .i64 0] := rfl
 rw [hzl] at hW0
 clear hzl
 have y0 : W0.cell? ⟨w.heap.size, 3, none⟩ = some (.int .i64 d.news) := blk_cell A0.out.j 3
 have RJ := Lib.hid (show W0.rangeAt w.heap.size 0 d.cells from blk_rng A0.out.j)
 have BT := Lib.hid (built_dw d)
 have IJ := Lib.hid (show (Tryz.prog.info? 57).map (·.size) = some d.cells.length from jobInfo21)
 generalize hdl : d.cells = dl at hW0 BT RJ IJ ⊢
 clear hdl
 go_enter Tryz.func10, Tryz.ntmps10
 go_upto_region 1 with (fail)
 rw [← hW0]
 clear hW0
 go_upto_region 2 with (fail)
 go_wp2_with (first
  | (refine wpList_load_mid rfl 57 (.tmp 1) rfl w.heap.size 0 rfl dl _ ?_ Tryz.underlying57 rfl IJ.out ?_; exact RJ.out)
  | (refine wpList_build_to rfl 68 _ rfl (DX.wrong d).list.toArray ?_ ?_; exact (congrArg (Program.built Tryz.prog 68) (by rfl)).trans BT.out)
  | (refine wpList_store_to rfl 68 (.tmp 2) (.tmp 12) rfl (w.heap.size + 1) 0 (DX.wrong d).list rfl rfl ?_ (DX.wrong d).info (DX.wrong d).one ?_; exact A0.out.r.there; intro W5 hW5; have Z5 := Lib.hid (show DXAt W5 (w.heap.size + 1) (DX.wrong d) by rw [hW5]; exact dx_laid A0.out.r _); have B5 := Lib.hid (show Below w.heap.size w W5 by rw [hW5]; exact below_setCells (by omega) _ 0 _ A0.out.below); clear hW5))
 exact bodyPost_ret (v := (DX.wrong d).val) (results_cell1 rfl _ _ (w.heap.size + 1) (DX.wrong d).list _ rfl Z5.out.rng Tryz.underlying68 rfl (DX.wrong d).info) rfl ⟨rfl, B5.out⟩
theorem iBegin12_g (d : JbD) (w : World) (h0 : 0 ≤ d.news) (h4 : 4 < d.news) : Calls Tryz.prog 10 #[.agg d.cells.toArray] w fun ev w' => ev = .returned (DX.wrong d).val ∧ Below w.heap.size w w' := by
 obtain ⟨W0, hW0⟩ : ∃ W, W = ((w.alloc (.cells d.cells.toArray 57)).alloc (.cells DX.zero.list.toArray 68)) := ⟨_, rfl⟩
 have A0 := Lib.hid (show JA w W0 d by rw [hW0]; exact JA.start w d)
 have hzl : DX.zero.list.toArray = #[.int .i64 0, .int .i64 0, .int .i64 0, .int .i64 0, .slice none 0 0, .int .i64 0, .string ⟨#[]⟩, .string ⟨#[]⟩, .bool false, .int .i64 0, .slice none 0 0, .slice none 0 0, .string ⟨#[]⟩, .string ⟨#[]⟩, .int .i64 0, .int .i64 0, .int .i64 0, .string ⟨#[]⟩, .int .i64 0, .int .i64 0, .int .i64 0, .bool false, .bool false, .bool false, .bool false, .int .i64 0, .slice none 0 0, .slice none 0 0, .int .i64 0] := rfl
 rw [hzl] at hW0
 clear hzl
 have y0 : W0.cell? ⟨w.heap.size, 3, none⟩ = some (.int .i64 d.news) := blk_cell A0.out.j 3
 have RJ := Lib.hid (show W0.rangeAt w.heap.size 0 d.cells from blk_rng A0.out.j)
 have BT := Lib.hid (built_dw d)
 have IJ := Lib.hid (show (Tryz.prog.info? 57).map (·.size) = some d.cells.length from jobInfo21)
 have n1 : ¬ d.news < 0 := by omega
 generalize hdl : d.cells = dl at hW0 BT RJ IJ ⊢
 clear hdl
 go_enter Tryz.func10, Tryz.ntmps10
 go_upto_region 1 with (fail)
 rw [← hW0]
 clear hW0
 go_upto_region 2 with (fail)
 go_wp2_with (first
  | (refine wpList_load_mid rfl 57 (.tmp 1) rfl w.heap.size 0 rfl dl _ ?_ Tryz.underlying57 rfl IJ.out ?_; exact RJ.out)
  | (refine wpList_build_to rfl 68 _ rfl (DX.wrong d).list.toArray ?_ ?_; exact (congrArg (Program.built Tryz.prog 68) (by rfl)).trans BT.out)
  | (refine wpList_store_to rfl 68 (.tmp 2) (.tmp 12) rfl (w.heap.size + 1) 0 (DX.wrong d).list rfl rfl ?_ (DX.wrong d).info (DX.wrong d).one ?_; exact A0.out.r.there; intro W5 hW5; have Z5 := Lib.hid (show DXAt W5 (w.heap.size + 1) (DX.wrong d) by rw [hW5]; exact dx_laid A0.out.r _); have B5 := Lib.hid (show Below w.heap.size w W5 by rw [hW5]; exact below_setCells (by omega) _ 0 _ A0.out.below); clear hW5))
 exact bodyPost_ret (v := (DX.wrong d).val) (results_cell1 rfl _ _ (w.heap.size + 1) (DX.wrong d).list _ rfl Z5.out.rng Tryz.underlying68 rfl (DX.wrong d).info) rfl ⟨rfl, B5.out⟩
open Go.RowKit
theorem settle_begin0 (page os og : Int) (f : Fn) (a c : Array Value) : settleI (beginI page os og 0 (.func f a c)) = { beginI page os og 0 (.func f a c) with st := 2 } := rfl
theorem settle_beginN (page os og : Int) (n : Nat) (hn : 0 < n) (f : Fn) (a c : Array Value) : settleI (beginI page os og n (.func f a c)) = beginI page os og n (.func f a c) := by
 have b1 : (beginI page os og n (.func f a c)).busyB = true := decide_eq_true hn
 show settleGo 8 _ = _
 rw [settleGo, if_pos b1]
def limW : LimN := ⟨9, 3, 1, 4, 4, 99⟩
theorem limW_ok : limW.ok := by constructor <;> decide
theorem aw_alloc : allocM 9 99 psB = (2, 1, 0) := by decide
def awPs : List Pt := psB ++ [⟨2, 1, awD, true⟩]
theorem aw_put : putM 9 99 psB awD = awPs := by unfold putM; rw [aw_alloc]; rfl
theorem aw_swap : swapB (pgs1 3) 0 (1, 1) = true := by decide
def awL : List Pg := [some (2, 1), none, none]
theorem aw_swapL : swapL (pgs1 3) 0 (1, 1) (2, 1) = awL := by decide
theorem aw_head : headT (pgs1 3) 0 = (1, 1) ∧ codeT (pgs1 3) 0 = 0 := by decide
theorem aw_chain : chM 9 awPs awL 0 = ([(awD.sc, (2, 1)), (baseD.sc, (1, 1))], 0) := rfl
def awI (hb : Nat) : Ins := { beginI 0 1 1 0 (.func (.func 22) #[] #[.pointer (some ⟨hb, 0, none⟩)]) with st := 2 }
def awJ (hb : Nat) (rc : Nat → Nat → Value) : Ins := { fillI (madeI (awI hb) rc) (2, 1) with st := 6 }
theorem aw_set (hb : Nat) (rc : Nat → Nat → Value) : settleI (fillI (madeI (awI hb) rc) (2, 1)) = awJ hb rc := rfl
theorem aw_end (hb : Nat) (rc : Nat → Nat → Value) : settleI (succI (swapI (awJ hb rc))) = succI (swapI (awJ hb rc)) := rfl
theorem awakeN (w : World) : Calls Tryz.prog 5 #[] w fun ev w' => ev = .returned (.bool true) ∧ Below w.heap.size w w' := by
 have fn := fun w => mem_new limW limW_ok w
 unfold limV limW LimN.z at fn
 go_enter Tryz.func5, Tryz.ntmps5
 go_wp2_with fail
 refine (fn _).mono ?_
 rintro ev w1 ⟨m, S, rfl, hM, hF, hs⟩
 have M1 := Lib.hid (show MemAt w1 m S limW 0 psB (pgs1 3) (Ck.new limW.t limW.c) from hM)
 have F1 := Lib.hid hF
 have B1 := Lib.hid hs
 clear hM hF hs fn
 go_wp2_with fail
 refine (nHead_any _ m S limW 0 _ _ _ 0 M1.out).mono ?_
 rw [aw_head.1, aw_head.2]
 rintro ev w2 ⟨v2, rfl, he, hM, hk⟩
 obtain rfl := he.nil rfl
 have M2 := Lib.hid hM
 have F2 := Lib.hid (show ∀ k, MS m S k → w.heap.size ≤ k from F1.out)
 have B2 := Lib.hid (B1.out.trans (hk.below F2.out B1.out.size))
 clear he hM hk
 unfold refV
 have b3 := alloc_below0 w2 (.cells #[.int .i64 1, .int .i64 1] 48)
 have M3 := Lib.hid (M2.out.low b3)
 have B3 := Lib.hid (B2.out.trans (b3.mono B2.out.size))
 have R3 := Lib.hid (RfB.mk (blk_new w2 (.cells #[.int .i64 1, .int .i64 1] 48)))
 have x0 := R3.out.c0
 have x1 := R3.out.c1
 have hmf := run_makeFunc
 clear b3
 have fb := fun w => begin_y 0 1 1 0 (.func 22) #[] #[.pointer (some ⟨w2.heap.size, 0, none⟩)] (by decide) w
 rw [settle_begin0] at fb
 unfold jobV at fb
 go_wp2_with fail
 generalize hwa : w2.alloc (.cells #[.int .i64 1, .int .i64 1] 48) = wa at *
 generalize hhb : w2.heap.size = hb at *
 refine (fb _).mono ?_
 rintro ev w4 ⟨b, rfl, hI, hlb, hs⟩
 have I4 := Lib.hid (show InsAt w4 b (awI hb) from hI)
 have M4 := Lib.hid (M3.out.low hs)
 have B4 := Lib.hid (B3.out.trans (hs.mono B3.out.size))
 have R4 := Lib.hid (R3.out.step hs)
 have HB4 := Lib.hid (show ¬ MS m S b from fun h => by have := M3.out.lt b h; omega)
 have NB := Lib.hid (show w.heap.size ≤ b ∧ hb ≠ b ∧ ¬ MS m S hb from ⟨by have := B3.out.size; omega, (by have := R3.out.lt; omega), fun h => by rw [← hhb] at h; have := M2.out.lt _ h; omega⟩)
 clear hI hlb hs fb x0 x1 hmf hwa hhb
 go_wp2_with fail
 refine (iStep2a 22 hF_aw #[.pointer (some ⟨hb, 0, none⟩)] _ b (awI hb) m S limW _ _ _ _ I4.out M4.out HB4.out (.inr ⟨_, _, _, rfl⟩) (.inl rfl) (fun _ => False) (fun _ => False) (fun x => MS m S x ∨ x = b) (fun h => h) (fun _ _ h => h) [] awD rfl rfl rfl (by show 0 ≤ 4; decide) (by show 0 ≤ 4; decide) rfl rfl rfl
  (fun x hx => hx.elim (M4.out.lt x) (fun e => e ▸ I4.out.lt)) (.inr rfl) (fun _ h => .inl h) (fun _ h => h.elim) id (fun _ _ h => h) (fun w1' pv hk ho => awake1_any _ hb pv w1' (R4.out.keep hk NB.out.2.1))).mono ?_
 rintro ev w5 ⟨S', rc', j, rfl, hI, hM, hk, hS, hR, -, hj⟩
 have hj2 : j = fillI (madeI (awI hb) rc') (2, 1) := by
  rcases hj with ⟨-, h⟩ | ⟨h, -⟩
  ·rw [h]; show fillI _ (((allocM 9 99 psB).1 : Int), ((allocM 9 99 psB).2.1 : Int)) = _; rw [aw_alloc]; rfl
  ·exact absurd (show (allocM 9 99 psB).2.2 = 0 by rw [aw_alloc]) h
 subst hj2
 rw [aw_set] at hI ⊢
 have I5 := Lib.hid hI
 have M5 := Lib.hid (show MemAt w5 m S' limW _ awPs (pgs1 3) _ from aw_put ▸ hM)
 have F5 := Lib.hid (show ∀ k, MS m S' k → w.heap.size ≤ k from fun k h => (hS k h).elim (F2.out k) (fun h => by have := B4.out.size; omega))
 have B5 := Lib.hid (B4.out.trans (hk.below (n := w.heap.size) (fun k h => h.elim (fun h => h.elim (F2.out k) (fun e => e ▸ NB.out.1)) (fun h => h.elim)) B4.out.size))
 have HB5 := Lib.hid (show ¬ MS m S' b from fun h => (hS b h).elim HB4.out (fun h => by have := I4.out.lt; omega))
 clear hI hM hk hS hR hj
 have e5 : (((awJ hb rc').st : Int) == 0) = false := rfl
 rw [e5]
 clear e5
 go_wp2_with fail
 refine (iStep6 _ b (awJ hb rc') m S' limW _ _ _ _ I5.out M5.out HB5.out (.inl rfl) (.inl rfl) rfl (by show 0 < 5; decide)).mono ?_
 rintro ev w6 ⟨S6, j, rfl, hI, hM, hk, hS, hj⟩
 have hj2 : j = succI (swapI (awJ hb rc')) := by
  rcases hj with ⟨-, h⟩ | ⟨h, -⟩
  ·exact h
  ·have h' : swapB (pgs1 3) 0 (1, 1) = false := h
   rw [aw_swap] at h'
   cases h'
 subst hj2
 rw [aw_end] at hI ⊢
 have I6 := Lib.hid hI
 have M6 := Lib.hid (show MemAt w6 m S6 limW _ awPs awL _ from aw_swapL ▸ hM)
 have B6 := Lib.hid (B5.out.trans (hk.below (n := w.heap.size) (fun k h => h.elim (fun h => h.elim (F5.out k) (fun e => e ▸ NB.out.1)) (fun h => h.elim)) B5.out.size))
 clear hI hM hk hS hj
 have e6 : (((succI (swapI (awJ hb rc'))).st : Int) == 0) = true := rfl
 rw [e6]
 clear e6
 go_wp2_with fail
 refine (done_any _ b _ I6.out rfl).mono ?_
 rintro ev w7 ⟨rfl, hs⟩
 have I7 := Lib.hid (I6.out.step hs)
 have M7 := Lib.hid (M6.out.low hs)
 have B7 := Lib.hid (B6.out.trans (hs.mono B6.out.size))
 clear hs
 have e7 : (succI (swapI (awJ hb rc'))).dn = true ∧ (succI (swapI (awJ hb rc'))).er = .nilIface := ⟨rfl, rfl⟩
 rw [e7.1, e7.2]
 clear e7
 go_wp2_with fail
 refine (chain_any _ m S6 limW _ _ _ _ 0 M7.out).mono ?_
 rw [show chM limW.s awPs awL 0 = ([(awD.sc, (2, 1)), (baseD.sc, (1, 1))], 0) from aw_chain]
 rintro ev w8 ⟨v1, v2, v3, ds, rfl, hm, o1, o2, he, hs⟩
 have hds : ds.length = 2 := by have := congrArg List.length hm; simpa using this
 obtain ⟨a1, c1, rfl, -, -⟩ := o1.sv.lenform
 have I8 := Lib.hid (I7.out.step hs)
 have B8 := Lib.hid (B7.out.trans (hs.mono B7.out.size))
 rw [hds]
 clear hs hm o1 o2 he hds
 go_wp2_with fail
 refine (ihead_any _ b _ I8.out rfl (by show 0 < 1; decide) (by show 1 ≤ 5; decide)).mono ?_
 rintro ev w9 ⟨rfl, hs⟩
 have B9 := Lib.hid (B8.out.trans (hs.mono B8.out.size))
 have e9 : (succI (swapI (awJ hb rc'))).rf ((succI (swapI (awJ hb rc'))).pt - 1) = (2, 1) := rfl
 rw [e9]
 unfold refV
 clear hs e9
 go_wp2
 go_ret
 exact ⟨rfl, B9.out⟩
open Go.RowKit
structure DocM (w0 w : World) (T : Nat → Prop) (Y : MX) (ps : List Pt) (L : List Pg) (us : List PuD) (ups : List Up) : Prop where
 bl : Below w0.heap.size w0 w
 lo : ∀ k, T k → w0.heap.size ≤ k
 hi : ∀ k, T k → k < w.heap.size
 ar : SV lPut w (.slice Y.qa Y.qn Y.qc) us
 ao : OutL w T (.slice Y.qa Y.qn Y.qc)
 rc : ∀ e ∈ us, SV lRow w0 e.rv e.rows ∧ SV lEnt w0 e.en e.ents
 am : us.map PuD.pt = ps
 tb : OwnS lUp 0 w (.slice Y.ta Y.tn Y.tc) ups
 ot : OutL w T (.slice Y.ta Y.tn Y.tc)
 rk : RefOk ups L
 ln : L.length = Y.l.p
structure DocI (w : World) (T : Nat → Prop) (X : DX) (D : DI) : Prop where
 back : X.back = D.back
 over : X.over = D.over
 done : X.done = D.done
 err : X.err = D.err
 links : X.links = D.links
 pg : SV lInt w (.slice X.pa X.pn X.pc) D.pgs
 po : OutL w T (.slice X.pa X.pn X.pc)
 rf : SV lRef w (.slice X.ra X.rn X.rc) D.rfs
 ro : OutL w T (.slice X.ra X.rn X.rc)
section
variable {w0 w w' : World} {T T' : Nat → Prop} {X : DX} {Y : MX} {D : DI} {ps : List Pt} {L : List Pg} {us : List PuD} {ups : List Up}
theorem DocS.mem (h : DocS w0 w T X Y D ps L us ups) : DocM w0 w T Y ps L us ups := ⟨h.bl, h.lo, h.hi, h.ar, h.ao, h.rc, h.am, h.tb, h.ot, h.rk, h.ln⟩
theorem DocS.inst (h : DocS w0 w T X Y D ps L us ups) : DocI w T X D := ⟨h.back, h.over, h.done, h.err, h.links, h.pg, h.po, h.rf, h.ro⟩
theorem DocM.both (h : DocM w0 w T Y ps L us ups) (k : DocI w T X D) : DocS w0 w T X Y D ps L us ups :=
 ⟨h.bl, h.lo, h.hi, k.back, k.over, k.done, k.err, k.links, k.pg, k.po, k.rf, k.ro, h.ar, h.ao, h.rc, h.am, h.tb, h.ot, h.rk, h.ln⟩
theorem DocI.grow (h : DocI w T X D) {S : Nat → Prop} (hk : Kept S w w') (hS : ∀ k, S k → T k) (hT : ∀ k, T' k → T k ∨ w.heap.size ≤ k) : DocI w' T' X D :=
 { h with pg := h.pg.kept hk (h.po.out hS), po := h.po.grow hk.size hT, rf := h.rf.kept hk (h.ro.out hS), ro := h.ro.grow hk.size hT }
theorem DocI.low (h : DocI w T X D) (hs : Below w.heap.size w w') : DocI w' T X D := h.grow (Kept.of_below (S := fun _ => False) hs) (fun _ q => q.elim) (fun _ q => .inl q)
def DI.begin : DI := ⟨false, false, false, 0, [], [], 0⟩
def DI.wrong : DI := ⟨true, false, false, 1, [], [], 0⟩
theorem OutL.none (w : World) (T : Nat → Prop) : OutL w T (.slice none 0 0) := fun _ _ _ e => by cases e
theorem DocI.begin (w : World) (T : Nat → Prop) (d : JbD) : DocI w T (DX.begin d) DI.begin := ⟨rfl, rfl, rfl, rfl, rfl, SV.nil _ _, OutL.none _ _, SV.nil _ _, OutL.none _ _⟩
theorem DocI.wrong (w : World) (T : Nat → Prop) (d : JbD) : DocI w T (DX.wrong d) DI.wrong := ⟨rfl, rfl, rfl, rfl, rfl, SV.nil _ _, OutL.none _ _, SV.nil _ _, OutL.none _ _⟩
theorem DocM.grow (h : DocM w0 w T Y ps L us ups) {S : Nat → Prop} (hk : Kept S w w') (hS : ∀ k, S k → T k) (hT : ∀ k, T' k → T k ∨ w.heap.size ≤ k) (hT2 : ∀ k, T' k → k < w'.heap.size) : DocM w0 w' T' Y ps L us ups :=
 ((h.both (X := DX.begin ⟨0, 0, 0, 0, none, 0, 0, ⟨Sc.zero, none, 0, 0, none, 0, 0⟩, 0⟩) (DocI.begin _ _ _)).grow hk hS hT hT2).mem
theorem DocM.low (h : DocM w0 w T Y ps L us ups) (hs : Below w.heap.size w w') : DocM w0 w' T Y ps L us ups := ((h.both (X := DX.begin ⟨0, 0, 0, 0, none, 0, 0, ⟨Sc.zero, none, 0, 0, none, 0, 0⟩, 0⟩) (DocI.begin _ _ _)).low hs).mem
theorem DocM.chain (h : DocM w0 w T Y ps L us ups) (hl : Y.l.ok) (p : Int) : Calls Tryz.prog 57 #[Y.val, .int .i64 p] w (RChainF w0 w (chF Y.l.s ps L p)) :=
 rChainF (h.both (X := DX.begin ⟨0, 0, 0, 0, none, 0, 0, ⟨Sc.zero, none, 0, 0, none, 0, 0⟩, 0⟩) (DocI.begin _ _ _)) hl p
theorem DocM.step {i : Ins} {e : Int} {bs : List RcL} {ds : List RecD} {hd : RecD} (h : DocM w0 w T Y ps L us ups) (k : DocI w T X D) (hJ : JobR w0 X.d bs ds hd) (hS : Shape i) (hM : Sim X.d i e D) (hu : us.length ≤ 900) (hv : ups.length ≤ 900) (hl : Y.l.ok) :
  Calls Tryz.prog 12 #[X.val, Y.val] w fun ev w' => ∃ X' Y' us' ups', ev = .returned (.tuple #[X'.val, Y'.val]) ∧ X'.d = X.d ∧ Y'.l = Y.l ∧ Y'.count = (if D.over = true then Y.count else IntKind.i64.wrap (Y.count + 1)) ∧
   DocM w0 w' T Y' (D.step Y.l X.d ds hd ps L).2.1 (D.step Y.l X.d ds hd ps L).2.2 us' ups' ∧ DocI w' T X' (D.step Y.l X.d ds hd ps L).1 ∧ us'.length ≤ us.length + 1 ∧ ups'.length ≤ ups.length + 1 ∧ Below w.heap.size w w' :=
 (doc_step (h.both k) hJ hS hM hu hv (by have := hl.p2; omega) ⟨hl.s2, hl.c2⟩).mono (fun ev w' q => by
  obtain ⟨X', Y', us', ups', h1, h2, h3, h4, h5, h6, h7, h8⟩ := q
  exact ⟨X', Y', us', ups', h1, h2, h3, h4, h5.mem, h5.inst, h6, h7, h8⟩)
end
open Go.RowKit
theorem sim_begin (d : JbD) (n : Nat) (hn : (n : Int) = d.news) (f : Fn) (a c : Array Value) (e : Int) : Sim d (settleI (beginI d.page d.os d.og n (.func f a c))) e DI.begin := by
 by_cases h : n = 0
 ·subst h
  rw [settle_begin0]
  exact sim_fwd ⟨by show 1 ≤ 2; decide, by show 2 ≤ 6; decide⟩ rfl ⟨rfl, rfl, rfl, hn⟩ ⟨rfl, rfl, rfl, rfl, rfl, rfl⟩
 ·rw [settle_beginN _ _ _ n (by omega)]
  exact sim_fwd ⟨by show 1 ≤ 1; decide, by show 1 ≤ 6; decide⟩ rfl ⟨rfl, rfl, rfl, hn⟩ ⟨rfl, rfl, rfl, rfl, rfl, rfl⟩
theorem sim_wrong (d : JbD) (er : Value) : Sim d (Ins.zero er) 1 DI.wrong :=
 ⟨rfl, fun q => by have h : 1 ≤ (0 : Nat) := q.1; omega, fun q => by have h : 1 ≤ (0 : Nat) := q.1; omega, fun q => by have h : (0 : Nat) = 7 ∨ (0 : Nat) = 8 := q; omega, fun _ => ⟨rfl, fun q => (by have h : false = true := q; cases h), fun _ => rfl⟩⟩
theorem step_over {l : LimN} {d : JbD} {ds : List RecD} {hd : RecD} {D : DI} {ps : List Pt} {L : List Pg} (h : D.over = true) : D.step l d ds hd ps L = (D, ps, L) := by unfold DI.step; rw [if_pos h]
open Go.RowKit
theorem mLive_any (w : World) (m : MB) (S : Nat → Prop) (l : LimN) (k : Int) (ps : List Pt) (L : List Pg) (c : Ck) (h : MemAt w m S l k ps L c) :
  Calls Tryz.prog 54 #[.pointer (some ⟨m.mb, 0, none⟩)] w fun ev w' => ∃ v, ev = .returned v ∧ OwnS lRef w.heap.size w' v (liveM l.s ps) ∧ Below w.heap.size w w' := by
 have M0 := Lib.hid h
 have x0 := M0.out.cA
 clear h
 go_enter Tryz.func54, Tryz.ntmps54
 go_wp2_with fail
 refine (live_any m.aa S l.s l.c ps _ M0.out.ar).mono ?_
 rintro ev w1 ⟨v, rfl, ho, hs⟩
 have O1 := Lib.hid ho
 have B1 := Lib.hid hs
 clear ho hs
 go_wp2
 go_ret
 exact ⟨_, rfl, O1.out, B1.out⟩
theorem mPages_any (w : World) (m : MB) (S : Nat → Prop) (l : LimN) (k : Int) (ps : List Pt) (L : List Pg) (c : Ck) (h : MemAt w m S l k ps L c) :
  Calls Tryz.prog 51 #[.pointer (some ⟨m.mb, 0, none⟩)] w fun ev w' => ∃ v, ev = .returned v ∧ OwnS lInt w.heap.size w' v (usedT L) ∧ Below w.heap.size w w' := by
 have M0 := Lib.hid h
 have x0 := M0.out.cT
 clear h
 go_enter Tryz.func51, Tryz.ntmps51
 go_wp2_with fail
 refine (pages_any _ m.ab m.pb l.p L M0.out.tb).mono ?_
 rintro ev w1 ⟨v, rfl, ho, hs⟩
 have O1 := Lib.hid ho
 have B1 := Lib.hid hs
 clear ho hs
 go_wp2
 go_ret
 exact ⟨_, rfl, O1.out, B1.out⟩
theorem mCount_any (w : World) (m : MB) (S : Nat → Prop) (l : LimN) (k : Int) (ps : List Pt) (L : List Pg) (c : Ck) (h : MemAt w m S l k ps L c) :
  Calls Tryz.prog 56 #[.pointer (some ⟨m.mb, 0, none⟩)] w fun ev w' => ev = .returned (.int .i64 k) ∧ Below w.heap.size w w' := by
 have x0 := h.cN
 clear h
 go_enter Tryz.func56, Tryz.ntmps56
 go_wp2
 go_ret
 exact ⟨rfl, Below.refl _ _⟩
end Go.Proofs.YtejmdmaebkdjoaaGreatDoor
