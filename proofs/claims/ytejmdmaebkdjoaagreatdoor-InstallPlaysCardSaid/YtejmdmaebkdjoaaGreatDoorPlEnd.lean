/- What the law reads at its end. -/
import Derived.Test.YtejmdmaebkdjoaaGreatDoorPlMem
import Derived.Test.YtejmdmaebkdjoaaGreatDoorRows
import Derived.Test.YtejmdmaebkdjoaaGreatDoorNsKeep
import Derived.Deep.SlicePairs
import Derived.SizedLaws
import Derived.Test.YtejmdmaebkdjoaaGreatDoorEpLies
import Derived.Test.YtejmdmaebkdjoaaGreatDoorNsJob1
import Derived.Test.YtejmdmaebkdjoaaGreatDoorNsFew
import Derived.Test.YtejmdmaebkdjoaaGreatDoorNsPath
import Derived.Test.YtejmdmaebkdjoaaGreatDoorMmChain
import Derived.Test.YtejmdmaebkdjoaaGreatDoorArFew
import Derived.Test.YtejmdmaebkdjoaaGreatDoorMmOps
import Derived.Test.YtejmdmaebkdjoaaGreatDoorMmRefC
import Derived.Test.YtejmdmaebkdjoaaGreatDoorFltCode
import Derived.Test.YtejmdmaebkdjoaaGreatDoorNsHead
import Derived.Test.YtejmdmaebkdjoaaGreatDoorEpRf
import Derived.Great.BuildSlice
namespace Go.Proofs.YtejmdmaebkdjoaaGreatDoor
set_option linter.unusedVariables false
set_option linter.unusedSimpArgs false
set_option maxRecDepth 100000
set_option maxHeartbeats 4000000
open Go.RowKit
theorem same_any {w0 w : World} {T : Nat → Prop} {Y : MX} {ps : List Pt} {L : List Pg} {us : List PuD} {ups : List Up} (m : MB) (S : Nat → Prop) (c : Ck) (hM : MemAt w m S Y.l Y.count ps L c) (hD : DocM w0 w T Y ps L us ups) (hb : ∀ p e, e ∈ (chF Y.l.s ps L p).1.map Prod.fst → e.rows.length ≤ 1000 ∧ e.ents.length ≤ 1000) :
  Calls Tryz.prog 13 #[.pointer (some ⟨m.mb, 0, none⟩), Y.val] w fun ev w' => ev = .returned (.bool true) ∧ Below w.heap.size w w' := by
 obtain ⟨W0, hW0⟩ : ∃ W, W = w.alloc (.cells Y.list.toArray 43) := ⟨_, rfl⟩
 have B0 := Lib.hid (show Below w.heap.size w W0 by rw [hW0]; exact alloc_below0 _ _)
 have Y0 := Lib.hid (show MXAt W0 w.heap.size Y by rw [hW0]; exact MXAt.new w Y)
 have M0 := Lib.hid (hM.low B0.out)
 have D0 := Lib.hid (hD.low B0.out)
 have OK := Lib.hid hM.ok
 have AM := Lib.hid hD.am
 have HBD := Lib.hid hb
 clear hM hD hb
 unfold MX.val
 generalize hyl : Y.list.toArray = yl at hW0 ⊢
 clear hyl
 go_enter Tryz.func13, Tryz.ntmps13
 go_upto_region 1 with (fail)
 rw [← hW0]
 clear hW0
 try simp only [Act.put]
 go_cut [5, 6] from 16 to 20 (fun s5 s6 wc => (∃ a5 c5, s5 = .slice a5 (usedT L).length c5 ∧ SV lInt wc (.slice a5 (usedT L).length c5) (usedT L)) ∧ (∃ a6 c6, s6 = .slice a6 (usedT L).length c6 ∧ SV lInt wc (.slice a6 (usedT L).length c6) (usedT L)) ∧ Below W0.heap.size W0 wc)
 case first =>
  have BD := Lib.hid (Below.refl W0.heap.size W0).drew
  have HS := Lib.hid (show ∀ w', Below W0.heap.size W0 w' → (fun w' => MXAt w' w.heap.size Y) w' from fun w' h => Y0.out.step h)
  have MD := Lib.hid (M0.out.low BD.out)
  refine anyH_region (fun w' => MXAt w' w.heap.size Y) (by kernel_rfl) ?_
  generalize W0.drew = wd at *
  refine tkH (i := 0) (oi := ⟨some 16, _, _, _, _, _⟩) (v := ?va0) rfl (Or.inl ⟨by rfl, ?hya0⟩) (HS.out _ BD.out) ?resta0
  case hya0 => (intro w hSw; go_simp; try (with_reducible rfl))
  simp only [Act.put, sT, sZ, sS]
  refine tkH (i := 2) (oi := ⟨some 18, _, _, _, _, _⟩) (v := ?va2) rfl (Or.inl ⟨by rfl, ?hya2⟩) (HS.out _ BD.out) ?resta2
  case hya2 => (intro w hSw; go_simp; try (with_reducible rfl))
  simp only [Act.put, sT, sZ, sS]
  refine tkH (i := 3) (oi := ⟨some 19, _, _, _, _, _⟩) (v := .agg (tbL Y Y.ta Y.tn Y.tc).toArray) rfl (yieldsIf_load_mid (by rfl) 38 (.tmp 18) rfl w.heap.size 9 rfl (tbL Y Y.ta Y.tn Y.tc) _ (fun w h => h.table) Tryz.underlying38 rfl tbInfo) (HS.out _ BD.out) ?resta3
  simp only [Act.put, sT, sZ, sS]
  refine anyH_one (i := 1) (o := ⟨some 17, _, _, _, _, _⟩) (by kernel_rfl) rfl (fun K hK => ?_)
  rw [if_pos (by rfl)]
  go_simp
  refine (mPages_any _ m S _ _ ps L c MD.out).mono ?_
  rintro e1 w1 ⟨v1, rfl, ho, hs⟩
  obtain ⟨a5, c5, rfl, -, -⟩ := ho.sv.lenform
  have B1 := Lib.hid (BD.out.trans (hs.mono BD.out.size))
  have V1 := Lib.hid ho.sv
  have D1 := Lib.hid (D0.out.low B1.out)
  clear ho hs
  refine hK.out _ _ (HS.out _ B1.out) ?_
  clear hK K
  try simp only [Act.put, sT, sZ, sS]
  refine anyH_one (i := 4) (o := ⟨some 20, _, _, _, _, _⟩) (by kernel_rfl) rfl (fun K hK => ?_)
  rw [if_pos (by rfl)]
  go_simp
  refine (rf_pages Y.l.p (.slice Y.ta Y.tn Y.tc) ups L _ D1.out.tb.sv D1.out.rk D1.out.ln OK.out.p2).mono ?_
  rintro e2 w2 ⟨v2, rfl, ho, hs⟩
  obtain ⟨a6, c6, rfl, -, -⟩ := ho.sv.lenform
  have B2 := Lib.hid (B1.out.trans (hs.mono B1.out.size))
  have V2 := Lib.hid (V1.out.below hs)
  have U2 := Lib.hid ho.sv
  clear ho hs
  refine hK.out _ _ (HS.out _ B2.out) ?_
  clear hK K
  try simp only [Act.put, sT, sZ, sS]
  refine anyH_one (i := 5) (o := ⟨some 5, _, _, _, _, _⟩) (by kernel_rfl) rfl (fun K hK => ?_)
  rw [if_pos (by rfl)]
  go_simp
  refine hK.out _ _ (HS.out _ B2.out) ?_
  clear hK K
  try simp only [Act.put, sT, sZ, sS]
  refine anyH_one (i := 6) (o := ⟨some 6, _, _, _, _, _⟩) (by kernel_rfl) rfl (fun K hK => ?_)
  rw [if_pos (by rfl)]
  go_simp
  refine hK.out _ _ (HS.out _ B2.out) ?_
  clear hK K
  try simp only [Act.put, sT, sZ, sS]
  refine wpAnyH_done (by kernel_rfl) ?_ _
  go_wp2
  go_meet
  case rel => exact ⟨⟨a5, c5, rfl, V2.out⟩, ⟨a6, c6, rfl, U2.out⟩, B2.out⟩
 case rest =>
  obtain ⟨⟨a5, c5, rfl, hv5⟩, ⟨a6, c6, rfl, hv6⟩, hs⟩ := hcut
  obtain ⟨W1, hwq⟩ : ∃ x, x = wc := ⟨_, rfl⟩
  subst hwq
  have V5 := Lib.hid hv5
  have V6 := Lib.hid hv6
  have M1 := Lib.hid (M0.out.low hs)
  have D1 := Lib.hid (D0.out.low hs)
  have Y1 := Lib.hid (Y0.out.step hs)
  have B1 := Lib.hid (B0.out.trans (hs.mono B0.out.size))
  clear hv5 hv6 hs
  go_upto_region 2 with (fail)
  try simp only [Act.put]
  go_cut [41] from 21 to 41 (fun s wc => s = .bool false ∧ Below W1.heap.size W1 wc)
  case first =>
   have BD := Lib.hid (Below.refl W1.heap.size W1).drew
   have HS := Lib.hid (show ∀ w', Below W1.heap.size W1 w' → (fun w' => MXAt w' w.heap.size Y) w' from fun w' h => Y1.out.step h)
   have MD := Lib.hid (M1.out.low BD.out)
   refine anyH_region (fun w' => MXAt w' w.heap.size Y) (by kernel_rfl) ?_
   generalize W1.drew = wd at *
   refine tkH (i := 0) (oi := ⟨some 21, _, _, _, _, _⟩) (v := ?vb0) rfl (Or.inl ⟨by rfl, ?hyb0⟩) (HS.out _ BD.out) ?restb0
   case hyb0 => (intro w hSw; have q0 := hSw.cCount; go_simp; try (with_reducible rfl))
   simp only [Act.put, sT, sZ, sS]
   refine tkH (i := 2) (oi := ⟨some 23, _, _, _, _, _⟩) (v := ?vb2) rfl (Or.inl ⟨by rfl, ?hyb2⟩) (HS.out _ BD.out) ?restb2
   case hyb2 => (intro w hSw; have q0 := hSw.cCount; go_simp; try (with_reducible rfl))
   simp only [Act.put, sT, sZ, sS]
   refine tkH (i := 3) (oi := ⟨some 24, _, _, _, _, _⟩) (v := .agg (arL Y Y.qa Y.qn Y.qc).toArray) rfl (yieldsIf_load_mid (by rfl) 35 (.tmp 23) rfl w.heap.size 6 rfl (arL Y Y.qa Y.qn Y.qc) _ (fun w h => h.arena) Tryz.underlying35 rfl arInfo) (HS.out _ BD.out) ?restb3
   simp only [Act.put, sT, sZ, sS]
   refine anyH_one (i := 1) (o := ⟨some 22, _, _, _, _, _⟩) (by kernel_rfl) rfl (fun K hK => ?_)
   rw [if_pos (by rfl)]
   go_simp
   refine (mLive_any _ m S _ _ ps L c MD.out).mono ?_
   rintro e1 w1 ⟨v1, rfl, ho, hs⟩
   have B2 := Lib.hid (BD.out.trans (hs.mono BD.out.size))
   have V1 := Lib.hid ho.sv
   have D2 := Lib.hid (D1.out.low B2.out)
   clear ho hs
   refine hK.out _ _ (HS.out _ B2.out) ?_
   clear hK K
   try simp only [Act.put, sT, sZ, sS]
   refine anyH_one (i := 4) (o := ⟨some 25, _, _, _, _, _⟩) (by kernel_rfl) rfl (fun K hK => ?_)
   rw [if_pos (by rfl)]
   go_simp
   refine (rf_live Y.l.s Y.l.c (.slice Y.qa Y.qn Y.qc) us _ D2.out.ar OK.out.s2).mono ?_
   rintro e2 w2 ⟨v2, rfl, ho, hs⟩
   have B3 := Lib.hid (B2.out.trans (hs.mono B2.out.size))
   have V2 := Lib.hid (V1.out.below hs)
   have U2 := Lib.hid (show SV lRef w2 v2 (liveM Y.l.s ps) by rw [← AM.out]; exact ho.sv)
   clear ho hs
   refine hK.out _ _ (HS.out _ B3.out) ?_
   clear hK K
   try simp only [Act.put, sT, sZ, sS]
   refine anyH_one (i := 5) (o := ⟨some 26, _, _, _, _, _⟩) (by kernel_rfl) rfl (fun K hK => ?_)
   rw [if_pos (by rfl)]
   go_simp
   refine (rf_same v1 v2 (liveM Y.l.s ps) _ V2.out U2.out).mono ?_
   rintro e3 w3 ⟨rfl, hs⟩
   have B4 := Lib.hid (B3.out.trans (hs.mono B3.out.size))
   have M4 := Lib.hid (M1.out.low B4.out)
   clear hs
   refine hK.out _ _ (HS.out _ B4.out) ?_
   clear hK K
   try simp only [Act.put, sT, sZ, sS]
   refine tkH (i := 6) (oi := ⟨some 27, _, _, _, _, _⟩) (v := ?vb6) rfl (Or.inl ⟨by rfl, ?hyb6⟩) (HS.out _ B4.out) ?restb6
   case hyb6 => (intro w hSw; have q0 := hSw.cCount; go_simp; try (with_reducible rfl))
   simp only [Act.put, sT, sZ, sS]
   refine tkH (i := 7) (oi := ⟨some 28, _, _, _, _, _⟩) (v := ?vb7) rfl (Or.inl ⟨by rfl, ?hyb7⟩) (HS.out _ B4.out) ?restb7
   case hyb7 => (intro w hSw; have q0 := hSw.cCount; go_simp; try (with_reducible rfl))
   simp only [Act.put, sT, sZ, sS]
   refine tkH (i := 8) (oi := ⟨some 29, _, _, _, _, _⟩) (v := ?vb8) rfl (Or.inl ⟨by rfl, ?hyb8⟩) (HS.out _ B4.out) ?restb8
   case hyb8 => (intro w hSw; have q0 := hSw.cCount; go_simp; try (with_reducible rfl))
   simp only [Act.put, sT, sZ, sS]
   refine tkH (i := 10) (oi := ⟨some 31, _, _, _, _, _⟩) (v := ?vb10) rfl (Or.inl ⟨by rfl, ?hyb10⟩) (HS.out _ B4.out) ?restb10
   case hyb10 => (intro w hSw; have q0 := hSw.cCount; go_simp; try (with_reducible rfl))
   simp only [Act.put, sT, sZ, sS]
   refine tkH (i := 11) (oi := ⟨some 32, _, _, _, _, _⟩) (v := ?vb11) rfl (Or.inl ⟨by rfl, ?hyb11⟩) (HS.out _ B4.out) ?restb11
   case hyb11 => (intro w hSw; have q0 := hSw.cCount; go_simp; try (with_reducible rfl))
   simp only [Act.put, sT, sZ, sS]
   refine anyH_one (i := 9) (o := ⟨some 30, _, _, _, _, _⟩) (by kernel_rfl) rfl (fun K hK => ?_)
   rw [if_pos (by rfl)]
   go_simp
   refine (mCount_any _ m S _ _ ps L c M4.out).mono ?_
   rintro e4 w4 ⟨rfl, hs⟩
   have B5 := Lib.hid (B4.out.trans (hs.mono B4.out.size))
   clear hs
   refine hK.out _ _ (HS.out _ B5.out) ?_
   clear hK K
   try simp only [Act.put, sT, sZ, sS]
   refine tkH (i := 12) (oi := ⟨some 33, _, _, _, _, _⟩) (v := ?vb12) rfl (Or.inl ⟨by rfl, ?hyb12⟩) (HS.out _ B5.out) ?restb12
   case hyb12 => (intro w hSw; have q0 := hSw.cCount; go_simp; try (with_reducible rfl))
   simp only [Act.put, sT, sZ, sS]
   refine tkH (i := 13) (oi := ⟨some 34, _, _, _, _, _⟩) (v := ?vb13) rfl (Or.inl ⟨by rfl, ?hyb13⟩) (HS.out _ B5.out) ?restb13
   case hyb13 => (intro w hSw; have q0 := hSw.cCount; go_simp; try (with_reducible rfl))
   simp only [Act.put, sT, sZ, sS]
   refine tkH (i := 14) (oi := ⟨some 35, _, _, _, _, _⟩) (v := ?vb14) rfl (Or.inl ⟨by rfl, ?hyb14⟩) (HS.out _ B5.out) ?restb14
   case hyb14 => (intro w hSw; have q0 := hSw.cCount; go_simp; try (with_reducible rfl))
   simp only [Act.put, sT, sZ, sS]
   refine tkH (i := 15) (oi := ⟨some 36, _, _, _, _, _⟩) (v := ?vb15) rfl (Or.inl ⟨by rfl, ?hyb15⟩) (HS.out _ B5.out) ?restb15
   case hyb15 => (intro w hSw; have q0 := hSw.cCount; go_simp; try (with_reducible rfl))
   simp only [Act.put, sT, sZ, sS]
   refine tkH (i := 16) (oi := ⟨some 37, _, _, _, _, _⟩) (v := ?vb16) rfl (Or.inl ⟨by rfl, ?hyb16⟩) (HS.out _ B5.out) ?restb16
   case hyb16 => (intro w hSw; have q0 := hSw.cCount; go_simp; try (with_reducible rfl))
   simp only [Act.put, sT, sZ, sS]
   refine tkH (i := 17) (oi := ⟨some 38, _, _, _, _, _⟩) (v := ?vb17) rfl (Or.inl ⟨by rfl, ?hyb17⟩) (HS.out _ B5.out) ?restb17
   case hyb17 => (intro w hSw; have q0 := hSw.cCount; go_simp; try (with_reducible rfl))
   simp only [Act.put, sT, sZ, sS]
   refine tkH (i := 18) (oi := ⟨some 39, _, _, _, _, _⟩) (v := ?vb18) rfl (Or.inl ⟨by rfl, ?hyb18⟩) (HS.out _ B5.out) ?restb18
   case hyb18 => (intro w hSw; have q0 := hSw.cCount; go_simp; try (with_reducible rfl))
   simp only [Act.put, sT, sZ, sS]
   refine tkH (i := 19) (oi := ⟨some 40, _, _, _, _, _⟩) (v := ?vb19) rfl (Or.inl ⟨by rfl, ?hyb19⟩) (HS.out _ B5.out) ?restb19
   case hyb19 => (intro w hSw; have q0 := hSw.cCount; go_simp; try (with_reducible rfl))
   simp only [Act.put, sT, sZ, sS]
   refine tkH (i := 20) (oi := ⟨some 41, _, _, _, _, _⟩) (v := ?vb20) rfl (Or.inl ⟨by rfl, ?hyb20⟩) (HS.out _ B5.out) ?restb20
   case hyb20 => (intro w hSw; have q0 := hSw.cCount; go_simp; try (with_reducible rfl))
   simp only [Act.put, sT, sZ, sS]
   refine wpAnyH_done (by kernel_rfl) ?_ _
   go_wp2
   go_meet
   case rel => exact ⟨by first | rfl | simp, B5.out⟩
  case rest =>
   obtain ⟨rfl, hs⟩ := hcut
   obtain ⟨W2, hwq⟩ : ∃ x, x = wc := ⟨_, rfl⟩
   subst hwq
   have M2 := Lib.hid (M1.out.low hs)
   have D2 := Lib.hid (D1.out.low hs)
   have Y2 := Lib.hid (Y1.out.step hs)
   have B2 := Lib.hid (B1.out.trans (hs.mono B1.out.size))
   have V7 := Lib.hid (V5.out.below hs)
   have V8 := Lib.hid (V6.out.below hs)
   clear hs
   have NB := Lib.hid (show (usedT L).length ≤ 9223372036854775807 by obtain ⟨_, _, -, h1, h2⟩ := V7.out.lenform; (try unfold maxLen at h2); omega)
   obtain ⟨N, hN⟩ : ∃ n, (usedT L).length = n := ⟨_, rfl⟩
   rw [hN] at NB
   have NN := Lib.hid hN
   rw [hN] at V7 V8 ⊢
   clear hN V5 V6
   go_wp2_with fail
   go_loopg [44] N (fun g v44 wr => ∃ q : Nat, q + g = N ∧ v44 = .int .i64 q ∧ Below W2.heap.size W2 wr)
   case atStart => exact ⟨0, by omega, rfl, Below.refl _ _⟩
   case round =>
    obtain ⟨wo, hwo⟩ : ∃ x, x = wr := ⟨_, rfl⟩
    subst hwo
    obtain ⟨q, hq, rfl, hB⟩ := hrel
    have HQ := Lib.hid hq
    have BR := Lib.hid hB
    have M3 := Lib.hid (M2.out.low hB)
    have D3 := Lib.hid (D2.out.low hB)
    have Y3 := Lib.hid (Y2.out.step hB)
    have V9 := Lib.hid (V7.out.below hB)
    have U9 := Lib.hid (V8.out.below hB)
    clear hB hq
    by_cases hlt : q < N
    ·obtain ⟨lb, lo, hl5⟩ := V9.out.addr (by rw [NN.out]; omega)
     obtain ⟨kb, ko, hl6⟩ := U9.out.addr (by rw [NN.out]; omega)
     subst hl5 hl6
     obtain ⟨x, hx⟩ : ∃ x, (usedT L)[q]? = some x := ⟨_, List.getElem?_eq_getElem (by rw [NN.out]; exact hlt)⟩
     have y5 : wo.cell? ⟨lb, lo + q, none⟩ = some (.int .i64 x) := by simpa [lInt] using V9.out.cellAt (j := 0) hx rfl
     have y6 : wo.cell? ⟨kb, ko + q, none⟩ = some (.int .i64 x) := by simpa [lInt] using U9.out.cellAt (j := 0) hx rfl
     have i5 : IntKind.i64.wrap ((q : Int) + 1) = (q : Int) + 1 := Go.IntWalk.i64_in _ (by have := NB.out; omega)
     have j1 : (q : Int) < (N : Int) := by omega
     have j2 : (0 : Int) ≤ (q : Int) := by omega
     clear hx
     go_wp2_with fail
     refine (chainF _ m S _ _ ps L c x M3.out).mono ?_
     rintro e1 w1 ⟨v1, v2, v3, dl, rfl, hr, ho1, ho2, he, hs⟩
     obtain ⟨rr, hrr⟩ : ∃ z, chF Y.l.s ps L x = z := ⟨_, rfl⟩
     have RR := Lib.hid hrr
     rw [hrr] at hr ho2 he
     clear hrr he
     obtain ⟨va, vc, rfl, -, -⟩ := ho1.lenN (n := rr.1.length) (by rw [hr.1, List.length_map])
     obtain ⟨v2a, v2c, rfl, -, -⟩ := ho2.lenN (n := rr.1.length) (by rw [List.length_map])
     have D4 := Lib.hid (D3.out.low hs)
     have Y4 := Lib.hid (Y3.out.step hs)
     have B4 := Lib.hid (BR.out.trans (hs.mono BR.out.size))
     have RO := Lib.hid hr
     have O1 := Lib.hid ho1.sv
     have O2 := Lib.hid ho2.sv
     clear hr ho1 ho2 hs y5 y6
     have y0 := Y4.out.rng
     go_wp2_with (refine wpList_load_mid rfl 43 (.tmp 3) rfl w.heap.size 0 rfl Y.list _ ?_ Tryz.underlying43 rfl Y.info ?_; exact y0)
     refine (D4.out.chain OK.out x).mono ?_
     rintro e2 w2 ⟨u1, u2, el, rfl, hr, ho1, ho2, hs⟩
     rw [RR.out] at hr ho2
     obtain ⟨ua, uc, rfl, -, -⟩ := ho1.lenN (n := rr.1.length) (by rw [hr.1, List.length_map])
     obtain ⟨u2a, u2c, rfl, -, -⟩ := ho2.lenN (n := rr.1.length) (by rw [List.length_map])
     have D5 := Lib.hid (D4.out.low hs)
     have B5 := Lib.hid (B4.out.trans (hs.mono B4.out.size))
     have RW := Lib.hid hr
     have P1 := Lib.hid ho1.sv
     have P2 := Lib.hid ho2.sv
     have Q1 := Lib.hid (O1.out.below hs)
     have Q2 := Lib.hid (O2.out.below hs)
     have RQ := Lib.hid (RO.out.low hs)
     clear hr ho1 ho2 hs y0
     have ee : ((rr.1.length : Int) != (rr.1.length : Int)) = false := by simp
     go_upto_region 11 with (fail)
     go_wp2_with fail
     refine (rf_same _ _ (rr.1.map Prod.snd) _ Q2.out P2.out).mono ?_
     rintro e3 w3 ⟨rfl, hs⟩
     have B6 := Lib.hid (B5.out.trans (hs.mono B5.out.size))
     have D6 := Lib.hid (D5.out.low hs)
     have P3 := Lib.hid (P1.out.below hs)
     have Q3 := Lib.hid (Q1.out.below hs)
     have RQ3 := Lib.hid (RQ.out.low hs)
     clear hs
     have RB := Lib.hid (show rr.1.length ≤ 9223372036854775807 by obtain ⟨_, _, -, h1, h2⟩ := O2.out.lenform; rw [List.length_map] at h1; (try unfold maxLen at h2); omega)
     obtain ⟨R, hR⟩ : ∃ n, rr.1.length = n := ⟨_, rfl⟩
     rw [hR] at RB
     rw [hR] at P3 Q3 ⊢
     have HR := Lib.hid hR
     clear hR
     go_wp2_with fail
     go_loopg [82] R (fun g v82 wq => ∃ j : Nat, j + g = R ∧ v82 = .int .i64 j ∧ Below w3.heap.size w3 wq)
     case atStart => exact ⟨0, by omega, rfl, Below.refl _ _⟩
     case round =>
      obtain ⟨wq, hwq⟩ : ∃ x, x = wr := ⟨_, rfl⟩
      subst hwq
      obtain ⟨j, hj, rfl, hB2⟩ := hrel
      have HJ := Lib.hid hj
      have BQ := Lib.hid hB2
      have P4 := Lib.hid (P3.out.below hB2)
      have Q4 := Lib.hid (Q3.out.below hB2)
      have RQ4 := Lib.hid (RQ3.out.low hB2)
      have D7 := Lib.hid (D6.out.low hB2)
      clear hB2 hj
      by_cases hjl : j < R
      ·have hEL : (rr.1.map Prod.fst).length = R := by rw [List.length_map]; exact HR.out
       obtain ⟨vb, vo, hva⟩ := Q4.out.addr (by rw [RO.out.1, hEL]; omega)
       obtain ⟨ub, uo, hua⟩ := P4.out.addr (by rw [RW.out.1, hEL]; omega)
       subst hva hua
       obtain ⟨e, he⟩ : ∃ e, (rr.1.map Prod.fst)[j]? = some e := ⟨_, List.getElem?_eq_getElem (by rw [hEL]; exact hjl)⟩
       obtain ⟨x1, hx1⟩ : ∃ e, dl[j]? = some e := ⟨_, List.getElem?_eq_getElem (by rw [RO.out.1, hEL]; exact hjl)⟩
       obtain ⟨y1, hy1⟩ : ∃ e, el[j]? = some e := ⟨_, List.getElem?_eq_getElem (by rw [RW.out.1, hEL]; exact hjl)⟩
       obtain ⟨gs1, go1, gp1⟩ := RQ4.out.2 j x1 e hx1 he
       obtain ⟨gs2, go2, gp2⟩ := RW.out.2 j y1 e hy1 he
       have LB := Lib.hid (HBD.out x e (by rw [RR.out]; exact List.mem_of_getElem? he))
       have R1 := Q4.out.range hx1
       have R2 := P4.out.range hy1
       obtain ⟨sc1, ra1, rn1, rc1, ea1, en1, ec1⟩ := x1
       obtain ⟨sc2, ra2, rn2, rc2, ea2, en2, ec2⟩ := y1
       simp only at gs1 go1 gp1 gs2 go2 gp2
       subst gs1
       obtain rfl : sc2 = e.sc := gs2
       obtain ⟨_, _, e1, -⟩ := go1.sv.lenform
       obtain rfl : rn1 = e.rows.length := (Value.slice.inj e1).2.1
       clear e1
       obtain ⟨_, _, e1, -⟩ := gp1.sv.lenform
       obtain rfl : en1 = e.ents.length := (Value.slice.inj e1).2.1
       clear e1
       obtain ⟨_, _, e1, -⟩ := go2.lenform
       obtain rfl : rn2 = e.rows.length := (Value.slice.inj e1).2.1
       clear e1
       obtain ⟨_, _, e1, -⟩ := gp2.lenform
       obtain rfl : en2 = e.ents.length := (Value.slice.inj e1).2.1
       clear e1
       have V1 := Lib.hid (show RecV wq (recVal e.sc (.slice ra1 e.rows.length rc1) (.slice ea1 e.ents.length ec1)) e from ⟨_, _, rfl, go1.sv, gp1.sv⟩)
       have V2 := Lib.hid (show RecV wq (recVal e.sc (.slice ra2 e.rows.length rc2) (.slice ea2 e.ents.length ec2)) e from ⟨_, _, rfl, go2.below D7.out.bl, gp2.below D7.out.bl⟩)
       have R3 := Lib.hid (show wq.rangeAt vb (vo + j * 15) (recCells e.sc (.slice ra1 e.rows.length rc1) (.slice ea1 e.ents.length ec1)) from R1)
       have R4 := Lib.hid (show wq.rangeAt ub (uo + j * 15) (recCells e.sc (.slice ra2 e.rows.length rc2) (.slice ea2 e.ents.length ec2)) from R2)
       have i6 : IntKind.i64.wrap ((j : Int) + 1) = (j : Int) + 1 := Go.IntWalk.i64_in _ (by have := RB.out; omega)
       have j3 : (j : Int) < (R : Int) := by omega
       have j4 : (0 : Int) ≤ (j : Int) := by omega
       clear hx1 hy1 he go1 gp1 go2 gp2 R1 R2 hEL
       go_upto_region 16 with (fail)
       try simp only [Act.put]
       have BD := Lib.hid (Below.refl wq.heap.size wq).drew
       have HS := Lib.hid (show ∀ w', Below wq.heap.size wq w' → (fun w' : World => w'.rangeAt vb (vo + j * 15) (recCells e.sc (.slice ra1 e.rows.length rc1) (.slice ea1 e.ents.length ec1)) ∧ w'.rangeAt ub (uo + j * 15) (recCells e.sc (.slice ra2 e.rows.length rc2) (.slice ea2 e.ents.length ec2))) w' from fun w' h => ⟨rng_step R3.out h, rng_step R4.out h⟩)
       refine anyH_region (fun w' : World => w'.rangeAt vb (vo + j * 15) (recCells e.sc (.slice ra1 e.rows.length rc1) (.slice ea1 e.ents.length ec1)) ∧ w'.rangeAt ub (uo + j * 15) (recCells e.sc (.slice ra2 e.rows.length rc2) (.slice ea2 e.ents.length ec2))) (by kernel_rfl) ?_
       generalize wq.drew = wd at *
       refine tkH (i := 0) (oi := ⟨some 85, _, _, _, _, _⟩) (v := ?vc0) rfl (Or.inl ⟨by rfl, ?hyc0⟩) (HS.out _ BD.out) ?restc0
       case hyc0 => (intro w hSw; have q0 := j3; have q1 := j4; go_simp; try (with_reducible rfl))
       simp only [Act.put, sT, sZ, sS]
       refine tkH (i := 1) (oi := ⟨some 86, _, _, _, _, _⟩) (v := ?vc1) rfl (Or.inl ⟨by rfl, ?hyc1⟩) (HS.out _ BD.out) ?restc1
       case hyc1 => (intro w hSw; have q0 := j3; have q1 := j4; go_simp; try (with_reducible rfl))
       simp only [Act.put, sT, sZ, sS]
       refine tkH (i := 2) (oi := ⟨some 87, _, _, _, _, _⟩) (v := ?vc2) rfl (Or.inl ⟨by rfl, ?hyc2⟩) (HS.out _ BD.out) ?restc2
       case hyc2 => (intro w hSw; have q0 := j3; have q1 := j4; go_simp; try (with_reducible rfl))
       simp only [Act.put, sT, sZ, sS]
       refine tkH (i := 4) (oi := ⟨some 89, _, _, _, _, _⟩) (v := ?vc4) rfl (Or.inl ⟨by rfl, ?hyc4⟩) (HS.out _ BD.out) ?restc4
       case hyc4 => (intro w hSw; have q0 := j3; have q1 := j4; go_simp; try (with_reducible rfl))
       simp only [Act.put, sT, sZ, sS]
       refine tkH (i := 5) (oi := ⟨some 90, _, _, _, _, _⟩) (v := ?vc5) rfl (Or.inl ⟨by rfl, ?hyc5⟩) (HS.out _ BD.out) ?restc5
       case hyc5 => (intro w hSw; have q0 := j3; have q1 := j4; go_simp; try (with_reducible rfl))
       simp only [Act.put, sT, sZ, sS]
       refine tkH (i := 6) (oi := ⟨some 91, _, _, _, _, _⟩) (v := ?vc6) rfl (Or.inl ⟨by rfl, ?hyc6⟩) (HS.out _ BD.out) ?restc6
       case hyc6 => (intro w hSw; have q0 := j3; have q1 := j4; go_simp; try (with_reducible rfl))
       simp only [Act.put, sT, sZ, sS]
       refine tkH (i := 3) (oi := ⟨some 88, _, _, _, _, _⟩) (v := .agg (recCells e.sc (.slice ra1 e.rows.length rc1) (.slice ea1 e.ents.length ec1)).toArray) rfl (yieldsIf_load_mid (by rfl) 55 (.tmp 87) rfl vb (vo + j * 15) rfl (recCells e.sc (.slice ra1 e.rows.length rc1) (.slice ea1 e.ents.length ec1)) _ (fun w h => h.1) Tryz.underlying55 rfl recInfoS) (HS.out _ BD.out) ?restc3
       simp only [Act.put, sT, sZ, sS]
       refine tkH (i := 7) (oi := ⟨some 92, _, _, _, _, _⟩) (v := .agg (recCells e.sc (.slice ra2 e.rows.length rc2) (.slice ea2 e.ents.length ec2)).toArray) rfl (yieldsIf_load_mid (by rfl) 55 (.tmp 91) rfl ub (uo + j * 15) rfl (recCells e.sc (.slice ra2 e.rows.length rc2) (.slice ea2 e.ents.length ec2)) _ (fun w h => h.2) Tryz.underlying55 rfl recInfoS) (HS.out _ BD.out) ?restc7
       simp only [Act.put, sT, sZ, sS]
       refine anyH_one (i := 8) (o := ⟨some 93, _, _, _, _, _⟩) (by kernel_rfl) rfl (fun K hK => ?_)
       rw [if_pos (by rfl)]
       go_simp
       refine (same_rec _ _ e _ (V1.out.below BD.out) (V2.out.below BD.out) LB.out.1 LB.out.2).mono ?_
       rintro e4 w4 ⟨rfl, hs⟩
       have B7 := Lib.hid (BD.out.trans (hs.mono BD.out.size))
       clear hs
       refine hK.out _ _ (HS.out _ B7.out) ?_
       clear hK K
       try simp only [Act.put, sT, sZ, sS]
       refine tkH (i := 9) (oi := ⟨some 94, _, _, _, _, _⟩) (v := ?vc9) rfl (Or.inl ⟨by rfl, ?hyc9⟩) (HS.out _ B7.out) ?restc9
       case hyc9 => (intro w hSw; have q0 := j3; have q1 := j4; go_simp; try (with_reducible rfl))
       simp only [Act.put, sT, sZ, sS]
       refine wpAnyH_done (by kernel_rfl) ?_ _
       have B8 := Lib.hid (BQ.out.trans (B7.out.mono BQ.out.size))
       go_wp2_with fail
       go_roundg (R - (j + 1))
       case measure => have := HJ.out; omega
       case rel => exact ⟨j + 1, by omega, by go_num, B8.out⟩
      ·obtain rfl : j = R := by have := HJ.out; omega
       go_wp2_with fail
       go_roundg (N - (q + 1))
       case measure => have := HQ.out; omega
       case rel => exact ⟨q + 1, by omega, by go_num, B6.out.trans (BQ.out.mono B6.out.size)⟩
    ·obtain rfl : q = N := by have := HQ.out; omega
     go_wp2
     go_ret
     exact ⟨rfl, B2.out.trans (BR.out.mono B2.out.size)⟩
open Go.RowKit
def FbT (U : TypeId) : Prop := U = 200 ∨ U = 112 ∨ U = 3 ∨ U = 68 ∨ U = 43 ∨ U = 58 ∨ U = 158 ∨ U = 161
instance (U : TypeId) : Decidable (FbT U) := by unfold FbT; infer_instance
def OkB (w : World) (k : Nat) : Prop := ∀ cs U, w.heap[k]? = some (.cells cs U (0, 0)) → ¬ FbT U
theorem OkB.of {w : World} {k : Nat} {cs : Array Value} {U : TypeId} (h : w.heap[k]? = some (.cells cs U (0, 0))) (hU : ¬ FbT U) : OkB w k := fun cs' U' h' => by
 rw [h] at h'
 simp only [Option.some.injEq, Obj.cells.injEq] at h'
 rw [← h'.2.1]
 exact hU
theorem OkB.own {α : Type} {E : Lay α} {base : Nat} {w : World} {v : Value} {xs : List α} {k : Nat} (h : OwnS E base w v xs) (hv : v.ownBlock = some k) (hE : ¬ FbT E.ty) : OkB w k := by
 obtain ⟨_, h⟩ := h
 rcases h with ⟨rfl, -⟩ | ⟨g, cap, cur, rfl, -, hg, -⟩
 ·cases hv
 ·obtain rfl : g = k := Option.some.inj hv
  exact OkB.of hg hE
theorem RecS.shrink {w : World} {S : Nat → Prop} {g : Nat} {d : RecD} (h : RecS w S g d) : RecS w (fun k => S k ∧ OkB w k) g d := by
 obtain ⟨h1, l1, l2, rv, en, hb, ho1, ho2, s1, s2⟩ := h
 exact ⟨⟨h1, OkB.of (U := 55) hb (by decide)⟩, l1, l2, rv, en, hb, ho1, ho2, fun k hk => ⟨s1 k hk, OkB.own ho1 hk (by decide)⟩, fun k hk => ⟨s2 k hk, OkB.own ho2 hk (by decide)⟩⟩
theorem PtrAt.shrink {w : World} {S : Nat → Prop} {p : Option Addr} {o : Option RecD} (h : PtrAt w S p o) : PtrAt w (fun k => S k ∧ OkB w k) p o := by
 cases o with
 | none => exact h
 | some d => obtain ⟨g, e, r⟩ := h; exact ⟨g, e, r.shrink⟩
theorem InvAt.shrink {w : World} {ab sb : Nat} {ss : List Sl} {S : Nat → Prop} {n l : Nat} {ps : List Pt} (h : InvAt w ab sb ss S n l ps) : InvAt w ab sb ss (fun k => S k ∧ OkB w k) n l ps :=
 ⟨h.ok, h.val, h.gen, fun k hk => h.foot k hk.1, ⟨h.sA, OkB.of h.blkA (by decide)⟩, ⟨h.sB, OkB.own h.own rfl (by decide)⟩, h.blkA, h.own, h.len, fun i hi => by obtain ⟨p, h1, h2⟩ := h.each i hi; exact ⟨p, h1, h2.shrink⟩⟩
theorem MemAt.shrink {w : World} {m : MB} {S : Nat → Prop} {l : LimN} {k : Int} {ps : List Pt} {L : List Pg} {c : Ck} (h : MemAt w m S l k ps L c) : MemAt w m (fun k => S k ∧ OkB w k) l k ps L c :=
 ⟨h.ok, h.blk, by obtain ⟨ab, sb, ss, e, I⟩ := h.ar; exact ⟨ab, sb, ss, e, I.shrink⟩, h.tb, h.ck, fun q => h.oM q.1, fun q => h.oA q.1, fun q => h.oP q.1, fun q => h.oC q.1, fun q => h.oK q.1⟩
theorem MemAt.okMS {w : World} {m : MB} {S : Nat → Prop} {l : LimN} {k : Int} {ps : List Pt} {L : List Pg} {c : Ck} (h : MemAt w m S l k ps L c) : ∀ x, MS m (fun k => S k ∧ OkB w k) x → OkB w x := by
 rintro x (rfl | q | rfl | rfl | rfl | rfl)
 ·exact OkB.of h.blk (by decide)
 ·exact q.2
 ·exact OkB.of h.tb.blkA (by decide)
 ·exact OkB.own h.tb.own rfl (by decide)
 ·exact OkB.of h.ck.blk (by decide)
 ·obtain ⟨D, mp⟩ := h.ck.map
  obtain ⟨es, clock, hb, -⟩ := mp.own
  exact fun cs U e => by rw [hb] at e; cases e
theorem InvAt.small {w : World} {ab sb : Nat} {ss : List Sl} {S : Nat → Prop} {n l : Nat} {ps : List Pt} (h : InvAt w ab sb ss S n l ps) (x y : Int) : (loadM n ps x y).rows.length ≤ 1000 ∧ (loadM n ps x y).ents.length ≤ 1000 := by
 have hz : RecD.zero.rows.length ≤ 1000 ∧ RecD.zero.ents.length ≤ 1000 := ⟨Nat.zero_le _, Nat.zero_le _⟩
 unfold loadM
 split
 ·cases hf : findM ps x y with
  | none => exact hz
  | some j =>
   obtain ⟨l1, p, l2, e, hl, hs, hg, hv⟩ := findM_some hf
   have hp : ps[j]? = some p := by rw [e, ← hl]; simp
   show (match ps[j]? with | some p => p.rcd | none => RecD.zero).rows.length ≤ 1000 ∧ (match ps[j]? with | some p => p.rcd | none => RecD.zero).ents.length ≤ 1000
   rw [hp]
   have hb := h.val.2 p (by rw [e]; simp)
   have hst : stOf ps p.slot = (p.gen, some p.rcd) := by rw [e, stOf_mid (h.val.last e hv), hv]; rfl
   obtain ⟨q, -, h2⟩ := h.each (p.slot - 1) (by omega)
   rw [show p.slot - 1 + 1 = p.slot by omega, hst] at h2
   obtain ⟨g, -, r⟩ := h2
   exact ⟨r.len1, r.len2⟩
 ·exact hz
theorem chGoF_small {n : Nat} {ps : List Pt} (h : ∀ x y : Int, (loadM n ps x y).rows.length ≤ 1000 ∧ (loadM n ps x y).ents.length ≤ 1000) : ∀ (f : Nat) (x y : Int) (e : RecD), e ∈ (chGoF n ps f x y).1.map Prod.fst → e.rows.length ≤ 1000 ∧ e.ents.length ≤ 1000
 | 0, x, y, e, he => by unfold chGoF at he; split at he <;> cases he
 | f + 1, x, y, e, he => by
  unfold chGoF at he
  split at he
  ·cases he
  ·split at he
   ·cases he
   ·split at he
    ·rcases List.mem_cons.1 he with rfl | he
     ·exact h x y
     ·exact chGoF_small h f _ _ e he
    ·cases he
theorem MemAt.small {w : World} {m : MB} {S : Nat → Prop} {l : LimN} {k : Int} {ps : List Pt} {L : List Pg} {c : Ck} (h : MemAt w m S l k ps L c) (p : Int) (e : RecD) (he : e ∈ (chF l.s ps L p).1.map Prod.fst) : e.rows.length ≤ 1000 ∧ e.ents.length ≤ 1000 := by
 obtain ⟨ab, sb, ss, -, I⟩ := h.ar
 unfold chF at he
 split at he
 ·cases he
 ·exact chGoF_small I.small _ _ _ e he
open Go.RowKit
theorem settleGo_er : ∀ (g : Nat) (j : Ins), (settleGo g j).er = j.er
 | 0, _ => rfl
 | g + 1, j => by
  unfold settleGo
  split
  ·rfl
  ·split
   ·rfl
   ·exact settleGo_er g _
theorem settle_er (j : Ins) : (settleI j).er = j.er := settleGo_er _ _
theorem settleGo_fn : ∀ (g : Nat) (j : Ins), j.fn = .nilFunc → (settleGo g j).fn = .nilFunc
 | 0, _, h => h
 | g + 1, j, h => by
  unfold settleGo
  split
  ·exact h
  ·split
   ·rfl
   ·exact settleGo_fn g _ h
theorem settle_fn {j : Ins} (h : j.fn = .nilFunc) : (settleI j).fn = .nilFunc := settleGo_fn _ _ h
theorem Shape.fn0 {i : Ins} (h : Shape i) (h1 : i.st ≠ 1) (h2 : i.st ≠ 2) : i.fn = .nilFunc := by
 obtain ⟨-, -, -, -, -, g | g | g | g | g | g | g | g | g⟩ := h
 ·exact g.2
 ·exact absurd g.1 h1
 ·exact absurd g.1 h2
 all_goals exact g.2.1
theorem Shape.dn0 {i : Ins} (h : Shape i) (hs : i.st ≠ 0) : i.dn = false := by
 obtain ⟨-, -, -, -, -, hsh⟩ := h
 rcases hsh with g | g | g | g | g | g | g | g | g
 ·exact absurd g.1 hs
 ·exact g.2.2.2.2
 ·exact g.2.2.2.2
 ·exact g.2.2.2.2.2
 ·exact g.2.2.2.2.2
 ·exact g.2.2.2.2.2
 ·exact g.2.2.2.2.2
 ·exact g.2.2.2
 ·exact g.2.2.2.2
theorem und_fn {w : World} {e : Int} {i j : Ins} (h : Und w e i j) : j.fn = .nilFunc := by obtain ⟨v, -, rfl⟩ := h; rfl
theorem step_fn {w : World} {l : LimN} {d : JbD} {ds : List RecD} {hd : RecD} {i j : Ins} {ps ps' : List Pt} {L L' : List Pg} (h : AStep w l d ds hd i ps L j ps' L') (hS : Shape i) (h1 : i.st ≠ 1) : j.fn = .nilFunc := by
 rcases h with ⟨hs, -⟩ | ⟨hs, -, -, rc, hc⟩ | ⟨hs, -, -, hc⟩ | ⟨hs, -, -, hc⟩ | ⟨hs, -, -, hc⟩ | ⟨hs, -, -, rfl⟩ | ⟨hs, -, -, rfl⟩
 ·exact absurd hs h1
 ·rcases hc with ⟨-, rfl⟩ | ⟨-, hu⟩
  ·rfl
  ·exact und_fn hu
 ·have hf := hS.fn0 h1 (by omega)
  rcases hc with ⟨-, rfl⟩ | ⟨-, hu⟩
  ·exact hf
  ·exact und_fn hu
 ·have hf := hS.fn0 h1 (by omega)
  rcases hc with ⟨-, rfl⟩ | ⟨-, hu⟩
  ·exact hf
  ·exact und_fn hu
 ·rcases hc with ⟨-, rfl⟩ | ⟨-, hu⟩
  ·rfl
  ·exact und_fn hu
 ·exact hS.fn0 h1 (by omega)
 ·exact hS.fn0 h1 (by omega)
theorem step_early {w w' : World} {T : Nat → Prop} {b jb cb cl ci : Nat} {l : LimN} {d : JbD} {ds : List RecD} {hd : RecD} {i j : Ins} {ps ps' : List Pt} {L L' : List Pg} (h : AStep w l d ds hd i ps L j ps' L') (hS : Shape i) (hA : AgI w' T b (settleI j) d ds hd jb cb cl ci) (he : (settleI j).st = 1 ∨ (settleI j).st = 2) : i.st = 1 := by
 rcases Nat.decEq i.st 1 with h1 | h1
 ·have h2 := settle_fn (step_fn h hS h1)
  rw [(hA.job he).1] at h2
  cases h2
 ·exact h1
theorem back_ok {j : Ins} (hd : j.dn = false) (hs : j.st = 7 ∨ (j.st = 8 ∧ j.pt = 0)) : (settleI j).dn = false ∧ ((settleI j).st = 0 ∨ (settleI j).st = 7 ∨ (settleI j).st = 8) := by
 rw [settle_back j hs]; exact ⟨back_dn j hd, back_st j⟩
theorem und_ok {w : World} {e : Int} {i j : Ins} (h : Und w e i j) : (settleI j).dn = false ∧ ((settleI j).st = 0 ∨ (settleI j).st = 7 ∨ (settleI j).st = 8) := by
 obtain ⟨v, -, rfl⟩ := h; exact back_ok rfl (.inl rfl)
theorem step_er {w : World} {l : LimN} {d : JbD} {ds : List RecD} {hd : RecD} {i j : Ins} {ps ps' : List Pt} {L L' : List Pg} (h : AStep w l d ds hd i ps L j ps' L') (hS : Shape i) (hn : 1 ≤ i.st ∧ i.st ≤ 6 → i.er = .nilIface) (hq : (settleI j).dn = true ∨ (1 ≤ (settleI j).st ∧ (settleI j).st ≤ 6)) : (settleI j).er = .nilIface := by
 have no : ∀ {j' : Ins}, (settleI j').dn = false ∧ ((settleI j').st = 0 ∨ (settleI j').st = 7 ∨ (settleI j').st = 8) → ¬ ((settleI j').dn = true ∨ (1 ≤ (settleI j').st ∧ (settleI j').st ≤ 6)) := fun q p => p.elim (fun p => by rw [q.1] at p; cases p) (fun p => by omega)
 rw [settle_er]
 rcases h with ⟨hs, -, -, hc⟩ | ⟨hs, -, -, rc, hc⟩ | ⟨hs, -, -, hc⟩ | ⟨hs, -, -, hc⟩ | ⟨hs, -, -, hc⟩ | ⟨hs, -, -, rfl⟩ | ⟨hs, -, -, rfl⟩
 ·rcases hc with ⟨-, rfl⟩ | ⟨-, hu⟩
  ·exact hn (by omega)
  ·exact absurd hq (no (und_ok hu))
 ·rcases hc with ⟨-, rfl⟩ | ⟨-, hu⟩
  ·exact hn (by omega)
  ·exact absurd hq (no (und_ok hu))
 ·rcases hc with ⟨-, rfl⟩ | ⟨-, hu⟩
  ·exact hn (by omega)
  ·exact absurd hq (no (und_ok hu))
 ·rcases hc with ⟨-, rfl⟩ | ⟨-, hu⟩
  ·exact hn (by omega)
  ·exact absurd hq (no (und_ok hu))
 ·rcases hc with ⟨-, rfl⟩ | ⟨-, hu⟩
  ·rfl
  ·exact absurd hq (no (und_ok hu))
 ·exact absurd hq (no (back_ok (hS.dn0 (by omega)) (.inl hs)))
 ·have hp : i.pt = 0 := by
   obtain ⟨-, -, -, -, -, g | g | g | g | g | g | g | g | g⟩ := hS <;> first | (have := g.1; omega) | exact g.2.2.1
  exact absurd hq (no (back_ok (hS.dn0 (by omega)) (.inr ⟨hs, hp⟩)))
theorem settleGo_dn : ∀ (g : Nat) (j : Ins), j.dn = false → (settleGo g j).dn = false
 | 0, _, h => h
 | g + 1, j, h => by
  unfold settleGo
  split
  ·exact h
  ·split
   ·rfl
   ·exact settleGo_dn g _ h
theorem settle_dn0 {j : Ins} (h : j.dn = false) : (settleI j).dn = false := settleGo_dn _ _ h
theorem step_pd {w : World} {l : LimN} {d : JbD} {ds : List RecD} {hd : RecD} {i j : Ins} {ps ps' : List Pt} {L L' : List Pg} (h : AStep w l d ds hd i ps L j ps' L') (hS : Shape i) (hq : (settleI j).dn = true) : 0 < (settleI j).pt := by
 have no : ∀ {j' : Ins}, j'.dn = false → ¬ (settleI j').dn = true := fun q p => by rw [settle_dn0 q] at p; cases p
 have un : ∀ {e : Int} {i' j' : Ins}, Und w e i' j' → ¬ (settleI j').dn = true := fun q p => by rw [(und_ok q).1] at p; cases p
 rcases h with ⟨hs, -, -, hc⟩ | ⟨hs, -, -, rc, hc⟩ | ⟨hs, -, -, hc⟩ | ⟨hs, -, -, hc⟩ | ⟨hs, -, -, hc⟩ | ⟨hs, -, -, rfl⟩ | ⟨hs, -, -, rfl⟩
 ·rcases hc with ⟨-, rfl⟩ | ⟨-, hu⟩
  ·exact absurd hq (no (hS.dn0 (by omega)))
  ·exact absurd hq (un hu)
 ·rcases hc with ⟨-, rfl⟩ | ⟨-, hu⟩
  ·exact absurd hq (no (hS.dn0 (by omega)))
  ·exact absurd hq (un hu)
 ·rcases hc with ⟨-, rfl⟩ | ⟨-, hu⟩
  ·exact absurd hq (no (hS.dn0 (by omega)))
  ·exact absurd hq (un hu)
 ·rcases hc with ⟨-, rfl⟩ | ⟨-, hu⟩
  ·exact absurd hq (no (hS.dn0 (by omega)))
  ·exact absurd hq (un hu)
 ·rcases hc with ⟨-, rfl⟩ | ⟨-, hu⟩
  ·rw [settle_succ]
   obtain ⟨-, -, -, -, -, g | g | g | g | g | g | g | g | g⟩ := hS <;> first | (have := g.1; omega) | (show 0 < i.pt; have := g.2.2.2.1; omega)
  ·exact absurd hq (un hu)
 ·exact absurd hq (no (hS.dn0 (by omega)))
 ·exact absurd hq (no (hS.dn0 (by omega)))
theorem AgI.other {w w' : World} {T : Nat → Prop} {b b' : Nat} {i : Ins} {d : JbD} {ds : List RecD} {hd : RecD} {jb cb cl ci : Nat} {m : MB} {S S' : Nat → Prop} (h : AgI w T b' i d ds hd jb cb cl ci) (hk : Kept (fun x => US m S b x ∨ x = cl) w w') (hm : ∀ x, MS m S x → T x) (hb : T b) (hc : T cl) (hS : ∀ x, MS m S' x → MS m S x ∨ w.heap.size ≤ x) (n1 : ¬ MS m S b') (n2 : b' ≠ b) (n3 : b' ≠ cl) : AgI w' (fun x => T x ∨ MS m S' x) b' i d ds hd jb cb cl ci := by
 have hU : ∀ x, (US m S b x ∨ x = cl) → T x := fun x hx => hx.elim (fun q => q.elim (hm x) (fun e => e ▸ hb)) (fun e => e ▸ hc)
 have hG : ∀ x, (T x ∨ MS m S' x) → T x ∨ w.heap.size ≤ x := fun x hx => hx.elim .inl (fun q => (hS x q).imp (hm x) id)
 refine ⟨h.lies.keep hk (fun q => q.elim (fun q => q.elim n1 n2) n3), h.sh, fun e => ?_, fun e q hq => (h.recs e q hq).grow hk hU hG⟩
 obtain ⟨h1, h2, h3, h4, h5, h6⟩ := h.job e
 have hj := (Array.getElem?_eq_some_iff.1 h3).1
 have hc' := (Array.getElem?_eq_some_iff.1 h4).1
 exact ⟨h1, h2, (hk.block jb hj (fun q => h5 (hU _ q))).trans h3, (hk.block cb hc' (fun q => h6 (hU _ q))).trans h4, fun q => (hG _ q).elim h5 (fun q => by omega), fun q => (hG _ q).elim h6 (fun q => by omega)⟩
theorem AgI.moveK {w w' : World} {T T' K : Nat → Prop} {b : Nat} {i : Ins} {d : JbD} {ds : List RecD} {hd : RecD} {jb cb cl ci : Nat} (h : AgI w T b i d ds hd jb cb cl ci) (hk : Kept K w w') (kin : ∀ x, K x → T x) (new : ∀ x, T' x → T x ∨ w.heap.size ≤ x) (nk : ¬ K b) : AgI w' T' b i d ds hd jb cb cl ci := by
 refine ⟨h.lies.keep hk nk, h.sh, fun e => ?_, fun e q hq => (h.recs e q hq).grow hk kin new⟩
 obtain ⟨a1, a2, a3, a4, a5, a6⟩ := h.job e
 have l3 := (Array.getElem?_eq_some_iff.1 a3).1
 have l4 := (Array.getElem?_eq_some_iff.1 a4).1
 exact ⟨a1, a2, (hk.block jb l3 (fun q => a5 (kin _ q))).trans a3, (hk.block cb l4 (fun q => a6 (kin _ q))).trans a4, fun q => (new _ q).elim a5 (fun q => by omega), fun q => (new _ q).elim a6 (fun q => by omega)⟩
open Go.RowKit
structure PE where
 b : Nat
 jb : Nat
 cb : Nat
 i : Ins
 d : JbD
 bs : List RcL
 ds : List RecD
 hd : RecD
 e : Int
structure PEAt (w0 w : World) (T : Nat → Prop) (cl k : Nat) (cz : Array Value) (x : PE) : Prop where
 ag : AgI w T x.b x.i x.d x.ds x.hd x.jb x.cb cl k
 jr : JobR w0 x.d x.bs x.ds x.hd
 er : x.i.dn = false → (x.i.st = 0 ∨ x.i.st = 7 ∨ x.i.st = 8) → ErrF w x.i.er x.e
 en : x.i.dn = true ∨ (1 ≤ x.i.st ∧ x.i.st ≤ 6) → x.i.er = .nilIface
 tb : T x.b
 ct : ∃ n : Int, cz[k]? = some (.int .i64 n) ∧ n ≤ 1 ∧ ((x.i.st = 1 ∨ x.i.st = 2) → n = 0)
 pd : x.i.dn = true → 0 < x.i.pt
def PvT (U : TypeId) : Prop := U = 68 ∨ U = 43 ∨ U = 58
instance (U : TypeId) : Decidable (PvT U) := by unfold PvT; infer_instance
theorem PvT.fb {U : TypeId} (h : PvT U) : FbT U := by rcases h with h | h | h <;> (unfold FbT; simp [h])
theorem PvT.ne {U V : TypeId} (h : PvT U) (hV : ¬ PvT V) : U ≠ V := fun e => hV (e ▸ h)
structure ProgB (w0 w : World) (T : Nat → Prop) (cl : Nat) (cz : Array Value) (m : MB) (S : Nat → Prop) (l : LimN) (cnt : Int) (ps : List Pt) (L : List Pg) (c : Ck) (xs : List PE) : Prop where
 M : MemAt w m S l cnt ps L c
 below : Below w0.heap.size w0 w
 ctr : CtrAt w cl cz
 tin : ∀ k, T k → w0.heap.size ≤ k ∧ k < w.heap.size
 tm : ∀ k, MS m S k → T k
 tc : T cl
 ty : ∀ k, MS m S k → OkB w k
 each : ∀ (k : Nat) (x : PE), xs[k]? = some x → PEAt w0 w T cl k cz x
 inj : ∀ (k k' : Nat) (x y : PE), xs[k]? = some x → xs[k']? = some y → x.b = y.b → k = k'
section
variable {w0 w w' : World} {T T' : Nat → Prop} {cl : Nat} {cz : Array Value} {m : MB} {S : Nat → Prop} {l : LimN} {cnt : Int} {ps : List Pt} {L : List Pg} {c : Ck} {xs : List PE}
theorem ProgB.nc (h : ProgB w0 w T cl cz m S l cnt ps L c xs) : ¬ MS m S cl := fun q => h.ty _ q _ _ h.ctr (by decide)
theorem PEAt.nb {k : Nat} {x : PE} (p : PEAt w0 w T cl k cz x) (h : ∀ k, MS m S k → OkB w k) : ¬ MS m S x.b := fun q => h _ q _ _ p.ag.lies.blk (by decide)
theorem PEAt.ne {k : Nat} {x : PE} (p : PEAt w0 w T cl k cz x) (h : CtrAt w cl cz) : x.b ≠ cl := blk_ne p.ag.lies.blk h (by decide)
theorem ErrF.keptT {v : Value} {e : Int} (h : ErrF w v e) {K : Nat → Prop} (hk : Kept K w w') (hn : ∀ b, K b → (∃ cs U, w.heap[b]? = some (.cells cs U (0, 0)) ∧ U ≠ 200) ∨ OkB w b) : ErrF w' v e :=
 h.kept hk (fun b hb cs e => (hn b hb).elim (fun ⟨cs', U, h1, h2⟩ => by rw [h1] at e; simp only [Option.some.injEq, Obj.cells.injEq] at e; exact h2 e.2.1) (fun q => q _ _ e (by decide)))
theorem ProgB.move (h : ProgB w0 w T cl cz m S l cnt ps L c xs) {K : Nat → Prop} (hk : Kept K w w') (kin : ∀ x, K x → T x) (kt : ∀ x, K x → ∃ cs U, w.heap[x]? = some (.cells cs U (0, 0)) ∧ PvT U) (up : ∀ x, T x → T' x) (new : ∀ x, T' x → T x ∨ w.heap.size ≤ x) (lt : ∀ x, T' x → x < w'.heap.size) : ProgB w0 w' T' cl cz m S l cnt ps L c xs := by
 have hM : ∀ x, MS m S x → ¬ K x := fun x hx q => by obtain ⟨cs, U, h1, h2⟩ := kt x q; exact h.ty x hx cs U h1 h2.fb
 have nk : ∀ {x : Nat} {cs : Array Value} {V : TypeId}, w.heap[x]? = some (.cells cs V (0, 0)) → ¬ PvT V → ¬ K x := fun hx hV q => by
  obtain ⟨cs, U, h1, h2⟩ := kt _ q
  exact blk_ne h1 hx (h2.ne hV) rfl
 refine ⟨h.M.keep hk hM, h.below.trans (hk.below (n := w0.heap.size) (fun x q => (h.tin x (kin x q)).1) h.below.size), h.ctr.kept hk (nk h.ctr (by decide)), fun x q => ⟨(new x q).elim (fun q => (h.tin x q).1) (fun q => Nat.le_trans h.below.size q), lt x q⟩, fun x q => up x (h.tm x q), up _ h.tc, fun x q => ?_, fun k x q => ?_, h.inj⟩
 ·have e := hk.block x (h.tin x (h.tm x q)).2 (hM x q)
  exact fun cs U r => h.ty x q cs U (e.symm.trans r)
 ·have p := h.each k x q
  exact ⟨p.ag.moveK hk kin new (nk p.ag.lies.blk (by decide)), p.jr, fun a b => (p.er a b).keptT hk (fun y hy => .inl (by obtain ⟨cs, U, h1, h2⟩ := kt y hy; exact ⟨cs, U, h1, h2.ne (by decide)⟩)), p.en, up _ p.tb, p.ct, p.pd⟩
theorem ProgB.low (h : ProgB w0 w T cl cz m S l cnt ps L c xs) (hb : Below w.heap.size w w') : ProgB w0 w' T cl cz m S l cnt ps L c xs :=
 h.move (K := fun _ => False) (Kept.of_below hb) (fun _ q => q.elim) (fun _ q => q.elim) (fun _ q => q) (fun _ q => .inl q) (fun x q => Nat.lt_of_lt_of_le (h.tin x q).2 hb.size)
theorem ProgB.join (h : ProgB w0 w T cl cz m S l cnt ps L c xs) (hb : Below w.heap.size w w') {x : PE} (h1 : w.heap.size ≤ x.b) (hx : PEAt w0 w' (fun y => T y ∨ y = x.b) cl xs.length cz x) : ProgB w0 w' (fun y => T y ∨ y = x.b) cl cz m S l cnt ps L c (xs ++ [x]) := by
 have h2 := (Array.getElem?_eq_some_iff.1 hx.ag.lies.blk).1
 have g := h.move (T' := fun y => T y ∨ y = x.b) (K := fun _ => False) (Kept.of_below hb) (fun _ q => q.elim) (fun _ q => q.elim) (fun _ q => .inl q) (fun y q => q.imp id (fun (e : y = x.b) => by rw [e]; exact h1)) (fun y q => q.elim (fun q => Nat.lt_of_lt_of_le (h.tin y q).2 hb.size) (fun e => by rw [e]; exact h2))
 have cas : ∀ (k : Nat) (y : PE), (xs ++ [x])[k]? = some y → xs[k]? = some y ∨ (k = xs.length ∧ y = x) := fun k y q => by
  rcases Nat.lt_or_ge k xs.length with hk | hk
  ·rw [List.getElem?_append_left hk] at q; exact .inl q
  ·rw [List.getElem?_append_right hk] at q
   have : k - xs.length = 0 := by
    have := (List.getElem?_eq_some_iff.1 q).1
    simp only [List.length_singleton] at this
    omega
   rw [this] at q
   exact .inr ⟨by omega, (Option.some.inj q).symm⟩
 have old : ∀ (k : Nat) (y : PE), xs[k]? = some y → y.b < w.heap.size := fun k y q => (h.tin _ (h.each k y q).tb).2
 refine ⟨g.M, g.below, g.ctr, g.tin, g.tm, g.tc, g.ty, fun k y q => ?_, fun k k' y z q r e => ?_⟩
 ·rcases cas k y q with q | ⟨rfl, rfl⟩
  ·exact g.each k y q
  ·exact hx
 ·rcases cas k y q with q1 | ⟨e1, e2⟩ <;> rcases cas k' z r with r1 | ⟨e3, e4⟩
  ·exact h.inj k k' y z q1 r1 e
  ·have := old k y q1; rw [e4] at e; omega
  ·have := old k' z r1; rw [e2] at e; omega
  ·rw [e1, e3]
theorem set_self {α : Type} {xs : List α} {k : Nat} {x : α} (h : xs[k]? = some x) : xs.set k x = xs := by
 obtain ⟨hk, e⟩ := List.getElem?_eq_some_iff.1 h
 rw [← e]; exact List.set_getElem_self hk
theorem set_at {α : Type} {xs : List α} {k k' : Nat} {x y : α} (h : (xs.set k x)[k']? = some y) : (k' = k ∧ y = x) ∨ (k' ≠ k ∧ xs[k']? = some y) := by
 rw [List.getElem?_set] at h
 by_cases e : k = k'
 ·rw [if_pos e] at h
  split at h
  ·exact .inl ⟨e.symm, (Option.some.inj h).symm⟩
  ·cases h
 ·rw [if_neg e] at h; exact .inr ⟨fun q => e q.symm, h⟩
def ProgQ (w0 w : World) (T : Nat → Prop) (cl : Nat) (m : MB) (l : LimN) (cnt : Int) (c : Ck) (xs : List PE) (k : Nat) (x : PE) (R : DI × List Pt × List Pg) (ov : Bool) (ev : Ending) (w' : World) : Prop :=
 ∃ (T' S' : Nat → Prop) (cz' : Array Value) (x' : PE), ev = .returned (.bool R.1.over) ∧ x'.b = x.b ∧ x'.d = x.d ∧ x'.ds = x.ds ∧ x'.hd = x.hd ∧ x'.bs = x.bs ∧ Sim x.d x'.i x'.e R.1 ∧ ProgB w0 w' T' cl cz' m S' l (if ov = true then cnt else inc cnt) R.2.1 R.2.2 c (xs.set k x') ∧ Kept T w w' ∧ (∀ y, T y → T' y) ∧ (∀ y, T' y → T y ∨ w.heap.size ≤ y) ∧ ∀ (y : Nat) (cs : Array Value) (U : TypeId), w.heap[y]? = some (.cells cs U (0, 0)) → PvT U → w'.heap[y]? = some (.cells cs U (0, 0))
theorem ProgB.step (h : ProgB w0 w T cl cz m S l cnt ps L c xs) {k : Nat} {x : PE} (hx : xs[k]? = some x) {D : DI} (hD : Sim x.d x.i x.e D) :
  Calls Tryz.prog 11 #[.pointer (some ⟨x.b, 0, none⟩), .pointer (some ⟨m.mb, 0, none⟩)] w (ProgQ w0 w T cl m l cnt c xs k x (D.step l x.d x.ds x.hd ps L) D.over) := by
 have p := h.each k x hx
 by_cases hs : x.i.st = 0
 ·refine (iStep0 w x.b x.i _ p.ag.lies hs).mono ?_
  rintro ev w' ⟨rfl, rfl⟩
  have ho : D.over = true := hD.over.trans (decide_eq_true hs)
  rw [step_over ho]
  exact ⟨T, S, cz, x, by rw [ho], rfl, rfl, rfl, rfl, rfl, hD, by rw [set_self hx, if_pos ho]; exact h, Kept.refl _ _, fun _ q => q, fun _ q => .inl q, fun _ _ _ q _ => q⟩
 ·obtain ⟨n, hn1, hn2, hn3⟩ := p.ct
  have hnb := p.nb h.ty
  have hne := p.ne h.ctr
  refine (ag_step w0 w T x.b x.i x.d x.bs x.ds x.hd x.jb x.cb cl k cz m S l cnt ps L c p.ag ⟨p.jr, h.below, h.ctr, ⟨n, hn1⟩, h.tin, h.tm, p.tb, h.tc, hnb, h.nc, hne⟩ h.M hs).mono ?_
  rintro ev w' ⟨S', j, ps', L', rfl, hM', ha, hA', hk, hS, cz', hc', hcn⟩
  have hasf : x.i.st = 1 → x.i.hasF = true := fun e => by
   unfold Ins.hasF; rw [(p.ag.job (.inl e)).1]
  obtain ⟨e', s1, rfl, rfl, s4⟩ := sim_step ha p.ag.sh hasf hD
  have ho : D.over = false := hD.over.trans (decide_eq_false hs)
  have hov : (((settleI j).st : Int) == 0) = (D.step l x.d x.ds x.hd ps L).1.over := by
   rw [s1.over]
   by_cases e : (settleI j).st = 0
   ·rw [e]; rfl
   ·rw [decide_eq_false e, beq_eq_false_iff_ne]; omega
  have typ : ∀ y, (US m S x.b y ∨ y = cl) → (∃ cs U, w.heap[y]? = some (.cells cs U (0, 0)) ∧ U ≠ 200) ∨ OkB w y := fun y hy => by
   rcases hy with (hy | rfl) | rfl
   ·exact .inr (h.ty y hy)
   ·exact .inl ⟨_, _, p.ag.lies.blk, by decide⟩
   ·exact .inl ⟨_, _, h.ctr, by decide⟩
  have hU : ∀ y, (US m S x.b y ∨ y = cl) → T y := fun y hy => hy.elim (fun q => q.elim (h.tm y) (fun e => e ▸ p.tb)) (fun e => e ▸ h.tc)
  have hT' : ∀ y, (T y ∨ MS m S' y) → T y ∨ w.heap.size ≤ y := fun y q => q.elim .inl (fun q => (hS y q).imp (h.tm y) id)
  have hlt : ∀ y, MS m S' y → y < w'.heap.size := hM'.lt
  have nc' : ∀ k', k' ≠ k → cz'[k']? = cz[k']? := fun k' hk' => by
   rcases hcn with ⟨-, rfl⟩ | ⟨-, n', -, rfl⟩
   ·rfl
   ·exact Array.getElem?_setIfInBounds_ne (fun e => hk' e.symm)
  refine ⟨fun y => T y ∨ MS m S' y, fun y => S' y ∧ OkB w' y, cz', { x with i := settleI j, e := e' }, by rw [hov], rfl, rfl, rfl, rfl, rfl, s1, ?_, hk.wide (fun y _ q => hU y q), fun _ q => .inl q, hT', fun y cs U hy hU' => ?_⟩
  ·rw [if_neg (by rw [ho]; decide)]
   refine ⟨hM'.shrink, h.below.trans (hk.below (n := w0.heap.size) (fun y q => (h.tin y (hU y q)).1) h.below.size), hc', fun y q => ⟨(hT' y q).elim (fun q => (h.tin y q).1) (fun q => Nat.le_trans h.below.size q), q.elim (fun q => Nat.lt_of_lt_of_le (h.tin y q).2 hk.size) (hlt y)⟩, fun y q => .inr (q.imp id (fun q => q.imp And.left id)), .inl h.tc, hM'.okMS, fun k' y hy => ?_, fun k1 k2 y z hy hz e => ?_⟩
   ·rcases set_at hy with ⟨rfl, rfl⟩ | ⟨hne', hy⟩
    ·refine ⟨hA', p.jr, fun a b => ?_, fun q => step_er ha p.ag.sh (fun q => p.en (.inr q)) q, .inl p.tb, ?_, step_pd ha p.ag.sh⟩
     ·rcases s4 a b with ⟨q1, q2, q3, q4⟩ | q
      ·show ErrF w' (settleI j).er e'
       rw [q1, q2]
       exact (p.er q4 (.inr q3)).keptT hk typ
      ·exact q
     ·rcases hcn with ⟨-, rfl⟩ | ⟨h2, n', hn', rfl⟩
      ·exact ⟨n, hn1, hn2, fun q => hn3 (.inl (step_early ha p.ag.sh hA' q))⟩
      ·obtain rfl : n = n' := by rw [hn1] at hn'; simpa using hn'
       obtain rfl : n = 0 := hn3 (.inr h2)
       refine ⟨1, ?_, by decide, fun q => ?_⟩
       ·rw [Array.getElem?_setIfInBounds_self_of_lt (Array.getElem?_eq_some_iff.1 hn1).1, show inc 0 = 1 from inc_at (by decide) (by decide)]
       ·have := step_early ha p.ag.sh hA' q; omega
    ·have p' := h.each k' y hy
     refine ⟨p'.ag.other hk h.tm p.tb h.tc hS (p'.nb h.ty) (fun e => hne' (h.inj k' k y x hy hx e)) (p'.ne h.ctr), p'.jr, fun a b => (p'.er a b).keptT hk typ, p'.en, .inl p'.tb, ?_, p'.pd⟩
     rw [nc' k' hne']; exact p'.ct
   ·rcases set_at hy with ⟨e1, e2⟩ | ⟨n1, hy1⟩ <;> rcases set_at hz with ⟨e3, e4⟩ | ⟨n2, hz1⟩
    ·rw [e1, e3]
    ·rw [e1]; exact h.inj _ _ x z hx hz1 (by rw [e2] at e; exact e)
    ·rw [e3]; exact h.inj _ _ y x hy1 hx (by rw [e4] at e; exact e)
    ·exact h.inj _ _ y z hy1 hz1 e
  ·refine (hk.block y (Array.getElem?_eq_some_iff.1 hy).1 (fun q => ?_)).trans hy
   rcases q with (q | rfl) | rfl
   ·exact h.ty y q cs U hy hU'.fb
   ·exact blk_ne hy p.ag.lies.blk (hU'.ne (by decide)) rfl
   ·exact blk_ne hy h.ctr (hU'.ne (by decide)) rfl
end
open Go.RowKit
theorem inc_w (k : Int) : IntKind.i64.wrap (k + 1) = inc k := Go.IntWalk.i64_left _
/-! ### a whole element is stored -/
def setL : List Value → Nat → List Value → List Value
 | l, _, [] => l
 | l, o, v :: r => setL (l.set o v) (o + 1) r
theorem setL_left (b : List Value) : ∀ (vs a : List Value) (o : Nat), o + vs.length ≤ a.length → setL (a ++ b) o vs = setL a o vs ++ b
 | [], _, _, _ => rfl
 | v :: r, a, o, h => by
  simp only [List.length_cons] at h
  unfold setL
  rw [List.set_append_left _ _ (by omega)]
  exact setL_left b r _ _ (by rw [List.length_set]; omega)
theorem setL_right (a : List Value) : ∀ (vs b : List Value) (o : Nat), setL (a ++ b) (a.length + o) vs = a ++ setL b o vs
 | [], _, _ => rfl
 | v :: r, b, o => by
  unfold setL
  rw [List.set_append_right _ _ (by omega), show a.length + o - a.length = o by omega, show a.length + o + 1 = a.length + (o + 1) by omega]
  exact setL_right a r _ _
theorem setL_all : ∀ (vs p a : List Value), a.length = vs.length → setL (p ++ a) p.length vs = p ++ vs
 | [], p, a, h => by rw [List.eq_nil_of_length_eq_zero h]; rfl
 | v :: r, p, a, h => by
  cases a with
  | nil => cases h
  | cons z a =>
   unfold setL
   rw [List.set_append_right _ _ (Nat.le_refl _), Nat.sub_self, List.set_cons_zero]
   have e := setL_all r (p ++ [v]) a (by simpa using h)
   rw [List.append_assoc, List.length_append] at e
   rw [show p ++ v :: a = p ++ ([v] ++ a) from rfl]
   rw [show p.length + 1 = p.length + [v].length from rfl, e, List.append_assoc]; rfl
theorem flat_setL {α : Type} (E : Lay α) : ∀ (xs : List α) (i : Nat) (x y : α), xs[i]? = some x → E.flat (xs.set i y) = setL (E.flat xs) (i * E.sz) (E.enc y)
 | [], _, _, _, h => by simp at h
 | z :: xs, 0, x, y, h => by
  simp only [List.set_cons_zero, Lay.flat, Nat.zero_mul]
  rw [setL_left _ _ _ _ (by rw [E.len, E.len]; omega)]
  have := setL_all (E.enc y) [] (E.enc z) (by rw [E.len, E.len])
  simp only [List.nil_append, List.length_nil] at this
  rw [this]
 | z :: xs, i + 1, x, y, h => by
  simp only [List.set_cons_succ, Lay.flat]
  rw [flat_setL E xs i x y (by simpa using h), ← setL_right, E.len, Nat.add_mul, Nat.one_mul, Nat.add_comm]
theorem ownsRow_setL {base n : Nat} {e : TypeId} {size g cap : Nat} : ∀ (vs : List Value) (w : World) (o : Nat) (xs : List Value), w.ownsRow base e size (.slice (some ⟨g, 0, none⟩) n cap) n xs → (w.setCells g o vs).ownsRow base e size (.slice (some ⟨g, 0, none⟩) n cap) n (setL xs o vs)
 | [], _, _, _, h => h
 | v :: r, w, o, xs, h => ownsRow_setL r _ (o + 1) _ (World.ownsRow.stored h o v).1
theorem OwnS.setAll {α : Type} {E : Lay α} {base : Nat} {w : World} {g n cap : Nat} {xs : List α} (h : OwnS E base w (.slice (some ⟨g, 0, none⟩) n cap) xs) {i : Nat} {x : α} (hi : xs[i]? = some x) (y : α) :
  OwnS E base (w.setCells g (i * E.sz) (E.enc y)) (.slice (some ⟨g, 0, none⟩) n cap) (xs.set i y) := by
 have hn : n = xs.length := by
  obtain ⟨_, h⟩ := h
  rcases h with ⟨h, -⟩ | ⟨g', cap', cur, h, -⟩
  ·cases h
  ·exact (Value.slice.inj h).2.1
 subst hn
 have e := ownsRow_setL (E.enc y) w (i * E.sz) (E.flat xs) h
 unfold OwnS
 rw [flat_setL E xs i x y hi, List.length_set]
 exact e
/-! ### the document's installers -/
theorem DX.list_one (X : DX) : ∀ u ∈ X.list, u.oneCell' = true := fun u hu => by
 rcases List.mem_append.1 hu with h | h
 ·exact X.d.cells_one u h
 ·simp only [List.mem_cons, List.not_mem_nil, or_false] at h
  rcases h with h | h | h | h | h | h | h | h <;> (subst h; rfl)
def lDX : Lay DX := ⟨68, 29, DX.list, DX.len, DX.list_one⟩
theorem lDX_known : lDX.known 328 := known_of (z := DX.zero.val) (by kernel_rfl) rfl rfl
structure DE where
 X : DX
 D : DI
structure DocB (w0 w : World) (T : Nat → Prop) (Y : MX) (ps : List Pt) (L : List Pg) (us : List PuD) (ups : List Up) (ys : List DE) : Prop where
 D : DocM w0 w T Y ps L us ups
 each : ∀ (k : Nat) (y : DE), ys[k]? = some y → DocI w T y.X y.D
section
variable {w0 w w' : World} {T T' : Nat → Prop} {Y : MX} {ps : List Pt} {L : List Pg} {us : List PuD} {ups : List Up} {ys : List DE}
theorem DocB.grow (h : DocB w0 w T Y ps L us ups ys) {K : Nat → Prop} (hk : Kept K w w') (hK : ∀ k, K k → T k) (new : ∀ k, T' k → T k ∨ w.heap.size ≤ k) (lt : ∀ k, T' k → k < w'.heap.size) : DocB w0 w' T' Y ps L us ups ys :=
 ⟨h.D.grow hk hK new lt, fun k y q => (h.each k y q).grow hk hK new⟩
theorem DocB.low (h : DocB w0 w T Y ps L us ups ys) (hs : Below w.heap.size w w') : DocB w0 w' T Y ps L us ups ys := ⟨h.D.low hs, fun k y q => (h.each k y q).low hs⟩
theorem DocB.join (h : DocB w0 w T Y ps L us ups ys) {y : DE} (hy : DocI w T y.X y.D) : DocB w0 w T Y ps L us ups (ys ++ [y]) :=
 ⟨h.D, fun k z q => by
  rcases Nat.lt_or_ge k ys.length with hk | hk
  ·rw [List.getElem?_append_left hk] at q; exact h.each k z q
  ·rw [List.getElem?_append_right hk] at q
   have : k - ys.length = 0 := by
    have := (List.getElem?_eq_some_iff.1 q).1
    simp only [List.length_singleton] at this
    omega
   rw [this] at q
   rw [← Option.some.inj q]; exact hy⟩
def DocQ (w0 w : World) (T : Nat → Prop) (Y : MX) (us : List PuD) (ups : List Up) (ys : List DE) (k : Nat) (y : DE) (R : DI × List Pt × List Pg) (ov : Bool) (ev : Ending) (w' : World) : Prop :=
 ∃ (X' : DX) (Y' : MX) (us' : List PuD) (ups' : List Up), ev = .returned (.tuple #[X'.val, Y'.val]) ∧ X'.d = y.X.d ∧ Y'.l = Y.l ∧ Y'.count = (if ov = true then Y.count else inc Y.count) ∧ DocB w0 w' T Y' R.2.1 R.2.2 us' ups' (ys.set k ⟨X', R.1⟩) ∧ us'.length ≤ us.length + 1 ∧ ups'.length ≤ ups.length + 1 ∧ Below w.heap.size w w'
theorem DocB.step {i : Ins} {e : Int} {bs : List RcL} {ds : List RecD} {hd : RecD} (h : DocB w0 w T Y ps L us ups ys) {k : Nat} {y : DE} (hy : ys[k]? = some y) (hJ : JobR w0 y.X.d bs ds hd) (hS : Shape i) (hM : Sim y.X.d i e y.D) (hu : us.length ≤ 900) (hv : ups.length ≤ 900) (hl : Y.l.ok) :
  Calls Tryz.prog 12 #[y.X.val, Y.val] w (DocQ w0 w T Y us ups ys k y (y.D.step Y.l y.X.d ds hd ps L) y.D.over) := by
 refine (DocM.step h.D (h.each k y hy) hJ hS hM hu hv hl).mono ?_
 rintro ev w' ⟨X', Y', us', ups', rfl, h1, h2, h3, h4, h5, h6, h7, h8⟩
 refine ⟨X', Y', us', ups', rfl, h1, h2, h3.trans (by rw [inc_w]), ⟨h4, fun k' z q => ?_⟩, h6, h7, h8⟩
 rcases set_at q with ⟨-, rfl⟩ | ⟨-, q⟩
 ·exact h5
 ·exact (h.each k' z q).low h8
end
/-! ### both sides -/
def SimAll (xs : List PE) (ys : List DE) : Prop := ys.length = xs.length ∧ ∀ (k : Nat) (x : PE) (y : DE), xs[k]? = some x → ys[k]? = some y → Sim x.d x.i x.e y.D ∧ y.X.d = x.d
theorem SimAll.none : SimAll [] [] := ⟨rfl, fun k x y h => by simp at h⟩
theorem snoc_at {α : Type} {xs : List α} {x y : α} {k : Nat} (h : (xs ++ [x])[k]? = some y) : xs[k]? = some y ∨ (k = xs.length ∧ y = x) := by
 rcases Nat.lt_or_ge k xs.length with hk | hk
 ·rw [List.getElem?_append_left hk] at h; exact .inl h
 ·rw [List.getElem?_append_right hk] at h
  have : k - xs.length = 0 := by
   have := (List.getElem?_eq_some_iff.1 h).1
   simp only [List.length_singleton] at this
   omega
  rw [this] at h
  exact .inr ⟨by omega, (Option.some.inj h).symm⟩
theorem SimAll.join {xs : List PE} {ys : List DE} (h : SimAll xs ys) {x : PE} {y : DE} (hs : Sim x.d x.i x.e y.D) (hd : y.X.d = x.d) : SimAll (xs ++ [x]) (ys ++ [y]) := by
 refine ⟨by rw [List.length_append, List.length_append, h.1]; rfl, fun k a b h1 h2 => ?_⟩
 rcases snoc_at h1 with q1 | ⟨e1, e2⟩ <;> rcases snoc_at h2 with q2 | ⟨e3, e4⟩
 ·exact h.2 k a b q1 q2
 ·have := (List.getElem?_eq_some_iff.1 q1).1; rw [h.1] at e3; omega
 ·have := (List.getElem?_eq_some_iff.1 q2).1; rw [h.1] at this; omega
 ·rw [e2, e4]; exact ⟨hs, hd⟩
theorem SimAll.set {xs : List PE} {ys : List DE} (h : SimAll xs ys) {k : Nat} {x : PE} {y : DE} (hs : Sim x.d x.i x.e y.D) (hd : y.X.d = x.d) : SimAll (xs.set k x) (ys.set k y) := by
 refine ⟨by rw [List.length_set, List.length_set]; exact h.1, fun q a b h1 h2 => ?_⟩
 rcases set_at h1 with ⟨e3, e1⟩ | ⟨n1, q1⟩ <;> rcases set_at h2 with ⟨e0, e2⟩ | ⟨n2, q2⟩
 ·rw [e1, e2]; exact ⟨hs, hd⟩
 ·exact absurd e3 n2
 ·exact absurd e0 n1
 ·exact h.2 q a b q1 q2
open Go.ChangeShapes Go.WideShapes Go.RowKit
theorem Tryz.own : ownKnob Tryz.prog.godebug = none := by kernel_rfl
theorem Tryz.laidOut : laidOutB Tryz.prog = true := by kernel_rfl
section
variable {H : Type} {enc : TypeId × Value → H} {w : World} {base : Nat} {spare : Nat → Bool} {held : Bool}
theorem sv_pairs {α : Type} (E : Lay α) (hsz : E.sz = 2) {a : Addr} {len cap : Nat} (f : Nat → α) (V0 V1 : Nat → Value) (h : ∀ i, i < len → w.cell? (a.add (i * 2)) = some (V0 i) ∧ w.cell? (a.add (i * 2 + 1)) = some (V1 i) ∧ E.enc (f i) = [V0 i, V1 i])
  (hl : len ≤ cap) (hm : cap ≤ maxLen) : SV E w (.slice (some a) len cap) ((List.range len).map f) := by
 obtain ⟨b, off, spot⟩ := a
 have hlen : ((List.range len).map f).length = len := by simp
 refine ⟨some ⟨b, off, spot⟩, cap, by rw [hlen], by rw [hlen]; exact hl, hm, fun h => (by cases h), b, off, fun hne x hx => ?_, fun j u hu => ?_⟩
 ·rw [hlen] at hne
  have hs := World.cell?_spot (h 0 (by omega)).1
  simp only [Addr.add, Nat.zero_mul, if_true] at hs
  subst hs
  exact (Option.some.inj hx).symm
 ·have hj : j < len * 2 := by
   have := (List.getElem?_eq_some_iff.1 hu).1
   rw [E.flat_len, hlen, hsz] at this; exact this
  have hi : j / 2 < len := by omega
  have hx : ((List.range len).map f)[j / 2]? = some (f (j / 2)) := by rw [List.getElem?_map, List.getElem?_range hi]; rfl
  have e := E.flat_at _ (j / 2) (j % 2) _ hx (by rw [hsz]; exact Nat.mod_lt _ (by decide))
  rw [hsz, show j / 2 * 2 + j % 2 = j from Nat.div_add_mod' j 2, hu] at e
  obtain ⟨h0, h1, h2⟩ := h (j / 2) hi
  have hs := World.cell?_spot (h 0 (by omega)).1
  simp only [Addr.add, Nat.zero_mul, if_true] at hs
  subst hs
  rw [Go.WideShapes.add_plain] at h0 h1
  rw [h2] at e
  rcases Nat.mod_two_eq_zero_or_one j with hm | hm
  ·rw [hm] at e
   obtain rfl : u = V0 (j / 2) := by simpa using e
   rw [show off + j = off + j / 2 * 2 by omega]; exact h0
  ·rw [hm] at e
   obtain rfl : u = V1 (j / 2) := by simpa using e
   rw [show off + j = off + (j / 2 * 2 + 1) by omega]; exact h1
def strOf : Value → ByteArray | .string s => s | _ => ByteArray.empty
def intOfV : Value → Int | .int _ a => a | _ => 0
def Fits (t : TypeId) (d : DataW H) : Prop := ∀ k ∈ d.weights Tryz.prog t, k ≤ reachBytes
theorem wAll_mem {e : TypeId} {d : DataW H} {k : Nat} (hk : k ∈ d.weights Tryz.prog e) : ∀ {l : List (DataW H)}, d ∈ l → k ∈ DataW.weightsAll Tryz.prog e l
 | [], h => by cases h
 | y :: l, h => by
  simp only [DataW.weightsAll, List.mem_append]
  rcases List.mem_cons.1 h with rfl | h
  ·exact .inl hk
  ·exact .inr (wAll_mem hk h)
theorem Fits.elem {t e : TypeId} {elems spare' : List (DataW H)} (h : Fits t (.slice elems spare')) (hu : Tryz.prog.underlying t = some (.slice e)) {d : DataW H} (hd : d ∈ elems) : Fits e d := fun k hk => by
 refine h k ?_
 simp only [DataW.weights, hu]
 exact List.mem_cons_of_mem _ (List.mem_append_left _ (wAll_mem hk hd))
theorem Fits.part {t : TypeId} {fs : Array Field} {parts : List (DataW H)} (h : Fits t (.agg parts)) (hu : Tryz.prog.underlying t = some (.struct fs)) {j tj : Nat} {d : DataW H} (ht : (fs[j]?).map (·.type) = some tj) (hd : parts[j]? = some d) : Fits tj d := fun k hk => by
 refine h k ?_
 simp only [DataW.weights, hu]
 exact DataW.weights_mem_each (j := j) (by rw [List.getElem?_map, Array.getElem?_toList]; exact ht) hd k hk
theorem Fits.str {t : TypeId} {s : ByteArray} (h : Fits t (.lit (.string s.data.toList) : DataW H)) : s.size ≤ reachBytes := by
 have := h s.data.toList.length (by simp [DataW.weights])
 simpa using this
def SmallR (rows : List Rw) : Prop := ∀ r ∈ rows, r.1.size ≤ reachBytes ∧ r.2.size ≤ reachBytes
theorem rows_of {fuel : Nat} {cs : List Value} {x : DataW H × List MemPlace} (h : DataW.trod enc Tryz.prog w base spare held fuel 50 cs = some x) :
  ∃ (a : Option Addr) (c : Nat) (rows : List Rw), cs = [.slice a rows.length c] ∧ SV lRow w (.slice a rows.length c) rows ∧ (Fits 50 x.1 → SmallR rows) := by
 rcases Go.Deep.open_slice_pairs Tryz.underlying50 Tryz.underlying165 (by kernel_rfl) rfl rfl (by kernel_rfl) (by kernel_rfl) h with ⟨rfl, -⟩ | ⟨a, len, cap, m, n, V0, V1, D0, D1, P0, P1, rfl, -, hl, hm, hmm, rfl, hx⟩
 ·exact ⟨none, 0, [], rfl, SV.nil _ _, fun _ r hr => by cases hr⟩
 ·have hle : len ≤ m := by rw [hmm]; split <;> omega
  have sv := sv_pairs (w := w) lRow rfl (a := a) (len := len) (cap := cap) (fun i => (strOf (V0 i), strOf (V1 i))) V0 V1 (fun i hi => by
   obtain ⟨h1, h2, h3, h4⟩ := hx i (by omega)
   obtain ⟨s, e1, -, -⟩ := DataW.trod_string Tryz.underlying9 h3
   obtain ⟨t, e2, -, -⟩ := DataW.trod_string Tryz.underlying9 h4
   have e1' : V0 i = .string s := by simpa using e1
   have e2' : V1 i = .string t := by simpa using e2
   exact ⟨h1, h2, by rw [e1', e2']; rfl⟩) hl hm
  have hlen : ((List.range len).map fun i => ((strOf (V0 i), strOf (V1 i)) : Rw)).length = len := by simp
  refine ⟨some a, cap, _, by rw [hlen], by rw [hlen]; exact sv, fun hF r hr => ?_⟩
  obtain ⟨i, hi, rfl⟩ := List.mem_map.1 hr
  have hil : i < len := List.mem_range.1 hi
  obtain ⟨-, -, h3, h4⟩ := hx i (by omega)
  obtain ⟨s, e1, d1, -⟩ := DataW.trod_string Tryz.underlying9 h3
  obtain ⟨t, e2, d2, -⟩ := DataW.trod_string Tryz.underlying9 h4
  have e1' : V0 i = .string s := by simpa using e1
  have e2' : V1 i = .string t := by simpa using e2
  have hA := hF.elem Tryz.underlying50 (List.mem_map.2 ⟨i, hi, rfl⟩)
  have p0 := hA.part Tryz.underlying165 (j := 0) rfl rfl
  have p1 := hA.part Tryz.underlying165 (j := 1) rfl rfl
  rw [(Prod.mk.inj d1).1] at p0
  rw [(Prod.mk.inj d2).1] at p1
  rw [e1', e2']
  exact ⟨p0.str, p1.str⟩
theorem ents_of {fuel : Nat} {cs : List Value} {x : DataW H × List MemPlace} (h : DataW.trod enc Tryz.prog w base spare held fuel 51 cs = some x) :
  ∃ (a : Option Addr) (c : Nat) (ents : List En), cs = [.slice a ents.length c] ∧ SV lEnt w (.slice a ents.length c) ents := by
 rcases Go.Deep.open_slice_pairs Tryz.underlying51 Tryz.underlying168 (by kernel_rfl) rfl rfl (by kernel_rfl) (by kernel_rfl) h with ⟨rfl, -⟩ | ⟨a, len, cap, m, n, V0, V1, D0, D1, P0, P1, rfl, -, hl, hm, hmm, -, hx⟩
 ·exact ⟨none, 0, [], rfl, SV.nil _ _⟩
 ·have hle : len ≤ m := by rw [hmm]; split <;> omega
  have sv := sv_pairs (w := w) lEnt rfl (a := a) (len := len) (cap := cap) (fun i => (strOf (V0 i), intOfV (V1 i))) V0 V1 (fun i hi => by
   obtain ⟨h1, h2, h3, h4⟩ := hx i (by omega)
   obtain ⟨s, e1, -, -⟩ := DataW.trod_string Tryz.underlying9 h3
   obtain ⟨t, e2, -, -⟩ := DataW.trod_int Tryz.underlying3 h4
   have e1' : V0 i = .string s := by simpa using e1
   have e2' : V1 i = .int .i64 t := by simpa using e2
   exact ⟨h1, h2, by rw [e1', e2']; rfl⟩) hl hm
  have hlen : ((List.range len).map fun i => ((strOf (V0 i), intOfV (V1 i)) : En)).length = len := by simp
  exact ⟨some a, cap, _, by rw [hlen], by rw [hlen]; exact sv⟩
theorem list15 {α : Type} {l : List α} (h : l.length = 15) : ∃ a0 a1 a2 a3 a4 a5 a6 a7 a8 a9 a10 a11 a12 a13 a14, l = [a0, a1, a2, a3, a4, a5, a6, a7, a8, a9, a10, a11, a12, a13, a14] := by
 match l, h with
 | [a0, a1, a2, a3, a4, a5, a6, a7, a8, a9, a10, a11, a12, a13, a14], _ => exact ⟨a0, a1, a2, a3, a4, a5, a6, a7, a8, a9, a10, a11, a12, a13, a14, rfl⟩
theorem get_some {α : Type} {xs : List α} {n : Nat} (hl : xs.length = n) {i : Nat} (h : i < n) : ∃ y, xs[i]? = some y := ⟨_, List.getElem?_eq_getElem (by rw [hl]; exact h)⟩
theorem fld {fs : Array Field} {n : Nat} {cs : List Value} {xs : List (DataW H × List MemPlace)} (hf : ∀ (i : Nat) (f : Field), fs[i]? = some f → DataW.trod enc Tryz.prog w base spare held n f.type ((cs.drop f.offset).take (Tryz.prog.cellsOf f.type)) = xs[i]?)
  (i t o c : Nat) (ht : (fs[i]?).map (fun f => (f.type, f.offset)) = some (t, o)) (hc : Tryz.prog.cellsOf t = c) (hi : i < xs.length) : ∃ y, DataW.trod enc Tryz.prog w base spare held n t ((cs.drop o).take c) = some y ∧ xs[i]? = some y := by
 obtain ⟨f, h1, h2⟩ := Option.map_eq_some_iff.1 ht
 simp only [Prod.mk.injEq] at h2
 obtain ⟨rfl, rfl⟩ := h2
 subst hc
 exact ⟨_, (hf i f h1).trans (List.getElem?_eq_getElem hi), List.getElem?_eq_getElem hi⟩
theorem rec_of {fuel : Nat} {cs : List Value} {x : DataW H × List MemPlace} (h : DataW.trod enc Tryz.prog w base spare held fuel 55 cs = some x) :
  ∃ (s : Sc) (ra : Option Addr) (rc : Nat) (rows : List Rw) (ea : Option Addr) (ec : Nat) (ents : List En), cs = recCells s (.slice ra rows.length rc) (.slice ea ents.length ec) ∧ SV lRow w (.slice ra rows.length rc) rows ∧ SV lEnt w (.slice ea ents.length ec) ents ∧ (Fits 55 x.1 → SmallR rows) := by
 obtain ⟨xs, n, -, rfl, hl, hlen, hf⟩ := DataW.trod_struct Tryz.underlying55 h
 have c36 : Tryz.prog.cellsOf 55 = 15 := by kernel_rfl
 have cI : Tryz.prog.cellsOf 3 = 1 := by kernel_rfl
 have cS : Tryz.prog.cellsOf 9 = 1 := by kernel_rfl
 have cB : Tryz.prog.cellsOf 4 = 1 := by kernel_rfl
 have cR : Tryz.prog.cellsOf 50 = 1 := by kernel_rfl
 have cE : Tryz.prog.cellsOf 51 = 1 := by kernel_rfl
 have cH : Tryz.prog.cellsOf 53 = 3 := by kernel_rfl
 have cX : Tryz.prog.cellsOf 48 = 2 := by kernel_rfl
 rw [c36] at hl
 obtain ⟨a0, a1, a2, a3, a4, a5, a6, a7, a8, a9, a10, a11, a12, a13, a14, rfl⟩ := list15 hl
 have hn : xs.length = 12 := hlen
 obtain ⟨y0, f0, -⟩ := fld hf 0 3 0 1 rfl cI (by omega)
 obtain ⟨y1, f1, -⟩ := fld hf 1 9 1 1 rfl cS (by omega)
 obtain ⟨y2, f2, -⟩ := fld hf 2 9 2 1 rfl cS (by omega)
 obtain ⟨y3, f3, -⟩ := fld hf 3 4 3 1 rfl cB (by omega)
 obtain ⟨y4, f4, -⟩ := fld hf 4 3 4 1 rfl cI (by omega)
 obtain ⟨y5, f5, x5⟩ := fld hf 5 50 5 1 rfl cR (by omega)
 obtain ⟨y6, f6, -⟩ := fld hf 6 51 6 1 rfl cE (by omega)
 obtain ⟨y7, f7, -⟩ := fld hf 7 9 7 1 rfl cS (by omega)
 obtain ⟨y8, f8, -⟩ := fld hf 8 9 8 1 rfl cS (by omega)
 obtain ⟨y9, f9, -⟩ := fld hf 9 3 9 1 rfl cI (by omega)
 obtain ⟨y10, f10, -⟩ := fld hf 10 53 10 3 rfl cH (by omega)
 obtain ⟨y11, f11, -⟩ := fld hf 11 48 13 2 rfl cX (by omega)
 simp only [List.drop_zero, List.drop_succ_cons, List.take_succ_cons, List.take_zero] at f0 f1 f2 f3 f4 f5 f6 f7 f8 f9 f10 f11
 obtain ⟨k, g0, -, -⟩ := DataW.trod_int Tryz.underlying3 f0
 obtain ⟨lo, g1, -, -⟩ := DataW.trod_string Tryz.underlying9 f1
 obtain ⟨hi, g2, -, -⟩ := DataW.trod_string Tryz.underlying9 f2
 obtain ⟨un, g3, -⟩ := DataW.trod_bool Tryz.underlying4 f3
 obtain ⟨ri, g4, -, -⟩ := DataW.trod_int Tryz.underlying3 f4
 obtain ⟨ra, rc, rows, g5, sr, sw⟩ := rows_of f5
 obtain ⟨ea, ec, ents, g6, se⟩ := ents_of f6
 obtain ⟨ky, g7, -, -⟩ := DataW.trod_string Tryz.underlying9 f7
 obtain ⟨va, g8, -, -⟩ := DataW.trod_string Tryz.underlying9 f8
 obtain ⟨pg, g9, -, -⟩ := DataW.trod_int Tryz.underlying3 f9
 obtain ⟨xh, nh, -, -, -, hh, hfh⟩ := DataW.trod_struct Tryz.underlying53 f10
 obtain ⟨xr, nr, -, -, -, hr, hfr⟩ := DataW.trod_struct Tryz.underlying48 f11
 have hh3 : xh.length = 3 := hh
 have hr2 : xr.length = 2 := hr
 obtain ⟨u0, h0, -⟩ := fld hfh 0 3 0 1 rfl cI (by omega)
 obtain ⟨u1, h1, -⟩ := fld hfh 1 3 1 1 rfl cI (by omega)
 obtain ⟨u2, h2, -⟩ := fld hfh 2 9 2 1 rfl cS (by omega)
 obtain ⟨v0, h3, -⟩ := fld hfr 0 3 0 1 rfl cI (by omega)
 obtain ⟨v1, h4, -⟩ := fld hfr 1 3 1 1 rfl cI (by omega)
 simp only [List.drop_zero, List.drop_succ_cons, List.take_succ_cons, List.take_zero] at h0 h1 h2 h3 h4
 obtain ⟨hp, g10, -, -⟩ := DataW.trod_int Tryz.underlying3 h0
 obtain ⟨hl', g11, -, -⟩ := DataW.trod_int Tryz.underlying3 h1
 obtain ⟨hk, g12, -, -⟩ := DataW.trod_string Tryz.underlying9 h2
 obtain ⟨ns, g13, -, -⟩ := DataW.trod_int Tryz.underlying3 h3
 obtain ⟨ng, g14, -, -⟩ := DataW.trod_int Tryz.underlying3 h4
 simp only [List.cons.injEq, and_true] at g0 g1 g2 g3 g4 g5 g6 g7 g8 g9 g10 g11 g12 g13 g14
 subst g0 g1 g2 g3 g4 g5 g6 g7 g8 g9 g10 g11 g12 g13 g14
 exact ⟨⟨k, lo, hi, un, ri, ky, va, pg, hp, hl', hk, ns, ng⟩, ra, rc, rows, ea, ec, ents, rfl, sr, se, fun hF => sw (hF.part Tryz.underlying55 (j := 5) rfl (by rw [List.getElem?_map, x5]; rfl))⟩
theorem list2' {α : Type} {l : List α} (h : l.length = 2) : ∃ a b, l = [a, b] := by
 match l, h with
 | [a, b], _ => exact ⟨a, b, rfl⟩
theorem ref2_of {fuel : Nat} {cs : List Value} {x : DataW H × List MemPlace} (h : DataW.trod enc Tryz.prog w base spare held fuel 48 cs = some x) : ∃ s g : Int, cs = [.int .i64 s, .int .i64 g] := by
 obtain ⟨xr, nr, -, -, hl, hr, hfr⟩ := DataW.trod_struct Tryz.underlying48 h
 have cX : Tryz.prog.cellsOf 48 = 2 := by kernel_rfl
 have cI : Tryz.prog.cellsOf 3 = 1 := by kernel_rfl
 rw [cX] at hl
 have hr2 : xr.length = 2 := hr
 obtain ⟨a, b, rfl⟩ := list2' hl
 obtain ⟨v0, h3, -⟩ := fld hfr 0 3 0 1 rfl cI (by omega)
 obtain ⟨v1, h4, -⟩ := fld hfr 1 3 1 1 rfl cI (by omega)
 simp only [List.drop_zero, List.drop_succ_cons, List.take_succ_cons, List.take_zero] at h3 h4
 obtain ⟨x, g1, -, -⟩ := DataW.trod_int Tryz.underlying3 h3
 obtain ⟨y, g2, -, -⟩ := DataW.trod_int Tryz.underlying3 h4
 simp only [List.cons.injEq, and_true] at g1 g2
 subst g1 g2
 exact ⟨x, y, rfl⟩
theorem pick_list {α : Type} {Q : Nat → α → Prop} : ∀ len : Nat, (∀ i, i < len → ∃ d, Q i d) → ∃ ds : List α, ds.length = len ∧ ∀ i d, ds[i]? = some d → Q i d
 | 0, _ => ⟨[], rfl, fun i d h => by simp at h⟩
 | len + 1, h => by
  obtain ⟨ds, h1, h2⟩ := pick_list len (fun i hi => h i (by omega))
  obtain ⟨d, hd⟩ := h len (by omega)
  refine ⟨ds ++ [d], by simp [h1], fun i e he => ?_⟩
  by_cases hi : i < len
  ·rw [List.getElem?_append_left (by omega)] at he
   exact h2 i e he
  ·rw [List.getElem?_append_right (by omega), h1] at he
   have : i - len = 0 := by
    have := (List.getElem?_eq_some_iff.1 he).1
    simp at this; omega
   rw [this] at he
   obtain rfl : d = e := by simpa using he
   rw [show i = len by omega]; exact hd
theorem list6 {α : Type} {l : List α} (h : l.length = 6) : ∃ a0 a1 a2 a3 a4 a5, l = [a0, a1, a2, a3, a4, a5] := by
 match l, h with
 | [a0, a1, a2, a3, a4, a5], _ => exact ⟨a0, a1, a2, a3, a4, a5, rfl⟩
theorem lim_of {fuel : Nat} {cs : List Value} {x : DataW H × List MemPlace} (h : DataW.trod enc Tryz.prog w base spare held fuel 23 cs = some x) : ∃ l : Lim, cs = l.cells.toList := by
 obtain ⟨xs, n, -, rfl, hl, hlen, hf⟩ := DataW.trod_struct Tryz.underlying23 h
 have cL : Tryz.prog.cellsOf 23 = 6 := by kernel_rfl
 have cI : Tryz.prog.cellsOf 3 = 1 := by kernel_rfl
 rw [cL] at hl
 obtain ⟨a0, a1, a2, a3, a4, a5, rfl⟩ := list6 hl
 have hn : xs.length = 6 := hlen
 obtain ⟨y0, f0, -⟩ := fld hf 0 3 0 1 rfl cI (by omega)
 obtain ⟨y1, f1, -⟩ := fld hf 1 3 1 1 rfl cI (by omega)
 obtain ⟨y2, f2, -⟩ := fld hf 2 3 2 1 rfl cI (by omega)
 obtain ⟨y3, f3, -⟩ := fld hf 3 3 3 1 rfl cI (by omega)
 obtain ⟨y4, f4, -⟩ := fld hf 4 3 4 1 rfl cI (by omega)
 obtain ⟨y5, f5, -⟩ := fld hf 5 3 5 1 rfl cI (by omega)
 simp only [List.drop_zero, List.drop_succ_cons, List.take_succ_cons, List.take_zero] at f0 f1 f2 f3 f4 f5
 obtain ⟨i0, g0, -, -⟩ := DataW.trod_int Tryz.underlying3 f0
 obtain ⟨i1, g1, -, -⟩ := DataW.trod_int Tryz.underlying3 f1
 obtain ⟨i2, g2, -, -⟩ := DataW.trod_int Tryz.underlying3 f2
 obtain ⟨i3, g3, -, -⟩ := DataW.trod_int Tryz.underlying3 f3
 obtain ⟨i4, g4, -, -⟩ := DataW.trod_int Tryz.underlying3 f4
 obtain ⟨i5, g5, -, -⟩ := DataW.trod_int Tryz.underlying3 f5
 simp only [List.cons.injEq, and_true] at g0 g1 g2 g3 g4 g5
 subst g0 g1 g2 g3 g4 g5
 exact ⟨⟨i0, i1, i2, i3, i4, i5⟩, rfl⟩
theorem lim_in {r : Reach} {b0 : Nat} {v : Value} {d : DataW H} {p : List MemPlace} (hv : Value.okWide Tryz.prog w r b0 23 v) (h : DataW.Trod enc Tryz.prog w base spare held 23 v d p) : ∃ l : Lim, v = limV l := by
 obtain ⟨cs, rfl, -⟩ := okWide_struct Tryz.underlying23 hv
 obtain ⟨fuel, hf⟩ := h
 obtain ⟨l, e⟩ := lim_of hf
 refine ⟨l, ?_⟩
 have : cs = l.cells.toList.toArray := by rw [← e]; simp [Value.cells]
 rw [this]; rfl
end
open Go.RowKit
/-! ### Begin, both -/
def DX0 (d : JbD) : DX := if 0 ≤ d.news ∧ d.news ≤ 4 then DX.begin d else DX.wrong d
def DI0 (d : JbD) : DI := if 0 ≤ d.news ∧ d.news ≤ 4 then DI.begin else DI.wrong
theorem DX0_d (d : JbD) : (DX0 d).d = d := by unfold DX0; split <;> rfl
theorem DocI.at0 (w : World) (T : Nat → Prop) (d : JbD) : DocI w T (DX0 d) (DI0 d) := by
 unfold DX0 DI0
 split
 ·exact DocI.begin w T d
 ·exact DocI.wrong w T d
theorem rBegin_any (d : JbD) (w : World) : Calls Tryz.prog 10 #[.agg d.cells.toArray] w fun ev w' => ev = .returned (DX0 d).val ∧ Below w.heap.size w w' := by
 unfold DX0
 by_cases h : 0 ≤ d.news ∧ d.news ≤ 4
 ·rw [if_pos h]; exact iBegin12_y d w h.1 h.2
 ·rw [if_neg h]
  by_cases h0 : d.news < 0
  ·exact iBegin12_l d w h0
  ·exact iBegin12_g d w (by omega) (by omega)
theorem begun_fields (page os og : Int) (n : Nat) (f : Fn) (a c : Array Value) : (settleI (beginI page os og n (.func f a c))).fn = .func f a c ∧ (settleI (beginI page os og n (.func f a c))).rc = (fun _ => rcZ) ∧ ((settleI (beginI page os og n (.func f a c))).st = 1 ∨ (settleI (beginI page os og n (.func f a c))).st = 2) ∧ (settleI (beginI page os og n (.func f a c))).dn = false ∧ (n ≤ 4 → Shape (settleI (beginI page os og n (.func f a c)))) := by
 by_cases h : n = 0
 ·subst h
  rw [settle_begin0]
  exact ⟨rfl, rfl, .inr rfl, rfl, fun _ => ⟨by show 0 ≤ 4; decide, by show 0 ≤ 4; decide, by show 0 ≤ 5; decide, by show 0 ≤ 4; decide, .inl rfl, .inr (.inr (.inl ⟨rfl, rfl, rfl, rfl, rfl⟩))⟩⟩
 ·rw [settle_beginN _ _ _ n (by omega)]
  exact ⟨rfl, rfl, .inl rfl, rfl, fun hn => ⟨hn, by show 0 ≤ 4; decide, by show 0 ≤ 5; decide, by show 0 ≤ 4; decide, .inl rfl, .inr (.inl ⟨rfl, by show 0 < n; omega, rfl, rfl, rfl⟩)⟩⟩
def BegPQ (w : World) (d : JbD) (ds : List RecD) (hd : RecD) (jb cb cl ci : Nat) (ev : Ending) (w' : World) : Prop :=
 ∃ (b : Nat) (i : Ins) (e : Int), ev = .returned (.pointer (some ⟨b, 0, none⟩)) ∧ w.heap.size ≤ b ∧ b < w'.heap.size ∧ Below w.heap.size w w' ∧ Sim d i e (DI0 d) ∧ (∀ w, i.dn = false → (i.st = 0 ∨ i.st = 7 ∨ i.st = 8) → ErrF w i.er e) ∧ (i.dn = true ∨ (1 ≤ i.st ∧ i.st ≤ 6) → i.er = .nilIface) ∧ i.dn = false ∧ ∀ T : Nat → Prop, ¬ T jb → ¬ T cb → AgI w' T b i d ds hd jb cb cl ci
theorem begin_pl (d : JbD) (ds : List RecD) (hd : RecD) (jb cb cl ci : Nat) (w : World) (hj : w.heap[jb]? = some (.cells d.cells.toArray 57 (0, 0))) (hc : w.heap[cb]? = some (.cells #[.pointer (some ⟨cl, ci, none⟩)] 64 (0, 0))) :
  Calls Tryz.prog 8 #[jobV d.page d.os d.og d.news (.func (.func 37) #[] #[.pointer (some ⟨cb, 0, none⟩), .pointer (some ⟨jb, 0, none⟩)])] w (BegPQ w d ds hd jb cb cl ci) := by
 unfold BegPQ DI0
 by_cases h : 0 ≤ d.news ∧ d.news ≤ 4
 ·obtain ⟨n, hn⟩ : ∃ n : Nat, d.news = (n : Int) := ⟨d.news.toNat, by omega⟩
  have h4 : n ≤ 4 := by omega
  rw [if_pos h]
  have hb := begin_y d.page d.os d.og n (.func 37) #[] #[.pointer (some ⟨cb, 0, none⟩), .pointer (some ⟨jb, 0, none⟩)] h4 w
  rw [← hn] at hb
  refine hb.mono ?_
  rintro ev w' ⟨b, rfl, hI, hb, hs⟩
  obtain ⟨e1, e2, e3, e4, e5⟩ := begun_fields d.page d.os d.og n (.func 37) #[] #[.pointer (some ⟨cb, 0, none⟩), .pointer (some ⟨jb, 0, none⟩)]
  exact ⟨b, _, 0, rfl, hb, (Array.getElem?_eq_some_iff.1 hI.blk).1, hs, sim_begin d n hn.symm _ _ _ 0, fun _ _ q => by omega, fun _ => by rw [settle_er]; rfl, e4,
   fun T nj nc => ⟨hI, e5 h4, fun _ => ⟨e1, e2, blk_step hj hs, blk_step hc hs, nj, nc⟩, fun e => by omega⟩⟩
 ·rw [if_neg h]
  refine (begin_o d.page d.os d.og d.news _ _ _ (by omega) w).mono ?_
  rintro ev w' ⟨b, rfl, hI, hb, hs⟩
  exact ⟨b, _, 1, rfl, hb, (Array.getElem?_eq_some_iff.1 hI.blk).1, hs, sim_wrong d errArg, fun _ _ _ => .inr ⟨by decide, .inl rfl⟩, fun q => q.elim (fun q => by have h : false = true := q; cases h) (fun q => by have h : 1 ≤ (0 : Nat) := q.1; omega), rfl,
   fun T _ _ => AgI.rest hI ⟨by show 0 ≤ 4; decide, by show 0 ≤ 4; decide, by show 0 ≤ 5; decide, by show 0 ≤ 4; decide, .inr ⟨_, _, rfl⟩, .inl ⟨rfl, rfl⟩⟩ (.inl rfl)⟩
/-! ### the lists -/
def lPtr : Lay Nat := ⟨58, 1, fun b => [.pointer (some ⟨b, 0, none⟩)], fun _ => rfl, fun x u h => by simp at h; subst h; rfl⟩
theorem lPtr_known : lPtr.known 8 := known_of (z := .pointer none) (by kernel_rfl) rfl rfl
theorem own_blk {α : Type} {E : Lay α} {base : Nat} {w : World} {v : Value} {xs : List α} {k : Nat} (h : OwnS E base w v xs) (hv : v.ownBlock = some k) : ∃ cs, w.heap[k]? = some (.cells cs E.ty (0, 0)) := by
 obtain ⟨_, h⟩ := h
 rcases h with ⟨rfl, -⟩ | ⟨g, cap, cur, rfl, -, hg, -⟩
 ·cases hv
 ·obtain rfl : g = k := Option.some.inj hv
  exact ⟨cur, hg⟩
def Pv (w w' : World) : Prop := ∀ (y : Nat) (cs : Array Value) (U : TypeId), w.heap[y]? = some (.cells cs U (0, 0)) → PvT U → w'.heap[y]? = some (.cells cs U (0, 0))
theorem OwnS.pv {α : Type} {E : Lay α} {base : Nat} {w w' : World} {v : Value} {xs : List α} {T : Nat → Prop} (h : OwnS E base w v xs) (hk : Kept T w w') (hp : Pv w w') (hE : PvT E.ty) : OwnS E base w' v xs := by
 have hk2 : Kept (fun y => ¬ ∃ cs, w.heap[y]? = some (.cells cs E.ty (0, 0))) w w' := ⟨hk.os, hk.tape, hk.output, hk.size, fun y _ hn => by
  obtain ⟨cs, e⟩ := Classical.not_not.1 hn
  rw [e]; exact hp y cs _ e hE⟩
 exact h.kept hk2 (fun a n c e hs => by
  subst e
  exact hs (own_blk h rfl))
structure Lay3 (w0 w : World) (T : Nat → Prop) (rb : Nat) (Y : MX) (va vb : Value) (bs : List Nat) (Xs : List DX) : Prop where
 r : MXAt w rb Y
 rT : T rb
 a : OwnS lPtr w0.heap.size w va bs
 aT : ∀ k, va.ownBlock = some k → T k
 b : OwnS lDX w0.heap.size w vb Xs
 bT : ∀ k, vb.ownBlock = some k → T k
section
variable {w0 w w' w1 w2 : World} {T T' : Nat → Prop} {rb cl : Nat} {cz : Array Value} {m : MB} {S : Nat → Prop} {l : LimN} {cnt : Int} {ps : List Pt} {L : List Pg} {c : Ck} {xs : List PE} {ys : List DE} {Y : MX} {us : List PuD} {ups : List Up} {va vb va' vb' : Value} {bs : List Nat} {Xs : List DX}
theorem Lay3.low (h : Lay3 w0 w T rb Y va vb bs Xs) (hs : Below w.heap.size w w') : Lay3 w0 w' T rb Y va vb bs Xs := ⟨h.r.step hs, h.rT, h.a.below hs, h.aT, h.b.below hs, h.bT⟩
theorem Lay3.pv (h : Lay3 w0 w T rb Y va vb bs Xs) (hk : Kept T w w') (hp : Pv w w') (up : ∀ k, T k → T' k) : Lay3 w0 w' T' rb Y va vb bs Xs :=
 ⟨⟨hp _ _ _ h.r.blk (by decide)⟩, up _ h.rT, h.a.pv hk hp (by decide), fun k e => up k (h.aT k e), h.b.pv hk hp (by decide), fun k e => up k (h.bT k e)⟩
theorem Lay3.kA (h : Lay3 w0 w T rb Y va vb bs Xs) {k : Nat} (e : some k = va.ownBlock) : ∃ cs U, w.heap[k]? = some (.cells cs U (0, 0)) ∧ PvT U := by
 obtain ⟨cs, q⟩ := own_blk h.a e.symm
 exact ⟨cs, _, q, by decide⟩
theorem Lay3.kB (h : Lay3 w0 w T rb Y va vb bs Xs) {k : Nat} (e : some k = vb.ownBlock) : ∃ cs U, w.heap[k]? = some (.cells cs U (0, 0)) ∧ PvT U := by
 obtain ⟨cs, q⟩ := own_blk h.b e.symm
 exact ⟨cs, _, q, by decide⟩
structure Play (w0 w : World) (T : Nat → Prop) (cl rb : Nat) (cz : Array Value) (m : MB) (S : Nat → Prop) (Y : MX) (ps : List Pt) (L : List Pg) (c : Ck) (us : List PuD) (ups : List Up) (xs : List PE) (ys : List DE) (va vb : Value) : Prop where
 P : ProgB w0 w T cl cz m S Y.l Y.count ps L c xs
 D : DocB w0 w T Y ps L us ups ys
 lay : Lay3 w0 w T rb Y va vb (xs.map PE.b) (ys.map DE.X)
theorem Play.low (h : Play w0 w T cl rb cz m S Y ps L c us ups xs ys va vb) (hs : Below w.heap.size w w') : Play w0 w' T cl rb cz m S Y ps L c us ups xs ys va vb := ⟨h.P.low hs, h.D.low hs, h.lay.low hs⟩
theorem grown_new {v v' : Value} (hT : ∀ k, v.ownBlock = some k → T k) (hl : v'.ownBlock = v.ownBlock ∨ v'.ownBlock = some w1.heap.size) : ∀ x, (T x ∨ some x = v'.ownBlock) → T x ∨ w1.heap.size ≤ x := fun x q => q.elim .inl (fun q => hl.elim (fun e => .inl (hT x (e ▸ q.symm))) (fun e => .inr (by rw [e] at q; have := Option.some.inj q; omega)))
theorem Play.addA (h : Play w0 w T cl rb cz m S Y ps L c us ups xs ys va vb) (hb : Below w.heap.size w w1) {x : PE} (h1 : w.heap.size ≤ x.b) (hx : PEAt w0 w1 (fun y => T y ∨ y = x.b) cl xs.length cz x) (ho : OwnS lPtr w0.heap.size w2 va' (xs.map PE.b ++ [x.b])) (hg : w1.grownBy w2 va.ownBlock) (hl : va'.ownBlock = va.ownBlock ∨ va'.ownBlock = some w1.heap.size) :
  Play w0 w2 (fun y => (T y ∨ y = x.b) ∨ some y = va'.ownBlock) cl rb cz m S Y ps L c us ups (xs ++ [x]) ys va' vb := by
 have h2 := (Array.getElem?_eq_some_iff.1 hx.ag.lies.blk).1
 have p1 := h.P.join hb h1 hx
 have d1 : DocB w0 w1 (fun y => T y ∨ y = x.b) Y ps L us ups ys := h.D.grow (K := fun _ => False) (Kept.of_below hb) (fun _ q => q.elim) (fun y q => q.imp id (fun (e : y = x.b) => by rw [e]; exact h1)) (fun y q => (p1.tin y q).2)
 have l1 := h.lay.low hb
 have hT : ∀ k, va.ownBlock = some k → (T k ∨ k = x.b) := fun k e => .inl (l1.aT k e)
 have hk := Kept.of_grown hg
 have hlt : ∀ y, ((T y ∨ y = x.b) ∨ some y = va'.ownBlock) → y < w2.heap.size := fun y q => q.elim (fun q => Nat.lt_of_lt_of_le (p1.tin y q).2 hg.size) (fun q => (ho.bounds y q.symm).2)
 refine ⟨p1.move hk (fun y q => hT y q.symm) (fun y q => l1.kA q) (fun y q => .inl q) (grown_new hT hl) hlt, d1.grow hk (fun y q => hT y q.symm) (grown_new hT hl) hlt, ?_⟩
 refine ⟨⟨(hk.block _ (Array.getElem?_eq_some_iff.1 l1.r.blk).1 (fun e => ?_)).trans l1.r.blk⟩, .inl (.inl l1.rT), by rw [List.map_append]; exact ho, fun k e => .inr e.symm, l1.b.gr hg l1.a (by decide), fun k e => .inl (.inl (l1.bT k e))⟩
 obtain ⟨cs, q⟩ := own_blk l1.a e.symm
 exact blk_ne q l1.r.blk (by decide) rfl
theorem Play.addB (h : Play w0 w T cl rb cz m S Y ps L c us ups xs ys va vb) (hb : Below w.heap.size w w1) {y : DE} (hy : ∀ w T, DocI w T y.X y.D) (ho : OwnS lDX w0.heap.size w2 vb' (ys.map DE.X ++ [y.X])) (hg : w1.grownBy w2 vb.ownBlock) (hl : vb'.ownBlock = vb.ownBlock ∨ vb'.ownBlock = some w1.heap.size) :
  Play w0 w2 (fun y => T y ∨ some y = vb'.ownBlock) cl rb cz m S Y ps L c us ups xs (ys ++ [y]) va vb' := by
 have p1 := h.P.low hb
 have d1 := h.D.low hb
 have l1 := h.lay.low hb
 have hk := Kept.of_grown hg
 have hlt : ∀ y, (T y ∨ some y = vb'.ownBlock) → y < w2.heap.size := fun y q => q.elim (fun q => Nat.lt_of_lt_of_le (p1.tin y q).2 hg.size) (fun q => (ho.bounds y q.symm).2)
 refine ⟨p1.move hk (fun y q => l1.bT y q.symm) (fun y q => l1.kB q) (fun y q => .inl q) (grown_new l1.bT hl) hlt, (d1.grow hk (fun y q => l1.bT y q.symm) (grown_new l1.bT hl) hlt).join (hy _ _), ?_⟩
 refine ⟨⟨(hk.block _ (Array.getElem?_eq_some_iff.1 l1.r.blk).1 (fun e => ?_)).trans l1.r.blk⟩, .inl l1.rT, l1.a.gr hg l1.b (by decide), fun k e => .inl (l1.aT k e), by rw [List.map_append]; exact ho, fun k e => .inr e.symm⟩
 obtain ⟨cs, q⟩ := own_blk l1.b e.symm
 exact blk_ne q l1.r.blk (by decide) rfl
theorem Play.stored {g n cap k : Nat} {Y' : MX} {X' : DX} {D' : DI} {y : DE} (hP : ProgB w0 w T cl cz m S Y'.l Y'.count ps L c xs) (hD : DocB w0 w T Y' ps L us ups (ys.set k ⟨X', D'⟩)) (hy : ys[k]? = some y) (h : Lay3 w0 w T rb Y va (.slice (some ⟨g, 0, none⟩) n cap) (xs.map PE.b) (ys.map DE.X)) :
  Play w0 ((w.setCells g (k * 29) X'.list).setCells rb 0 Y'.list) T cl rb cz m S Y' ps L c us ups xs (ys.set k ⟨X', D'⟩) va (.slice (some ⟨g, 0, none⟩) n cap) := by
 obtain ⟨cs, hg⟩ := own_blk h.b (k := g) rfl
 have k1 : Kept (fun q => q = g) w (w.setCells g (k * 29) X'.list) := Kept.setCells _ _ _ (Kept.refl _ _)
 have gr : rb ≠ g := blk_ne h.r.blk hg (by decide)
 have r1 : MXAt (w.setCells g (k * 29) X'.list) rb Y := ⟨(k1.block _ h.r.lt gr).trans h.r.blk⟩
 have k2 : Kept (fun q => q = rb) (w.setCells g (k * 29) X'.list) ((w.setCells g (k * 29) X'.list).setCells rb 0 Y'.list) := Kept.setCells _ _ _ (Kept.refl _ _)
 have gT : T g := h.bT g rfl
 have s1 : ∀ q, T q → q < (w.setCells g (k * 29) X'.list).heap.size := fun q hq => Nat.lt_of_lt_of_le (hP.tin q hq).2 k1.size
 have s2 : ∀ q, T q → q < ((w.setCells g (k * 29) X'.list).setCells rb 0 Y'.list).heap.size := fun q hq => Nat.lt_of_lt_of_le (s1 q hq) k2.size
 have p1 := hP.move (T' := T) k1 (fun q e => e ▸ gT) (fun q e => ⟨cs, lDX.ty, by rw [show q = g from e]; exact hg, by decide⟩) (fun _ q => q) (fun _ q => .inl q) s1
 have p2 := p1.move (T' := T) k2 (fun q e => e ▸ h.rT) (fun q e => ⟨Y.list.toArray, 43, by rw [show q = rb from e]; exact r1.blk, by decide⟩) (fun _ q => q) (fun _ q => .inl q) s2
 have d2 := (hD.grow (T' := T) k1 (fun q e => e ▸ gT) (fun _ q => .inl q) s1).grow (T' := T) k2 (fun q e => e ▸ h.rT) (fun _ q => .inl q) s2
 have b1 : OwnS lDX w0.heap.size (w.setCells g (k * 29) X'.list) (.slice (some ⟨g, 0, none⟩) n cap) ((ys.set k ⟨X', D'⟩).map DE.X) := by
  rw [List.map_set]
  exact h.b.setAll (x := y.X) (by rw [List.getElem?_map, hy]; rfl) X'
 exact ⟨p2, d2, mx_laid r1 Y', h.rT, (h.a.kept k1 (h.a.offT hg (by decide))).kept k2 ((h.a.kept k1 (h.a.offT hg (by decide))).offT r1.blk (by decide)), h.aT, b1.kept k2 (b1.offT r1.blk (by decide)), h.bT⟩
end
open Go.RowKit
def RcW (w : World) (x : RcL) (e : RecD) : Prop := x.sc = e.sc ∧ SV lRow w (.slice x.ra x.rn x.rc) e.rows ∧ SV lEnt w (.slice x.ea x.en x.ec) e.ents
theorem RcW.right {w : World} {x : RcL} {e : RecD} (h : RcW w x e) (h1 : x.rn ≤ 20) (h2 : x.en ≤ 20) : RcR w x e := by
 obtain ⟨a, b, c⟩ := h
 obtain ⟨_, _, e1, -⟩ := b.lenform
 obtain ⟨_, _, e2, -⟩ := c.lenform
 have n1 := (Value.slice.inj e1).2.1
 have n2 := (Value.slice.inj e2).2.1
 exact ⟨a, b, c, by omega, by omega⟩
structure JobW (w : World) (d : JbD) (bs : List RcL) (ds : List RecD) (hd : RecD) : Prop where
 sv : SV lRec w (.slice d.ba d.bn d.bc) bs
 len : bs.length = ds.length
 each : ∀ (j : Nat) (x : RcL) (e : RecD), bs[j]? = some x → ds[j]? = some e → RcW w x e
 head : RcW w d.hd hd
theorem JobW.right {w : World} {d : JbD} {bs : List RcL} {ds : List RecD} {hd : RecD} (h : JobW w d bs ds hd) (hf : d.few bs) : JobR w d bs ds hd := by
 obtain ⟨f1, f2, f3, f4⟩ := hf
 obtain ⟨_, _, e1, -⟩ := h.sv.lenform
 have n1 := (Value.slice.inj e1).2.1
 exact ⟨h.sv, h.len, by omega, fun j x e h1 h2 => (h.each j x e h1 h2).right (f4 x (List.mem_of_getElem? h1)).1 (f4 x (List.mem_of_getElem? h1)).2, h.head.right f2 f3⟩
theorem RcW.low {w w' : World} {x : RcL} {e : RecD} (h : RcW w x e) (hb : Below w.heap.size w w') : RcW w' x e := ⟨h.1, h.2.1.below hb, h.2.2.below hb⟩
theorem JobW.low {w w' : World} {d : JbD} {bs : List RcL} {ds : List RecD} {hd : RecD} (h : JobW w d bs ds hd) (hb : Below w.heap.size w w') : JobW w' d bs ds hd :=
 ⟨h.sv.below hb, h.len, fun j x e h1 h2 => (h.each j x e h1 h2).low hb, h.head.low hb⟩
open Go.ChangeShapes Go.WideShapes Go.RowKit
structure JobT where
 d : JbD
 bs : List RcL
 ds : List RecD
 hd : RecD
 jb : Nat
 cb : Nat
section
variable {H : Type} {enc : TypeId × Value → H} {w : World} {base : Nat} {spare : Nat → Bool} {held : Bool}
theorem sv_wide {α : Type} (E : Lay α) {t : TypeId} (ht : Tryz.prog.underlying t = some (.slice E.ty)) (hc : Tryz.prog.cellsOf E.ty = E.sz) (hz : 0 < E.sz) (P : α → Prop)
  (hp : ∀ (fuel : Nat) (cs : List Value) (x : DataW H × List MemPlace), DataW.trod enc Tryz.prog w base spare held fuel E.ty cs = some x → ∃ d, cs = E.enc d ∧ P d) {fuel : Nat} {cs : List Value} {x : DataW H × List MemPlace} (h : DataW.trod enc Tryz.prog w base spare held fuel t cs = some x) :
  ∃ (a : Option Addr) (c : Nat) (ds : List α), cs = [.slice a ds.length c] ∧ SV E w (.slice a ds.length c) ds ∧ ∀ d ∈ ds, P d := by
 rcases Go.Deep.open_slice ht h with ⟨rfl, -⟩ | ⟨a, len, cap, m, n, D, Pl, rfl, -, hl, hm, hmm, -, hx⟩
 ·exact ⟨none, 0, [], rfl, SV.nil _ _, fun d hd => by cases hd⟩
 ·have hle : len ≤ m := by rw [hmm]; split <;> omega
  have spot : 0 < len → a.spot = none := fun h0 => by
   obtain ⟨cs', h1, -⟩ := hx 0 (by omega)
   rw [hc] at h1
   obtain ⟨-, h2, h3⟩ := World.cells?_some h1
   obtain ⟨u, hu⟩ := get_some h2 (i := 0) hz
   have := h3 0 hz
   rw [hu] at this
   have := World.cell?_spot this
   simpa [Addr.add] using this
  obtain ⟨ds, h1, h2⟩ := pick_list (Q := fun i (d : α) => P d ∧ ∀ j u, (E.enc d)[j]? = some u → w.cell? ⟨a.block, a.off + i * E.sz + j, none⟩ = some u) len (fun i hi => by
   obtain ⟨cs', g1, g2⟩ := hx i (by omega)
   rw [hc] at g1
   obtain ⟨-, g3, g4⟩ := World.cells?_some g1
   obtain ⟨d, rfl, hP⟩ := hp _ _ _ g2
   refine ⟨d, hP, fun j u hu => ?_⟩
   have hj : j < E.sz := by have := (List.getElem?_eq_some_iff.1 hu).1; rw [g3] at this; exact this
   have := g4 j hj
   rw [hu] at this
   rw [← this]
   obtain ⟨b, off, sp⟩ := a
   have hs : sp = none := spot (by omega)
   subst hs
   rw [Go.WideShapes.add_plain, Go.WideShapes.add_plain])
  refine ⟨some a, cap, ds, by rw [h1], ⟨some a, cap, by rw [h1], by rw [h1]; exact hl, hm, fun h => (by cases h), a.block, a.off, fun hne x hx => ?_, fun j u hu => ?_⟩, fun d hd => ?_⟩
  ·rw [h1] at hne
   obtain rfl := Option.some.inj hx
   have hs := spot (by omega)
   obtain ⟨b, off, sp⟩ := a
   simp only at hs
   subst hs
   rfl
  ·have hj : j < len * E.sz := by
    have := (List.getElem?_eq_some_iff.1 hu).1
    rw [E.flat_len, h1] at this; exact this
   have hq : j / E.sz < len := Nat.div_lt_of_lt_mul (by rw [Nat.mul_comm]; exact hj)
   obtain ⟨d, hd⟩ := get_some h1 hq
   have e := E.flat_at _ (j / E.sz) (j % E.sz) _ hd (Nat.mod_lt _ hz)
   rw [Nat.div_add_mod' j E.sz, hu] at e
   have := (h2 _ _ hd).2 (j % E.sz) u e.symm
   rw [← this, Nat.add_assoc, Nat.div_add_mod' j E.sz]
  ·obtain ⟨i, hi, hd'⟩ := List.getElem_of_mem hd
   exact (h2 i d (by rw [List.getElem?_eq_getElem hi, hd'])).1
theorem recW_of (fuel : Nat) (cs : List Value) (x : DataW H × List MemPlace) (h : DataW.trod enc Tryz.prog w base spare held fuel 55 cs = some x) : ∃ d : RcL, cs = d.cells ∧ ∃ e : RecD, RcW w d e := by
 obtain ⟨s, ra, rc, rows, ea, ec, ents, rfl, sr, se, -⟩ := rec_of h
 exact ⟨⟨s, ra, rows.length, rc, ea, ents.length, ec⟩, rfl, ⟨s, rows, ents⟩, rfl, sr, se⟩
theorem pick_each {α β : Type} {R : α → β → Prop} : ∀ xs : List α, (∀ x ∈ xs, ∃ y, R x y) → ∃ ys : List β, xs.length = ys.length ∧ ∀ (j : Nat) (x : α) (y : β), xs[j]? = some x → ys[j]? = some y → R x y
 | [], _ => ⟨[], rfl, fun j x y h => by simp at h⟩
 | x :: xs, h => by
  obtain ⟨y, hy⟩ := h x (by simp)
  obtain ⟨ys, h1, h2⟩ := pick_each xs (fun z hz => h z (by simp [hz]))
  refine ⟨y :: ys, by simp [h1], fun j a b ha hb => ?_⟩
  cases j with
  | zero =>
   obtain rfl : x = a := by simpa using ha
   obtain rfl : y = b := by simpa using hb
   exact hy
  | succ j => exact h2 j a b (by simpa using ha) (by simpa using hb)
theorem list21 {α : Type} {l : List α} (h : l.length = 21) : ∃ a0 a1 a2 a3 a4 m f, l = a0 :: a1 :: a2 :: a3 :: a4 :: (m ++ [f]) ∧ m.length = 15 := by
 match l, h with
 | [a0, a1, a2, a3, a4, b0, b1, b2, b3, b4, b5, b6, b7, b8, b9, b10, b11, b12, b13, b14, f], _ => exact ⟨a0, a1, a2, a3, a4, [b0, b1, b2, b3, b4, b5, b6, b7, b8, b9, b10, b11, b12, b13, b14], f, rfl, rfl⟩
theorem job_of (fuel : Nat) (cs : List Value) (x : DataW H × List MemPlace) (h : DataW.trod enc Tryz.prog w base spare held fuel 57 cs = some x) : ∃ d : JbD, cs = d.cells ∧ ∃ J : JobT, J.d = d ∧ JobW w J.d J.bs J.ds J.hd := by
 obtain ⟨xs, n, -, rfl, hl, hlen, hf⟩ := DataW.trod_struct Tryz.underlying57 h
 have cJ : Tryz.prog.cellsOf 57 = 21 := by kernel_rfl
 have c15 : Tryz.prog.cellsOf 55 = 15 := by kernel_rfl
 have cI : Tryz.prog.cellsOf 3 = 1 := by kernel_rfl
 have cX : Tryz.prog.cellsOf 48 = 2 := by kernel_rfl
 have cL : Tryz.prog.cellsOf 49 = 1 := by kernel_rfl
 rw [cJ] at hl
 obtain ⟨a0, a1, a2, a3, a4, m, f, rfl, hm⟩ := list21 hl
 have hn : xs.length = 6 := hlen
 obtain ⟨y0, f0, -⟩ := fld hf 0 3 0 1 rfl cI (by omega)
 obtain ⟨y1, f1, -⟩ := fld hf 1 48 1 2 rfl cX (by omega)
 obtain ⟨y2, f2, -⟩ := fld hf 2 3 3 1 rfl cI (by omega)
 obtain ⟨y3, f3, -⟩ := fld hf 3 49 4 1 rfl cL (by omega)
 obtain ⟨y4, f4, -⟩ := fld hf 4 55 5 15 rfl c15 (by omega)
 obtain ⟨y5, f5, -⟩ := fld hf 5 3 20 1 rfl cI (by omega)
 simp only [List.drop_zero, List.drop_succ_cons, List.take_succ_cons, List.take_zero] at f0 f1 f2 f3 f4 f5
 rw [List.take_append_of_le_length (by omega), List.take_of_length_le (by omega)] at f4
 rw [show (15 : Nat) = m.length from hm.symm, List.drop_left] at f5
 simp only [List.take_succ_cons, List.take_zero] at f5
 obtain ⟨page, g0, -, -⟩ := DataW.trod_int Tryz.underlying3 f0
 obtain ⟨os, og, g1⟩ := ref2_of f1
 obtain ⟨news, g2, -, -⟩ := DataW.trod_int Tryz.underlying3 f2
 obtain ⟨ba, bc, bs, g3, sb, hb⟩ := sv_wide lRec Tryz.underlying49 c15 (by decide) (fun d => ∃ e : RecD, RcW w d e) recW_of f3
 obtain ⟨hd, rfl, he, hh⟩ := recW_of _ _ _ f4
 obtain ⟨fr, g5, -, -⟩ := DataW.trod_int Tryz.underlying3 f5
 simp only [List.cons.injEq, and_true] at g0 g1 g2 g3 g5
 obtain ⟨g1, g1'⟩ := g1
 subst g0 g1 g1' g2 g3 g5
 obtain ⟨es, e1, e2⟩ := pick_each bs hb
 exact ⟨⟨page, os, og, news, ba, bs.length, bc, hd, fr⟩, rfl, ⟨⟨page, os, og, news, ba, bs.length, bc, hd, fr⟩, bs, es, he, 0, 0⟩, rfl, sb, e1, e2, hh⟩
theorem pick_map {α β : Type} (f : β → α) {R : β → Prop} : ∀ xs : List α, (∀ x ∈ xs, ∃ y, f y = x ∧ R y) → ∃ ys : List β, xs = ys.map f ∧ ∀ y ∈ ys, R y
 | [], _ => ⟨[], rfl, fun y h => by cases h⟩
 | x :: xs, h => by
  obtain ⟨y, rfl, hy⟩ := h x (by simp)
  obtain ⟨ys, h1, h2⟩ := pick_map f xs (fun z hz => h z (by simp [hz]))
  exact ⟨y :: ys, by rw [h1]; rfl, fun z hz => (List.mem_cons.1 hz).elim (fun e => e ▸ hy) (h2 z)⟩
theorem jobs_in {r : Reach} {b0 : Nat} {v : Value} {d : DataW H} {p : List MemPlace} (hv : Value.okWide Tryz.prog w r b0 24 v) (h : DataW.Trod enc Tryz.prog w base spare held 24 v d p) :
  ∃ jt : List JobT, SV lJob w v (jt.map JobT.d) ∧ ∀ (q : Nat) (J : JobT), jt[q]? = some J → JobW w J.d J.bs J.ds J.hd := by
 obtain ⟨fuel, hf⟩ := h
 obtain ⟨a0, len0, cap0, rfl⟩ := okWide_slice Tryz.underlying24 hv
 have cJ : Tryz.prog.cellsOf 57 = 21 := by kernel_rfl
 obtain ⟨a, c, ds, e, sv, hP⟩ := sv_wide lJob Tryz.underlying24 cJ (by decide) (fun d => ∃ J : JobT, J.d = d ∧ JobW w J.d J.bs J.ds J.hd) job_of hf
 have e' : Value.slice a0 len0 cap0 = .slice a ds.length c := by simpa [Value.cells] using e
 rw [e']
 obtain ⟨jt, rfl, hR⟩ := pick_map JobT.d (R := fun J => JobW w J.d J.bs J.ds J.hd) ds hP
 exact ⟨jt, sv, fun q J hq => hR J (List.mem_of_getElem? hq)⟩
def lU8 : Lay Int := ⟨5, 1, fun z => [.int .u8 z], fun _ => rfl, fun x u h => by simp at h; subst h; rfl⟩
theorem u8s_in {r : Reach} {b0 : Nat} {v : Value} {d : DataW H} {p : List MemPlace} (hv : Value.okWide Tryz.prog w r b0 25 v) (h : DataW.Trod enc Tryz.prog w base spare held 25 v d p) :
  ∃ (a : Option Addr) (c : Nat) (zs : List Int), v = .slice a zs.length c ∧ SV lU8 w (.slice a zs.length c) zs ∧ ∀ z ∈ zs, 0 ≤ z ∧ z ≤ 255 := by
 obtain ⟨fuel, hf⟩ := h
 obtain ⟨a0, len0, cap0, rfl⟩ := okWide_slice Tryz.underlying25 hv
 have cU : Tryz.prog.cellsOf 5 = 1 := by kernel_rfl
 obtain ⟨a, c, ds, e, sv, hP⟩ := sv_wide lU8 Tryz.underlying25 cU (by decide) (fun z => 0 ≤ z ∧ z ≤ 255) (fun fuel cs x hx => by
  obtain ⟨z, g, -, g3⟩ := DataW.trod_int Tryz.underlying5 hx
  subst g
  refine ⟨z, rfl, ?_⟩
  simp only [Lit.wf, Bool.and_eq_true, decide_eq_true_eq] at g3
  exact g3) hf
 have e' : Value.slice a0 len0 cap0 = .slice a ds.length c := by simpa [Value.cells] using e
 exact ⟨a, c, ds, e', sv, hP⟩
end
open Go
section
variable {P : Program} {ops : Array Oper} {Q : Exit → Act → World → Prop} {md : Region.Mode} {S : World → Prop} {z : Nat}
def AnyL (P : Program) (md : Region.Mode) (ops : Array Oper) (Q : Exit → Act → World → Prop) (S : World → Prop) (z : Nat) : Nat → Array Bool → Act → World → Prop
 | 0, listed, a, w => Region.ready md ops listed = [] ∧ Q .normal a w
 | f + 1, listed, a, w => (Region.ready md ops listed = [] → Q .normal a w) ∧
  ∀ i ∈ Region.ready md ops listed, wpOp P ops Q i (fun a' w' => ((i ≠ z ∧ listed.getD z true = false) → S w') ∧ AnyL P md ops Q S z f (listed.setIfInBounds i true) a' w') a w
theorem AnyL.plain : ∀ (f : Nat) (listed : Array Bool) (a : Act) (w : World), AnyL P md ops Q S z f listed a w → wpAny P md ops Q f listed a w
 | 0, _, _, _, h => h
 | f + 1, _, _, _, h => ⟨h.1, fun i hi => wpOp_mono (fun a' w' k => AnyL.plain f _ a' w' k.2) (h.2 i hi)⟩
theorem AnyL.frontP {i : Nat} {oi : Oper} {v : Value} {ps : List Nat} (hi : ops[i]? = some oi) (hsel : ∀ (j : Nat) (o : Oper) cs b, ops[j]? = some o → o.op ≠ .select cs b)
  (hQ : ∀ c a w, Q (.panic c) (a.put oi.dst v) w → Q (.panic c) a w) (hp : pathB md ops z ps i = true) :
  ∀ (f : Nat) (listed : Array Bool) (a : Act) (w : World), Closed md ops listed → listed.getD z true = false → Region.free md ops listed i = true → i ∈ Region.ready md ops listed → YieldsIf P ops S oi v a → S w →
   AnyL P md ops Q S z f (listed.setIfInBounds i true) (a.put oi.dst v) w → AnyL P md ops Q S z (f + 1) listed a w := by
 intro f
 induction f with
 | zero =>
  intro listed a w hc hl hf hr hy hS H
  refine ⟨fun h0 => absurd hr (by rw [h0]; simp), fun j hj => ?_⟩
  by_cases e : j = i
  ·subst e
   exact hy.wpOp hi hS ⟨fun _ => hS, H⟩
  ·have := ready_mono hj e
   rw [H.1] at this
   cases this
 | succ f ih =>
  intro listed a w hc hl hf hr hy hS H
  refine ⟨fun h0 => absurd hr (by rw [h0]; simp), fun j hj => ?_⟩
  by_cases e : j = i
  ·subst e
   exact hy.wpOp hi hS ⟨fun _ => hS, H⟩
  ·obtain ⟨hun, oj, hoj, hall⟩ := mem_ready.1 hj
   have hap : oi.apart ops oj = true := Region.free_spec hi hf j oj hoj e hun fun e2 he2 hb2 hon => by
    have h3 := hall e2 he2 hb2
    rw [hon, getD_both (mem_ready.1 hr).1] at h3
    exact absurd h3 (by decide)
   have hji : i ∈ Region.ready md ops (listed.setIfInBounds j true) := ready_mono hr (Ne.symm e)
   have hjz : j ≠ z := fun ez => path_ready hc hr (ez ▸ hj) hp
   have hiz : i ≠ z := fun ez => path_ready hc hr (ez ▸ hr) hp
   have hl2 : (listed.setIfInBounds j true).getD z true = false := by rw [getD_set_ne true hjz]; exact hl
   have hl3 : (listed.setIfInBounds i true).getD z true = false := by rw [getD_set_ne true hiz]; exact hl
   refine wpOp_mono (fun a' w' k => ?_) (wpOp_putIf hoj hap (fun cs b => hsel i oi cs b hi) (fun cs b => hsel j oj cs b hoj) hQ hy (H.2 j (ready_mono hj e)))
   obtain ⟨hy', hS', hW⟩ := k
   refine ⟨fun _ => hS' ⟨hjz, hl3⟩, ih _ a' w' (hc.set hj) hl2 (free_set hf) hji hy' (hS' ⟨hjz, hl3⟩) ?_⟩
   rw [Array.setIfInBounds_comm _ _ (Ne.symm e)] at hW
   exact hW
theorem AnyL.takeP {i : Nat} {oi : Oper} {v : Value} {f : Nat} {listed : Array Bool} {a : Act} {w : World} (ps : List Nat) (hi : ops[i]? = some oi)
  (hs : Region.noSelect ops = true) (hf : Region.free md ops listed i = true) (hr : (Region.ready md ops listed).contains i = true) (hc : closedB md ops listed = true) (hl : listed.getD z true = false) (hp : pathB md ops z ps i = true)
  (hQ : ∀ c a w, Q (.panic c) (a.put oi.dst v) w → Q (.panic c) a w) (hy : YieldsIf P ops S oi v a) (hS : S w)
  (h : AnyL P md ops Q S z f (listed.setIfInBounds i true) (a.put oi.dst v) w) : AnyL P md ops Q S z (f + 1) listed a w :=
 AnyL.frontP hi (Region.noSelect_spec hs) hQ hp f listed a w (closed_of hc) hl hf (by simpa using hr) hy hS h
theorem AnyL.frontT {i : Nat} {oi : Oper} {v : Value} (hi : ops[i]? = some oi) (hsel : ∀ (j : Nat) (o : Oper) cs b, ops[j]? = some o → o.op ≠ .select cs b)
  (hQ : ∀ c a w, Q (.panic c) (a.put oi.dst v) w → Q (.panic c) a w) :
  ∀ (f : Nat) (listed : Array Bool) (a : Act) (w : World), listed.getD z true = true → Region.free md ops listed i = true → i ∈ Region.ready md ops listed → YieldsIf P ops (fun _ => True) oi v a →
   AnyL P md ops Q S z f (listed.setIfInBounds i true) (a.put oi.dst v) w → AnyL P md ops Q S z (f + 1) listed a w := by
 intro f
 induction f with
 | zero =>
  intro listed a w hl hf hr hy H
  refine ⟨fun h0 => absurd hr (by rw [h0]; simp), fun j hj => ?_⟩
  by_cases e : j = i
  ·subst e
   exact hy.wpOp hi trivial ⟨fun q => (by rw [hl] at q; cases q.2), H⟩
  ·have := ready_mono hj e
   rw [H.1] at this
   cases this
 | succ f ih =>
  intro listed a w hl hf hr hy H
  refine ⟨fun h0 => absurd hr (by rw [h0]; simp), fun j hj => ?_⟩
  by_cases e : j = i
  ·subst e
   exact hy.wpOp hi trivial ⟨fun q => (by rw [hl] at q; cases q.2), H⟩
  ·obtain ⟨hun, oj, hoj, hall⟩ := mem_ready.1 hj
   have hap : oi.apart ops oj = true := Region.free_spec hi hf j oj hoj e hun fun e2 he2 hb2 hon => by
    have h3 := hall e2 he2 hb2
    rw [hon, getD_both (mem_ready.1 hr).1] at h3
    exact absurd h3 (by decide)
   have hji : i ∈ Region.ready md ops (listed.setIfInBounds j true) := ready_mono hr (Ne.symm e)
   refine wpOp_mono (fun a' w' k => ?_) (wpOp_putIf hoj hap (fun cs b => hsel i oi cs b hi) (fun cs b => hsel j oj cs b hoj) hQ hy (H.2 j (ready_mono hj e)))
   obtain ⟨hy', -, hW⟩ := k
   refine ⟨fun q => (by rw [hl] at q; cases q.2), ih _ a' w' (getD_put hl) (free_set hf) hji hy' ?_⟩
   rw [Array.setIfInBounds_comm _ _ (Ne.symm e)] at hW
   exact hW
theorem AnyL.takeT {i : Nat} {oi : Oper} {v : Value} {f : Nat} {listed : Array Bool} {a : Act} {w : World} (hi : ops[i]? = some oi)
  (hs : Region.noSelect ops = true) (hf : Region.free md ops listed i = true) (hr : (Region.ready md ops listed).contains i = true) (hl : listed.getD z true = true)
  (hQ : ∀ c a w, Q (.panic c) (a.put oi.dst v) w → Q (.panic c) a w) (hy : YieldsIf P ops (fun _ => True) oi v a)
  (h : AnyL P md ops Q S z f (listed.setIfInBounds i true) (a.put oi.dst v) w) : AnyL P md ops Q S z (f + 1) listed a w :=
 AnyL.frontT hi (Region.noSelect_spec hs) hQ f listed a w hl hf (by simpa using hr) hy h
theorem AnyL.frontN {i : Nat} {oi : Oper} {v : Value} (hi : ops[i]? = some oi) (hsel : ∀ (j : Nat) (o : Oper) cs b, ops[j]? = some o → o.op ≠ .select cs b)
  (hQ : ∀ c a w, Q (.panic c) (a.put oi.dst v) w → Q (.panic c) a w) (hiz : i ≠ z) :
  ∀ (f : Nat) (listed : Array Bool) (a : Act) (w : World), Region.free md ops listed i = true → i ∈ Region.ready md ops listed → YieldsIf P ops (fun _ => True) oi v a → (listed.getD z true = false → S w) →
   AnyL P md ops Q S z f (listed.setIfInBounds i true) (a.put oi.dst v) w → AnyL P md ops Q S z (f + 1) listed a w := by
 intro f
 induction f with
 | zero =>
  intro listed a w hf hr hy hS H
  refine ⟨fun h0 => absurd hr (by rw [h0]; simp), fun j hj => ?_⟩
  by_cases e : j = i
  ·subst e
   exact hy.wpOp hi trivial ⟨fun q => hS q.2, H⟩
  ·have := ready_mono hj e
   rw [H.1] at this
   cases this
 | succ f ih =>
  intro listed a w hf hr hy hS H
  refine ⟨fun h0 => absurd hr (by rw [h0]; simp), fun j hj => ?_⟩
  by_cases e : j = i
  ·subst e
   exact hy.wpOp hi trivial ⟨fun q => hS q.2, H⟩
  ·obtain ⟨hun, oj, hoj, hall⟩ := mem_ready.1 hj
   have hap : oi.apart ops oj = true := Region.free_spec hi hf j oj hoj e hun fun e2 he2 hb2 hon => by
    have h3 := hall e2 he2 hb2
    rw [hon, getD_both (mem_ready.1 hr).1] at h3
    exact absurd h3 (by decide)
   have hji : i ∈ Region.ready md ops (listed.setIfInBounds j true) := ready_mono hr (Ne.symm e)
   refine wpOp_mono (fun a' w' k => ?_) (wpOp_putIf hoj hap (fun cs b => hsel i oi cs b hi) (fun cs b => hsel j oj cs b hoj) hQ hy (H.2 j (ready_mono hj e)))
   obtain ⟨hy', hS', hW⟩ := k
   have hl3 : listed.getD z true = false → (listed.setIfInBounds i true).getD z true = false := fun q => by rw [getD_set_ne true hiz]; exact q
   refine ⟨fun q => hS' ⟨q.1, hl3 q.2⟩, ih _ a' w' (free_set hf) hji hy' (fun q => ?_) ?_⟩
   ·by_cases ejz : j = z
    ·exfalso
     subst ejz
     have hlt : j < listed.size := by
      rcases Nat.lt_or_ge j listed.size with h | h
      ·exact h
      ·rw [Array.getD_eq_getD_getElem?, Array.getElem?_eq_none h] at hun
       cases hun
     simp [hlt] at q
    ·rw [getD_set_ne true ejz] at q
     exact hS' ⟨ejz, hl3 q⟩
   ·rw [Array.setIfInBounds_comm _ _ (Ne.symm e)] at hW
    exact hW
theorem AnyL.takeN {i : Nat} {oi : Oper} {v : Value} {f : Nat} {listed : Array Bool} {a : Act} {w : World} (hi : ops[i]? = some oi)
  (hs : Region.noSelect ops = true) (hf : Region.free md ops listed i = true) (hr : (Region.ready md ops listed).contains i = true) (hiz : i ≠ z)
  (hQ : ∀ c a w, Q (.panic c) (a.put oi.dst v) w → Q (.panic c) a w) (hy : YieldsIf P ops (fun _ => True) oi v a) (hS : S w)
  (h : AnyL P md ops Q S z f (listed.setIfInBounds i true) (a.put oi.dst v) w) : AnyL P md ops Q S z (f + 1) listed a w :=
 AnyL.frontN hi (Region.noSelect_spec hs) hQ hiz f listed a w hf (by simpa using hr) hy (fun _ => hS) h
theorem AnyL.one {i : Nat} {o : Oper} {f : Nat} {listed : Array Bool} {a : Act} {w : World} (hr : Region.ready md ops listed = [i]) (ho : ops[i]? = some o)
  (h : ∀ K' : Act → World → Prop, Shut (∀ a w, ((i ≠ z ∧ listed.getD z true = false) → S w) → AnyL P md ops Q S z f (listed.setIfInBounds i true) a w → K' a w) → if Region.wanted o (yielded ops a.tmps) = true then Oper.wp P o a w K' Q else K' (a.put o.dst undef) w) :
  AnyL P md ops Q S z (f + 1) listed a w := by
 refine ⟨fun h0 => (by rw [hr] at h0; cases h0), fun j hj => ?_⟩
 rw [hr, List.mem_singleton] at hj
 subst hj
 exact wpOp_step ho (fun K' hK => h K' (fun a w hS hW => hK a w ⟨hS, hW⟩))
theorem AnyL.done {listed : Array Bool} {a : Act} {w : World} (hr : Region.ready md ops listed = []) (h : Q .normal a w) : ∀ f, AnyL P md ops Q S z f listed a w
 | 0 => ⟨hr, h⟩
 | _ + 1 => ⟨fun _ => h, by rw [hr]; simp⟩
theorem AnyL.region {id : Nat} {a : Act} {w : World} (S : World → Prop) (z : Nat) (hm : P.follows .mixedOrders = true)
  (h : AnyL P .any ops Q S z ops.size (Array.replicate ops.size false) a w.drew) : (Code.region id ops true).wp P Q a w :=
 wp_region_any hm (AnyL.plain _ _ _ _ h)
end
open Go.RowKit
open Go.RowKit
open Go.RowKit
open Go.RowKit
theorem ErrF.chn {w : World} {v : Value} {e : Int} (h : ErrF w v e) (h0 : e ≠ 0) : ∃ l, Fl.Chn w v l e := by
 rcases h with ⟨h1, -⟩ | ⟨-, rfl | ⟨b, pl, x, rfl, hb⟩⟩
 ·exact absurd h1 h0
 ·exact ⟨[], rfl⟩
 ·exact ⟨[(pl, x)], b, _, rfl, blk_cell hb 0, blk_cell hb 1, blk_cell hb 2, rfl⟩
theorem code_errF (v : Value) (e : Int) (w : World) (h : ErrF w v e) (hg : Fl.Glob w) : Calls Tryz.prog 19 #[v] w fun ev w' => ev = .returned (.int .i64 e) ∧ Below w.heap.size w w' := by
 by_cases h0 : e = 0
 ·rcases h with ⟨h1, rfl⟩ | ⟨h1, -⟩
  ·rw [h0]; exact Fl.Code_nil w
  ·exact absurd h0 h1
 ·obtain ⟨l, hl⟩ := h.chn h0
  exact Fl.Code_chain l e v w hl hg
theorem ErrF.form {w : World} {v : Value} {e : Int} (h : ErrF w v e) : (e = 0 ∧ v = .nilIface) ∨ (e ≠ 0 ∧ ∃ t x, v = .iface t x) := by
 rcases h with h | ⟨h0, h | ⟨b, pl, x, h1, -⟩⟩
 ·exact .inl h
 ·exact .inr ⟨h0, _, _, h⟩
 ·exact .inr ⟨h0, _, _, h1⟩
open Go.RowKit
theorem lim_z {l : Lim} (h : l.okB = true) : ∃ n : LimN, n.ok ∧ l = n.z := by
 unfold Lim.okB inB at h
 simp only [Bool.and_eq_true, decide_eq_true_eq] at h
 obtain ⟨s, p, t, r, hh, c⟩ := l
 refine ⟨⟨s.toNat, p.toNat, t.toNat, r.toNat, hh.toNat, c.toNat⟩, ?_, ?_⟩
 ·constructor <;> simp only at h ⊢ <;> omega
 ·simp only at h
  unfold LimN.z
  simp only [Lim.mk.injEq]
  omega
theorem own_lt {α : Type} {E : Lay α} {base : Nat} {w : World} {v : Value} {xs : List α} (h : OwnS E base w v xs) {T : Nat → Prop} (hT : ∀ k, T k → OkB w k ∨ ∃ cs U, w.heap[k]? = some (.cells cs U (0, 0)) ∧ U ≠ E.ty) (hE : FbT E.ty) : OutL w T v := fun a n c e => by
 subst e
 obtain ⟨cs, hc⟩ := own_blk h rfl
 exact ⟨fun q => (hT _ q).elim (fun q => q _ _ hc hE) (fun ⟨cs', U, h1, h2⟩ => blk_ne h1 hc h2 rfl), (Array.getElem?_eq_some_iff.1 hc).1⟩
theorem Play.start {w0 w : World} {n : LimN} {m : MB} {S : Nat → Prop} {c : Ck} {Y : MX} {rb cl : Nat} {cz : Array Value} {us : List PuD} {ups : List Up} (hM : MemAt w m S n 0 psB (pgs1 n.p) c) (hF : ∀ k, MS m S k → w0.heap.size ≤ k) (hB : Below w0.heap.size w0 w) (hr : MXAt w rb Y) (hrb : w0.heap.size ≤ rb) (hc : CtrAt w cl cz) (hcl : w0.heap.size ≤ cl) (hl : Y.l = n) (hn : Y.count = 0)
  (ho : OwnS lPut 0 w (.slice Y.qa Y.qn Y.qc) us) (hbr : ∀ e ∈ us, SV lRow w0 e.rv e.rows ∧ SV lEnt w0 e.en e.ents) (hps : us.map PuD.pt = psB) (hu : OwnS lUp 0 w (.slice Y.ta Y.tn Y.tc) ups) (hrk : RefOk ups (pgs1 n.p)) (hp : (pgs1 n.p).length = n.p) :
  Play w0 w (fun k => MS m (fun k => S k ∧ OkB w k) k ∨ k = cl ∨ k = rb) cl rb cz m (fun k => S k ∧ OkB w k) Y psB (pgs1 n.p) c us ups [] [] (.slice none 0 0) (.slice none 0 0) := by
 subst hl
 have hM' := hM.shrink
 have hT : ∀ k, (MS m (fun k => S k ∧ OkB w k) k ∨ k = cl ∨ k = rb) → w0.heap.size ≤ k ∧ k < w.heap.size := fun k q => by
  rcases q with q | rfl | rfl
  ·exact ⟨hF k (q.imp id (fun q => q.imp And.left id)), hM'.lt k q⟩
  ·exact ⟨hcl, hc.lt⟩
  ·exact ⟨hrb, hr.lt⟩
 refine ⟨⟨by rw [hn]; exact hM', hB, hc, hT, fun k q => .inl q, .inr (.inl rfl), hM.okMS, fun k x q => by simp at q, fun k k' x y q => by simp at q⟩, ⟨⟨hB, fun k q => (hT k q).1, fun k q => (hT k q).2, ho.sv, own_lt ho (fun k q => ?_) (by decide), hbr, hps, hu, own_lt hu (fun k q => ?_) (by decide), hrk, hp⟩, fun k y q => by simp at q⟩, ⟨hr, .inr (.inr rfl), OwnS.nil _ _ _, fun k e => (by cases e), OwnS.nil _ _ _, fun k e => (by cases e)⟩⟩
 ·rcases q with q | rfl | rfl
  ·exact .inl (hM.okMS k q)
  ·exact .inr ⟨_, _, hc, by decide⟩
  ·exact .inr ⟨_, _, hr.blk, by decide⟩
 ·rcases q with q | rfl | rfl
  ·exact .inl (hM.okMS k q)
  ·exact .inr ⟨_, _, hc, by decide⟩
  ·exact .inr ⟨_, _, hr.blk, by decide⟩
theorem Bare.rows {b : Nat} {w w0 : World} {v : Value} {us : List PuD} (h : Bare us) (ho : OwnS lPut b w v us) : ∀ e ∈ us, SV lRow w0 e.rv e.rows ∧ SV lEnt w0 e.en e.ents := fun d hd => by
 obtain ⟨h1, h2⟩ := h d hd
 have hP := (h.puts ho).2 d hd
 rw [h1, h2] at hP ⊢
 obtain ⟨⟨_, _, e1, _⟩, ⟨_, _, e2, _⟩⟩ := hP
 have r1 := List.eq_nil_of_length_eq_zero (Value.slice.inj e1).2.1.symm
 have r2 := List.eq_nil_of_length_eq_zero (Value.slice.inj e2).2.1.symm
 rw [r1, r2]
 exact ⟨SV.nil _ _, SV.nil _ _⟩
theorem cz_at {N k : Nat} (hk : k < N) : (lInt.flat (List.replicate N 0)).toArray[k]? = some (.int .i64 0) := by
 have h := lInt.flat_at (List.replicate N 0) k 0 0 (by rw [List.getElem?_replicate, if_pos hk]) (by decide)
 rw [List.getElem?_toArray]
 simpa [lInt] using h
theorem pgs1_len (p : Nat) (hp : 1 ≤ p) : (pgs1 p).length = p := by
 obtain ⟨q, rfl⟩ : ∃ q, p = q + 1 := ⟨p - 1, by omega⟩
 unfold pgs1
 simp [pages0]
theorem wp_appL {α : Type} (E : Lay α) (T : TypeId) (hT : Tryz.prog.underlying T = some (.slice E.ty)) {by_ : Nat} (hk : E.known by_) (hz : 0 < E.sz) (hby : by_ ≤ 10000) {o : Oper} {a : Act} {w : World} {K : Act → World → Prop} {Q : Exit → Act → World → Prop} (s x : Operand)
  (ho : o.op = .call { callee := .builtin .append, args := #[s, x], argTypes := #[T, T] }) (base : Nat) {v xv : Value} {xs ys : List α}
  (hs : a.eval s = v) (hx : a.eval x = xv) (hown : OwnS E base w v xs) (hsrc : SV E w xv ys) (h63 : xs.length + ys.length ≤ 100000) (hbase : base ≤ w.heap.size)
  (h : ∀ v' w', OwnS E base w' v' (xs ++ ys) → w.grownBy w' v.ownBlock → (v'.ownBlock = v.ownBlock ∨ v'.ownBlock = some w.heap.size) → K (a.put o.dst v') w') : Oper.wp Tryz.prog o a w K Q := by
 obtain ⟨v', w', hr, h2, h3, h4⟩ := run_appL E T hT hk hz w base o.type hown hsrc h63 hby hbase
 unfold Oper.wp execOp
 simp only [ho, resolve, invoke, builtin, Sem.run_bind, Sem.run_pure, Result.andThen_ok, List.map_toArray, List.map_cons, List.map_nil, hs, hx, hr]
 exact h v' w' h2 h3 h4
theorem dx_fill (X : DX) : Instr.fill (fun i => some (i * 29, 29)) ((Array.range (1 * 29)).map (DX.zero.val.cells[· % DX.zero.val.cells.size]!)) [(0, X.val)] = some X.list.toArray := by kernel_rfl
theorem wp_buildDX {o : Oper} {a : Act} {w : World} {K : Act → World → Prop} {Q : Exit → Act → World → Prop} (x : Operand) (ho : o.op = .buildSlice 46 1 #[(0, x)]) (X : DX) (hx : a.eval x = X.val)
  (h : K (a.put o.dst (.slice (some ⟨w.heap.size, 0, none⟩) 1 1)) (w.alloc (.cells X.list.toArray 68))) : Oper.wp Tryz.prog o a w K Q := by
 obtain ⟨ie, z, hie, hz, hs, -, -⟩ := lDX_known
 have hz2 : ie.zero = some DX.zero.val := by
  have q : (Tryz.prog.info? 68).map (·.zero) = some (some DX.zero.val) := by kernel_rfl
  have hie' : Tryz.prog.info? 68 = some ie := hie
  rw [hie'] at q
  exact Option.some.inj q
 have hs' : ie.size = 29 := hs
 refine wp_buildSlice 46 68 1 #[(0, x)] ho X.list.toArray ie DX.zero.val Tryz.underlying46 hie hz2 (by rw [hs']; decide) (by rw [hs']; decide) ?_ h
 have e : (#[((0 : Nat), x)].map fun (i, x) => (i, a.eval x)).toList = [(0, X.val)] := by rw [← hx]; simp
 rw [e, hs']
 exact dx_fill X
theorem Lay3.thereB {w0 w : World} {T : Nat → Prop} {rb gb k bc j : Nat} {Y : MX} {va : Value} {bs : List Nat} {Xs : List DX} (h : Lay3 w0 w T rb Y va (.slice (some ⟨gb, 0, none⟩) k bc) bs Xs) (hj : j < k) (X : DX) : w.there gb (j * 29) X.list.length := by
 obtain ⟨cur, hc, hz⟩ := h.b.block
 obtain ⟨_, _, e, h1, -⟩ := h.b.sv.lenform
 obtain ⟨-, h2, h3⟩ := Value.slice.inj e
 subst h2 h3
 exact blk_thereN hc (j * 29) 29 (by rw [hz]; show j * 29 + 29 ≤ bc * 29; omega)
theorem set_get {α : Type} {xs : List α} {k : Nat} {x : α} (h : xs[k]? = some x) (y : α) : (xs.set k y)[k]? = some y := by
 rw [List.getElem?_set, if_pos rfl, if_pos (List.getElem?_eq_some_iff.1 h).1]
theorem Play.overB {w0 w : World} {T : Nat → Prop} {cl rb gb k bc j : Nat} {cz : Array Value} {m : MB} {S : Nat → Prop} {Y : MX} {ps : List Pt} {L : List Pg} {c : Ck} {us : List PuD} {ups : List Up} {xs : List PE} {ys : List DE} {va : Value} (h : Play w0 w T cl rb cz m S Y ps L c us ups xs ys va (.slice (some ⟨gb, 0, none⟩) k bc)) {y : DE} (hy : ys[j]? = some y) : w.cell? ⟨gb, j * 29 + 23, none⟩ = some (.bool y.D.over) := by
 have hX : (ys.map DE.X)[j]? = some y.X := by rw [List.getElem?_map, hy]; rfl
 have := h.lay.b.sv.cellAt (j := 23) (u := .bool y.X.over) hX rfl
 rw [(h.D.each j y hy).over, Nat.zero_add] at this
 exact this
theorem wpList_load_midW {P : Program} {ops : Array Oper} {rest : List Oper} {op : Oper} {a : Act} {w : World} {Q : Exit → Act → World → Prop} (hgw : Region.wanted op (yielded ops a.tmps) = true) (ty : TypeId) (x : Operand) (ho : op.op = .load ty x)
  (b o : Nat) (hx : a.eval x = .pointer (some ⟨b, o, none⟩)) (cs : List Value) (d : TypeDesc) (hc : w.rangeAt b o cs)
  (hu : P.underlying ty = some d) (hd : d.isRow = true) (hi : (P.info? ty).map (·.size) = some cs.length)
  (h : wpList P ops Q rest (a.put op.dst (.agg cs.toArray)) w) : wpList P ops Q (op :: rest) a w :=
 BigFrame.wpList_want hgw fun _ hK => wp_load_mid ty x ho b o hx cs d hc hu hd hi (hK _ _ h)
open Go.RowKit
structure EndC (w : World) (ga gb cl p pb : Nat) (ov dn : Bool) (er : Int) (pgs rfs : Value) (n : Int) : Prop where
 a : w.cell? ⟨ga, p, none⟩ = some (.pointer (some ⟨pb, 0, none⟩))
 ov : w.cell? ⟨gb, p * 29 + 23, none⟩ = some (.bool ov)
 dn : w.cell? ⟨gb, p * 29 + 24, none⟩ = some (.bool dn)
 er : w.cell? ⟨gb, p * 29 + 25, none⟩ = some (.int .i64 er)
 pg : w.cell? ⟨gb, p * 29 + 26, none⟩ = some pgs
 rf : w.cell? ⟨gb, p * 29 + 27, none⟩ = some rfs
 ct : w.cell? ⟨cl, p, none⟩ = some (.int .i64 n)
theorem EndC.step {w w' : World} {ga gb cl p pb : Nat} {ov dn : Bool} {er : Int} {pgs rfs : Value} {n : Int} (h : EndC w ga gb cl p pb ov dn er pgs rfs n) (hs : Below w.heap.size w w') : EndC w' ga gb cl p pb ov dn er pgs rfs n :=
 ⟨cell_step h.a hs, cell_step h.ov hs, cell_step h.dn hs, cell_step h.er hs, cell_step h.pg hs, cell_step h.rf hs, cell_step h.ct hs⟩
theorem Play.endC {w0 w : World} {T : Nat → Prop} {cl rb ga gb na nb ca cb p : Nat} {cz : Array Value} {m : MB} {S : Nat → Prop} {Y : MX} {ps : List Pt} {L : List Pg} {c : Ck} {us : List PuD} {ups : List Up} {xs : List PE} {ys : List DE} (h : Play w0 w T cl rb cz m S Y ps L c us ups xs ys (.slice (some ⟨ga, 0, none⟩) na ca) (.slice (some ⟨gb, 0, none⟩) nb cb)) {x : PE} {y : DE} (hx : xs[p]? = some x) (hy : ys[p]? = some y) :
  ∃ n : Int, n ≤ 1 ∧ EndC w ga gb cl p x.b y.D.over y.D.done y.D.err (.slice y.X.pa y.X.pn y.X.pc) (.slice y.X.ra y.X.rn y.X.rc) n := by
 have hX : (ys.map DE.X)[p]? = some y.X := by rw [List.getElem?_map, hy]; rfl
 have hB : (xs.map PE.b)[p]? = some x.b := by rw [List.getElem?_map, hx]; rfl
 have d := h.D.each p y hy
 obtain ⟨n, hn, h1, -⟩ := (h.P.each p x hx).ct
 have at_ : ∀ (j : Nat) (u : Value), y.X.list[j]? = some u → w.cell? ⟨gb, p * 29 + j, none⟩ = some u := fun j u hj => by
  have := h.lay.b.sv.cellAt (j := j) (u := u) hX hj
  rw [Nat.zero_add] at this
  exact this
 refine ⟨n, h1, ⟨?_, by rw [← d.over]; exact at_ 23 _ rfl, by rw [← d.done]; exact at_ 24 _ rfl, by rw [← d.err]; exact at_ 25 _ rfl, at_ 26 _ rfl, at_ 27 _ rfl, ?_⟩⟩
 ·have := h.lay.a.sv.cellAt (j := 0) hB rfl
  simpa [lPtr] using this
 ·rw [blk_cell h.P.ctr p]; exact hn
theorem eql_nn (w : World) : (binOp .eql 30 .nilIface .nilIface).run Tryz.prog w = .ok (.bool true) w := by
 have h : ∀ d : Nat, (Op.equalIn (d + 2) 30 .nilIface .nilIface).run Tryz.prog w = .ok true w := fun d => by
  simp [Op.equalIn, run_underlying Tryz.underlying30]
 simp only [binOp]
 simp [Op.equal, Op.maxDepth, h 9998]
theorem eql_in (t : TypeId) (x : Value) (w : World) : (binOp .eql 30 (.iface t x) .nilIface).run Tryz.prog w = .ok (.bool false) w := by
 have h : ∀ d : Nat, (Op.equalIn (d + 2) 30 (.iface t x) .nilIface).run Tryz.prog w = .ok false w := fun d => by
  simp [Op.equalIn, run_underlying Tryz.underlying30]
 simp only [binOp]
 simp [Op.equal, Op.maxDepth, h 9998]
theorem errF_nil {w : World} {v : Value} {e : Int} (h : ErrF w v e) : ∃ b : Bool, (∀ w, (binOp .eql 30 v .nilIface).run Tryz.prog w = .ok (.bool b) w) ∧ (e == 0) = b ∧ ∀ (x : Operand) w, (eqGuard .eql 30 x (.const .nilIface) v .nilIface).run Tryz.prog w = .ok () w := by
 rcases h.form with ⟨h1, h2⟩ | ⟨h1, t, x, h2⟩
 ·exact ⟨true, fun w => by rw [h2]; exact eql_nn w, by rw [h1]; rfl, fun x w => by rw [h2]; simp [eqGuard]⟩
 ·exact ⟨false, fun w => by rw [h2]; exact eql_in t x w, beq_eq_false_iff_ne.2 h1, fun y w => by rw [h2]; simp [eqGuard]⟩
end Go.Proofs.YtejmdmaebkdjoaaGreatDoor
