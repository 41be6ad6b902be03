/- Jobs in memory; layer 12's laws' own few, by contract. -/
import Derived.Test.YtejmdmaebkdjoaaGreatDoorNsKeep
namespace Go.Proofs.YtejmdmaebkdjoaaGreatDoor
set_option linter.unusedVariables false
set_option linter.unusedSimpArgs false
set_option maxRecDepth 100000
set_option maxHeartbeats 4000000
open Go.RowKit
theorem okB_no {l : Lim} (h : l.s < 4 ∨ 4096 < l.s ∨ l.p < 3 ∨ 256 < l.p ∨ l.t < 1 ∨ 64 < l.t ∨ l.r < 2 ∨ 64 < l.r ∨ l.h < 2 ∨ 64 < l.h ∨ l.c < 8 ∨ 1099511627776 < l.c) : false = l.okB := by
 symm
 rw [Bool.eq_false_iff]
 intro e
 unfold Lim.okB inB at e
 simp only [Bool.and_eq_true, decide_eq_true_eq] at e
 omega
theorem okB_last {l : Lim} (h1 : 4 ≤ l.s) (h2 : l.s ≤ 4096) (h3 : 3 ≤ l.p) (h4 : l.p ≤ 256) (h5 : 1 ≤ l.t) (h6 : l.t ≤ 64) (h7 : 2 ≤ l.r) (h8 : l.r ≤ 64) (h9 : 2 ≤ l.h) (h10 : l.h ≤ 64) (h11 : 8 ≤ l.c) : decide (l.c ≤ 1099511627776) = l.okB := by
 unfold Lim.okB inB
 rw [decide_eq_true h1, decide_eq_true h2, decide_eq_true h3, decide_eq_true h4, decide_eq_true h5, decide_eq_true h6, decide_eq_true h7, decide_eq_true h8, decide_eq_true h9, decide_eq_true h10, decide_eq_true h11]
 rfl
theorem rRight_any (l : Lim) (w : World) : Calls Tryz.prog 20 #[limV l] w fun ev w' => ev = .returned (.bool l.okB) ∧ Below w.heap.size w w' := by
 have B0 := Lib.hid (alloc_below0 w (limObj l))
 have L0 := Lib.hid (LimAt.new w l)
 have x0 := L0.out.c0
 have x1 := L0.out.c1
 have x2 := L0.out.c2
 have x3 := L0.out.c3
 have x4 := L0.out.c4
 have x5 := L0.out.c5
 unfold limV
 unfold limObj at B0 L0 x0 x1 x2 x3 x4 x5
 go_enter Tryz.func20, Tryz.ntmps20
 go_wp2
 all_goals (go_ret; refine ⟨congrArg (fun b => Ending.returned (Value.bool b)) ?_, B0.out⟩; first | exact okB_no (by omega) | exact okB_last (by omega) (by omega) (by omega) (by omega) (by omega) (by omega) (by omega) (by omega) (by omega) (by omega) (by omega))
structure JbD where
 page : Int
 os : Int
 og : Int
 news : Int
 ba : Option Addr
 bn : Nat
 bc : Nat
 hd : RcL
 fresh : Int
def JbD.cells (j : JbD) : List Value := .int .i64 j.page :: .int .i64 j.os :: .int .i64 j.og :: .int .i64 j.news :: .slice j.ba j.bn j.bc :: (j.hd.cells ++ [.int .i64 j.fresh])
theorem JbD.cells_one (j : JbD) : ∀ u ∈ j.cells, u.oneCell' = true := fun u h => by
 simp only [JbD.cells, List.mem_cons, List.mem_append, List.not_mem_nil, or_false] at h
 rcases h with h | h | h | h | h | h | h
 iterate 5 (first | (subst h; rfl) | skip)
 ·exact j.hd.cells_one u h
 ·subst h; rfl
def lJob : Lay JbD := ⟨57, 21, JbD.cells, fun _ => rfl, JbD.cells_one⟩
theorem jobInfo21 : (Tryz.prog.info? 57).map (·.size) = some 21 := by kernel_rfl
def JbD.few (j : JbD) (bs : List RcL) : Prop := j.bn ≤ 6 ∧ j.hd.rn ≤ 20 ∧ j.hd.en ≤ 20 ∧ ∀ x ∈ bs, x.rn ≤ 20 ∧ x.en ≤ 20
def JbD.bases (w : World) (j : JbD) (bs : List RcL) : Prop := SV lRec w (.slice j.ba j.bn j.bc) bs
def zeroJob : List Value := [.int .i64 0, .int .i64 0, .int .i64 0, .int .i64 0, .slice none 0 0, .int .i64 0, .string ⟨#[]⟩, .string ⟨#[]⟩, .bool false, .int .i64 0, .slice none 0 0, .slice none 0 0, .string ⟨#[]⟩, .string ⟨#[]⟩, .int .i64 0, .int .i64 0, .int .i64 0, .string ⟨#[]⟩, .int .i64 0, .int .i64 0, .int .i64 0]
def FewQ (w : World) (P : Prop) (e : Ending) (w' : World) : Prop := ∃ b : Bool, e = .returned (.bool b) ∧ Below w.heap.size w w' ∧ (b = true → P)
theorem FewQ.no {w w' : World} {P : Prop} (h : Below w.heap.size w w') : FewQ w P (.returned (.bool false)) w' := ⟨false, rfl, h, fun e => by cases e⟩
theorem FewQ.yes {w w' : World} {P : Prop} {b : Bool} (h : Below w.heap.size w w') (hp : b = true → P) : FewQ w P (.returned (.bool b)) w' := ⟨b, rfl, h, hp⟩
theorem few12_any (l : Lim) (v : Value) (js : List JbD) (bss : Nat → List RcL) (ta : Option Addr) (tn tc : Nat) (w : World) (hv : SV lJob w v js) (hbs : ∀ (k : Nat) (j : JbD), js[k]? = some j → j.bases w (bss k)) : Calls Tryz.prog 4 #[limV l, v, .slice ta tn tc] w (FewQ w (js.length ≤ 6 ∧ tn ≤ 150 ∧ l.okB = true ∧ l.s ≤ 60 ∧ l.p ≤ 60 ∧ ∀ (k : Nat) (j : JbD), js[k]? = some j → j.few (bss k))) := by
 have V := Lib.hid (hv.below (alloc_below0 w (limObj l)))
 have HB := Lib.hid (show ∀ (k : Nat) (j : JbD), js[k]? = some j → j.bases (w.alloc (limObj l)) (bss k) from fun k j h => (hbs k j h).below (alloc_below0 w (limObj l)))
 have B0 := Lib.hid (alloc_below0 w (limObj l))
 have L0 := Lib.hid (LimAt.new w l)
 have fr := fun w => rRight_any l w
 obtain ⟨a, c, rfl, hlc, hcm⟩ := hv.lenform
 obtain ⟨n, hn⟩ : ∃ n, js.length = n := ⟨_, rfl⟩
 have LN := Lib.hid hn
 rw [hn] at V hlc ⊢
 unfold maxLen at hcm
 clear hv hn hbs
 unfold limV at fr ⊢
 unfold limObj at B0 L0 V HB
 go_enter Tryz.func4, Tryz.ntmps4
 go_wp2_with fail
 go_loopg [13] n (fun r i wz => ∃ k : Nat, k + r = n ∧ i = .int .i64 k ∧ Below (w.heap.size + 1) (w.alloc (.cells #[.int .i64 l.s, .int .i64 l.p, .int .i64 l.t, .int .i64 l.r, .int .i64 l.h, .int .i64 l.c] 23)) wz ∧ ∀ (k' : Nat) (j : JbD), k' < k → js[k']? = some j → j.few (bss k'))
 case atStart => exact ⟨0, by omega, rfl, Below.refl _ _, fun k' j h => by omega⟩
 case round =>
  obtain ⟨k, hk, rfl, hB, hF⟩ := hrel
  obtain ⟨wm, hwm⟩ : ∃ wm, wm = wr := ⟨_, rfl⟩
  subst hwm
  have A := Lib.hid (show Below (w.heap.size + 1) (w.alloc (.cells #[.int .i64 l.s, .int .i64 l.p, .int .i64 l.t, .int .i64 l.r, .int .i64 l.h, .int .i64 l.c] 23)) wm ∧ k + gk = n from ⟨hB, hk⟩)
  have BA := Lib.hid (B0.out.trans (hB.mono (by omega)))
  have sz : (w.alloc (.cells #[.int .i64 l.s, .int .i64 l.p, .int .i64 l.t, .int .i64 l.r, .int .i64 l.h, .int .i64 l.c] 23)).heap.size = w.heap.size + 1 := by simp
  have SZ := Lib.hid (show w.heap.size + 1 ≤ wm.heap.size by have := hB.size; omega)
  have VA := Lib.hid (V.out.below (hB.mono (by omega)))
  have HA := Lib.hid (show ∀ (k : Nat) (j : JbD), js[k]? = some j → j.bases wm (bss k) from fun k j h => (HB.out k j h).below (hB.mono (by omega)))
  have LA := Lib.hid (L0.out.step (hB.mono (by omega)))
  have FA := Lib.hid hF
  clear hB sz hF
  by_cases hlt : k < n
  ·obtain ⟨b, off, ha⟩ := VA.out.addr (by rw [LN.out]; omega)
   subst ha
   obtain ⟨d, hx⟩ : ∃ d, js[k]? = some d := ⟨_, List.getElem?_eq_getElem (by rw [LN.out]; exact hlt)⟩
   have RG := Lib.hid (show wm.rangeAt b (off + k * 21) d.cells from fun j v hj => VA.out.cellAt (j := j) hx hj)
   have i1 : IntKind.i64.wrap ((k : Int) + 1) = (k : Int) + 1 := Go.IntWalk.i64_in _ (by omega)
   have HX := Lib.hid hx
   have SB := Lib.hid (show SV lRec wm (.slice d.ba d.bn d.bc) (bss k) from HA.out k d hx)
   have NL := Lib.hid (show (bss k).length = d.bn by obtain ⟨_, _, e, -⟩ := SB.out.lenform; exact (Value.slice.inj e).2.1.symm)
   obtain ⟨cs, hcs⟩ : ∃ cs, cs = d.cells := ⟨_, rfl⟩
   have CO := Lib.hid (show cs.toArray.all (fun x => x.oneCell') = true from hcs ▸ all_oneCell_toArray d.cells_one)
   have CL := Lib.hid (show cs.length = 21 from hcs ▸ rfl)
   have C4 := Lib.hid (show cs[4]? = some (.slice d.ba d.bn d.bc) from hcs ▸ rfl)
   have C10 := Lib.hid (show cs[10]? = some (.slice d.hd.ra d.hd.rn d.hd.rc) from hcs ▸ rfl)
   have C11 := Lib.hid (show cs[11]? = some (.slice d.hd.ea d.hd.en d.hd.ec) from hcs ▸ rfl)
   have FW := Lib.hid (show ∀ (_ : d.bn ≤ 6) (_ : d.hd.rn ≤ 20) (_ : d.hd.en ≤ 20) (_ : ∀ x ∈ bss k, x.rn ≤ 20 ∧ x.en ≤ 20), d.few (bss k) from fun a b c e => ⟨a, b, c, e⟩)
   rw [← hcs] at RG
   clear hx hcs HA
   obtain ⟨page, os, og, news, ba, bn, bc, ⟨sc, ra, rn, rc, ea, en, ec⟩, fresh⟩ := d
   simp only at SB NL C4 C10 C11 FW
   have JI := Lib.hid (show (Tryz.prog.info? 57).map (·.size) = some cs.length from CL.out ▸ jobInfo21)
   have TZ := Lib.hid (show ∀ o, o = Obj.cells (zeroJob).toArray 57 (0, 0) → (wm.alloc o).there wm.heap.size 0 cs.length from fun o e => by subst e; rw [CL.out]; exact n_there_new wm _ _)
   have BZ := Lib.hid (show ∀ o, Below wm.heap.size wm ((wm.alloc o).setCells wm.heap.size 0 cs) from fun o => below_setCells (Nat.le_refl _) cs 0 _ (alloc_below0 wm o))
   go_upto_region 3 with (fail)
   go_wp2_with (first
    | (refine wpList_load_mid rfl 57 (.tmp 15) rfl b (off + k * 21) rfl cs _ ?_ Tryz.underlying57 rfl JI.out ?_; exact RG.out)
    | (refine wpList_store_to rfl 57 (.tmp 8) (.tmp 16) rfl wm.heap.size 0 cs rfl rfl ?_ JI.out CO.out ?_
       ·exact TZ.out _ rfl
       intro W2 hW2
       have hq := Lib.hid (show Below wm.heap.size wm W2 ∧ W2.rangeAt wm.heap.size 0 cs by rw [hW2]; exact ⟨BZ.out _, World.rangeAt_setCells_same _ _ _ _ (TZ.out _ rfl)⟩)
       have z4 := hq.out.2 4 _ C4.out
       have z10 := hq.out.2 10 _ C10.out
       have z11 := hq.out.2 11 _ C11.out
       simp only [Nat.zero_add] at z4 z10 z11
       clear hW2))
   all_goals have BC := Lib.hid (BA.out.trans (hq.out.1.mono BA.out.size))
   all_goals try (go_ret; exact FewQ.no BC.out)
   have CC := Lib.hid (show bn ≤ 6 ∧ rn ≤ 20 ∧ en ≤ 20 by omega)
   have S2 := Lib.hid (SB.out.below hq.out.1)
   have A2 := Lib.hid (A.out.1.trans (hq.out.1.mono (by have h1 := SZ.out; omega)))
   clear z4 z10 z11
   go_loopg [38] bn (fun r i wz => ∃ q : Nat, q + r = bn ∧ i = .int .i64 q ∧ Below W2.heap.size W2 wz ∧ ∀ (q' : Nat) (x : RcL), q' < q → (bss k)[q']? = some x → x.rn ≤ 20 ∧ x.en ≤ 20)
   case atStart => exact ⟨0, by omega, rfl, Below.refl _ _, fun q' x h => by omega⟩
   case round =>
    obtain ⟨q, hq1, rfl, hB2, hF2⟩ := hrel
    have Q1 := Lib.hid hq1
    have F2 := Lib.hid hF2
    have S3 := Lib.hid (S2.out.below hB2)
    have B3 := Lib.hid (BC.out.trans (hB2.mono BC.out.size))
    have BW := Lib.hid hB2
    have i2 : IntKind.i64.wrap ((q : Int) + 1) = (q : Int) + 1 := Go.IntWalk.i64_in _ (by have := CC.out.1; omega)
    clear hB2 hF2 hq1
    by_cases hql : q < bn
    ·obtain ⟨lb, lo, hba⟩ := S3.out.addr (by rw [NL.out]; omega)
     subst hba
     obtain ⟨x, hx⟩ : ∃ x, (bss k)[q]? = some x := ⟨_, List.getElem?_eq_getElem (by rw [NL.out]; exact hql)⟩
     have R3 := Lib.hid (show wr.rangeAt lb (lo + q * 15) x.cells from S3.out.range hx)
     have HX3 := Lib.hid hx
     clear hx
     have T3 := Lib.hid (show ∀ o, o = Obj.cells (recCells Sc.zero (.slice none 0 0) (.slice none 0 0)).toArray 55 (0, 0) → (wr.alloc o).there wr.heap.size 0 x.cells.length from fun o e => by subst e; exact n_there_new wr _ _)
     have B4 := Lib.hid (show ∀ o, Below wr.heap.size wr ((wr.alloc o).setCells wr.heap.size 0 x.cells) from fun o => below_setCells (Nat.le_refl _) x.cells 0 _ (alloc_below0 wr o))
     go_upto_region 8 with (fail)
     go_wp2_with (first
      | (refine wpList_load_mid rfl 55 (.tmp 40) rfl lb (lo + q * 15) rfl x.cells _ ?_ Tryz.underlying55 rfl recInfoS ?_; exact R3.out)
      | (refine wpList_store_to rfl 55 (.tmp 10) (.tmp 41) rfl wr.heap.size 0 x.cells rfl rfl ?_ recInfoS (all_oneCell_toArray x.cells_one) ?_
         ·exact T3.out _ rfl
         intro W5 hW5
         have h5 := Lib.hid (show Below wr.heap.size wr W5 ∧ W5.rangeAt wr.heap.size 0 x.cells by rw [hW5]; exact ⟨B4.out _, World.rangeAt_setCells_same _ _ _ _ (T3.out _ rfl)⟩)
         have z5 : W5.cell? ⟨wr.heap.size, 5, none⟩ = some (.slice x.ra x.rn x.rc) := by have := h5.out.2 5 _ rfl; simpa using this
         have z6 : W5.cell? ⟨wr.heap.size, 6, none⟩ = some (.slice x.ea x.en x.ec) := by have := h5.out.2 6 _ rfl; simpa using this
         clear hW5))
     all_goals have B5 := Lib.hid (B3.out.trans (h5.out.1.mono B3.out.size))
     all_goals try (go_ret; exact FewQ.no B5.out)
     have EE := Lib.hid (show x.rn ≤ 20 ∧ x.en ≤ 20 by omega)
     go_roundg (bn - (q + 1))
     case measure => have := Q1.out; omega
     case rel =>
      refine ⟨q + 1, by omega, by go_num, BW.out.trans (h5.out.1.mono BW.out.size), fun q' y hq' hy => ?_⟩
      by_cases e : q' = q
      ·subst e
       rw [HX3.out] at hy
       obtain rfl := Option.some.inj hy
       exact EE.out
      ·exact F2.out q' y (by omega) hy
    ·go_wp2_with fail
     go_roundg (n - (k + 1))
     case measure => have := A.out.2; omega
     case rel =>
      refine ⟨k + 1, by omega, by go_num, A2.out.trans (BW.out.mono (by have h1 := SZ.out; have h2 := hq.out.1.size; omega)), fun k' j hk' hj => ?_⟩
      by_cases e : k' = k
      ·subst e
       rw [HX.out] at hj
       obtain rfl := Option.some.inj hj
       refine FW.out CC.out.1 CC.out.2.1 CC.out.2.2 (fun x hx => ?_)
       obtain ⟨q', hq', hx'⟩ := List.getElem_of_mem hx
       exact F2.out q' x (by have := NL.out; have := Q1.out; omega) (by rw [List.getElem?_eq_getElem hq', hx'])
      ·exact FA.out k' j (by omega) hj
  ·have x0 := LA.out.c0
   have x1 := LA.out.c1
   have x2 := LA.out.c2
   have x3 := LA.out.c3
   have x4 := LA.out.c4
   have x5 := LA.out.c5
   have FZ := Lib.hid (show ∀ (k' : Nat) (j : JbD), js[k']? = some j → j.few (bss k') from fun k' j h => FA.out k' j (by have := (List.getElem?_eq_some_iff.1 h).1; have := LN.out; omega) h)
   by_cases c1 : n ≤ 6
   ·by_cases c2 : tn ≤ 150
    ·cases hok : l.okB with
     | false =>
      rw [hok] at fr
      go_wp2_with fail
      refine (fr _).mono ?_
      rintro ev wq ⟨rfl, hq⟩
      go_wp2
      go_ret
      exact FewQ.no (BA.out.trans (hq.mono BA.out.size))
     | true =>
      rw [hok] at fr
      go_wp2_with fail
      refine (fr _).mono ?_
      rintro ev wq ⟨rfl, hq⟩
      have y0 := cell_step x0 hq
      have y1 := cell_step x1 hq
      have BQ := Lib.hid (BA.out.trans (hq.mono BA.out.size))
      clear x0 x1 x2 x3 x4 x5 hq
      by_cases c3 : l.s ≤ 60
      ·go_wp2
       go_ret
       exact FewQ.yes BQ.out (fun h => ⟨c1, c2, hok, c3, of_decide_eq_true h, FZ.out⟩)
      ·go_wp2
       go_ret
       exact FewQ.no BQ.out
    ·go_wp2
     go_ret
     exact FewQ.no BA.out
   ·go_wp2
    go_ret
    exact FewQ.no BA.out
end Go.Proofs.YtejmdmaebkdjoaaGreatDoor
