/- The walk of the law CommitsCopies (layer 16). -/
import Derived.Test.YtkbfhpgcjljbbaaDoorCmTw
import Derived.Deep.CutRange
namespace Go.Proofs.YtkbfhpgcjljbbaaDoor
set_option linter.unusedVariables false
set_option linter.unusedSimpArgs false
open Go.RowKit

def doL (d : DoD) (la : Option Addr) (ln lc : Nat) : List Value := [.int .i64 d.verb, .int .i64 d.n, .int .i64 d.th, .bool d.r, .slice la ln lc]
theorem doRange {w : World} {b o : Nat} {d : DoD} {la : Option Addr} {ln lc : Nat} (x0 : w.cell? ⟨b, o, none⟩ = some (.int .i64 d.verb)) (x1 : w.cell? ⟨b, o + 1, none⟩ = some (.int .i64 d.n)) (x2 : w.cell? ⟨b, o + 2, none⟩ = some (.int .i64 d.th)) (x3 : w.cell? ⟨b, o + 3, none⟩ = some (.bool d.r)) (x4 : w.cell? ⟨b, o + 4, none⟩ = some (.slice la ln lc)) : w.rangeAt b o (doL d la ln lc) := fun i u hi => by
  match i, hi with
  | 0, hi => cases Option.some.inj hi; exact x0
  | 1, hi => cases Option.some.inj hi; exact x1
  | 2, hi => cases Option.some.inj hi; exact x2
  | 3, hi => cases Option.some.inj hi; exact x3
  | 4, hi => cases Option.some.inj hi; exact x4
set_option maxRecDepth 100000 in
set_option maxHeartbeats 8000000 in
theorem lawCopies16 (C : CmT) (N : CmN) (n l at_ : Int) (hat : 0 ≤ at_ ∧ at_ < 256) (v : Value) (ds : List DoD) (w : World) (hv : DosV w v ds) (hg : Ea.Glob w) :
    Calls Tryd.prog 4 #[.int .i64 n, .int .i64 l, v, .int .u8 at_] w fun ev w' => ev = .returned (.bool true) ∧ Below w.heap.size w w' := by
  obtain ⟨da, dc, rfl, dlc, dcm⟩ := hv.lenform
  obtain ⟨m, hm⟩ : ∃ m, ds.length = m := ⟨_, rfl⟩
  rw [hm] at hv dlc ⊢
  have DV := Lib.hid hv
  have LN := Lib.hid hm
  have HG := Lib.hid hg
  have B0 := Lib.hid (Below.refl w.heap.size w)
  unfold maxLen at dcm
  clear hv hm hg
  obtain ⟨at0, at1⟩ := hat
  go_enter Tryd.func4, Tryd.ntmps4
  go_wp2_with fail
  refine (fews_any _ ds _ DV.out).mono ?_
  rintro ev w1 ⟨rfl, hs⟩
  have B1 := Lib.hid (B0.out.trans (hs.mono B0.out.size))
  clear hs
  cases hf : fewsB ds with
  | false =>
    clear hf
    go_wp2_with fail
    refine (awake16 C _).mono ?_
    rintro ev wz ⟨rfl, hs⟩
    have BZ := Lib.hid (B1.out.trans (hs.mono B1.out.size))
    clear hs
    go_wp2
    go_ret
    exact ⟨rfl, BZ.out⟩
  | true =>
    have FW := Lib.hid hf
    clear hf
    cases hok : okT n l with
    | false =>
      have OKT := Lib.hid hok
      clear hok
      go_wp2_with fail
      refine (C.newNo n l _ OKT.out).mono ?_
      rintro ev w2 ⟨rfl, hs⟩
      have B2 := Lib.hid (B1.out.trans (hs.mono B1.out.size))
      clear hs
      go_wp2_with fail
      refine (rf_newNo n l _ OKT.out).mono ?_
      rintro ev w3 ⟨rfl, hs⟩
      have b3 := B2.out.trans (hs.mono B2.out.size)
      have bq := alloc_below0 w3 (.cells (rtN l (.slice none 0 0)).toArray 31)
      have B4 := Lib.hid (b3.trans (bq.mono b3.size))
      unfold rtN at bq B4
      unfold rtN
      clear hs b3 bq
      go_wp2_with fail
      refine (N.copy _).mono ?_
      rintro ev w4 ⟨rfl, hs⟩
      have B5 := Lib.hid (B4.out.trans (hs.mono B4.out.size))
      clear hs
      go_wp2_with fail
      refine (awake16 C _).mono ?_
      rintro ev wz ⟨rfl, hs⟩
      have BZ := Lib.hid (B5.out.trans (hs.mono B5.out.size))
      clear hs
      go_wp2
      go_ret
      exact ⟨rfl, BZ.out⟩
    | true =>
      have OKT := Lib.hid hok
      clear hok
      go_wp2_with fail
      refine (C.new n l _ OKT.out).mono ?_
      rintro ev w2 ⟨a, S, rfl, hI, hS, hs⟩
      have I1 := Lib.hid hI
      have S1 := Lib.hid (show ∀ k, S k → w.heap.size ≤ k from fun k hk => Nat.le_trans B1.out.size (hS k hk))
      have B2 := Lib.hid (B1.out.trans (hs.mono B1.out.size))
      clear hI hS hs
      go_wp2_with fail
      refine (rf_newYes n l _ OKT.out).mono ?_
      rintro ev w3 ⟨vm, rfl, ho, hs⟩
      obtain ⟨ra, rc, rfl, -, -⟩ := ho.lenN (n := n.toNat) (by simp)
      unfold rtV
      have bq := alloc_below0 w3 (.cells (rtL (Tb.new n.toNat l) (.slice none 0 0) (.slice none 0 0) (.slice ra n.toNat rc)).toArray 31)
      obtain ⟨wv, hwv⟩ : ∃ x, x = w3.alloc (.cells (rtL (Tb.new n.toNat l) (.slice none 0 0) (.slice none 0 0) (.slice ra n.toNat rc)).toArray 31) := ⟨_, rfl⟩
      have kq := blk_new w3 (.cells (rtL (Tb.new n.toNat l) (.slice none 0 0) (.slice none 0 0) (.slice ra n.toNat rc)).toArray 31)
      rw [← hwv] at bq kq
      unfold rtL at hwv
      obtain ⟨rb, hrb⟩ : ∃ x, x = w3.heap.size := ⟨_, rfl⟩
      rw [← hrb] at kq
      have L0 := Lib.hid (LawP.new (C := C) (w0 := w) OKT.out I1.out S1.out B2.out ho hs bq kq hrb HG.out)
      have B4 := Lib.hid ((B2.out.trans (hs.mono B2.out.size)).trans (bq.mono (B2.out.trans (hs.mono B2.out.size)).size))
      have HV := Lib.hid (show wv = _ ∧ rb = _ from ⟨hwv, hrb⟩)
      clear ho hs bq kq hwv hrb I1 S1
      obtain ⟨K, hK, hKm⟩ : ∃ K : Nat, at_ % ((m : Int) + 1) = (K : Int) ∧ K ≤ m := ⟨(at_ % ((m : Int) + 1)).toNat, by
        have := Int.emod_nonneg at_ (b := (m : Int) + 1) (by omega); omega, by
        have := Int.emod_lt_of_pos at_ (b := (m : Int) + 1) (by omega)
        have := Int.emod_nonneg at_ (b := (m : Int) + 1) (by omega); omega⟩
      have M60 := Lib.hid (show m ≤ 60 by have h1 := fewsB_len FW.out; have h2 := LN.out; omega)
      have HM := Lib.hid (show K ≤ m ∧ m ≤ 60 from ⟨hKm, M60.out⟩)
      have kc : K ≤ dc := by omega
      have m60 : m ≤ 60 := M60.out
      go_wp2_with fail
      rw [← HV.out.1, ← HV.out.2]
      clear HV
      rw [hK]
      clear hK
      go_loopg [63] K (fun c i wr => ∃ (k : Nat) (S : Nat → Prop) (t : Tb) (pa : Option Addr) (pn pc : Nat) (qa : Option Addr) (qn qc : Nat) (ra : Option Addr) (rn rc : Nat), k + c = K ∧ i = .int .i64 k ∧ t.all.length ≤ k ∧ LawP C w wr a S t rb (.slice pa pn pc) (.slice qa qn qc) (.slice ra rn rc))
      case atStart => exact ⟨0, S, _, none, 0, 0, none, 0, 0, ra, n.toNat, rc, by omega, rfl, Nat.le_refl _, L0.out⟩
      case round =>
        obtain ⟨k, S, t, pa, pn, pc, qa, qn, qc, ra, rn, rc, hk, rfl, hkl, hL⟩ := hrel
        obtain ⟨wo, hwo⟩ : ∃ x, x = wr := ⟨_, rfl⟩
        subst hwo
        obtain ⟨go, hgo⟩ : ∃ x, x = gk := ⟨_, rfl⟩
        subst hgo
        have A := Lib.hid (show k + go = K from hk)
        have LL := Lib.hid hL
        have KL := Lib.hid (show t.all.length ≤ k ∧ k ≤ 60 from ⟨hkl, by have h1 := HM.out; omega⟩)
        clear hL hkl L0
        by_cases hlt : k < K
        · skip
          obtain ⟨d, hd⟩ : ∃ d, (ds)[k]? = some d := ⟨_, List.getElem?_eq_getElem (by rw [LN.out]; have := HM.out; omega)⟩
          obtain ⟨b, off, la, lc, rfl, ⟨x0, x1, x2, x3, x4⟩, hw, hn⟩ := DV.out.elem hd
          obtain ⟨ln, hln⟩ : ∃ x, d.xs.length = x := ⟨_, rfl⟩
          rw [hln] at x4 hw
          have x0 := cell_step x0 LL.out.pre.low
          have x1 := cell_step x1 LL.out.pre.low
          have x2 := cell_step x2 LL.out.pre.low
          have x3 := cell_step x3 LL.out.pre.low
          have x4 := cell_step x4 LL.out.pre.low
          have XW := Lib.hid hw
          have MY := Lib.hid (fewsB_at FW.out (List.mem_of_getElem? hd) hn)
          have j3 : (0 : Int) ≤ (k : Int) := by omega
          have j4 : (k : Int) < (K : Int) := by omega
          have j5 : K ≤ 60 := by have := HM.out; omega
          have b1 := alloc_below0 wo (doO d.verb d.n d.th d.r (.slice la ln lc))
          have L1 := Lib.hid (LL.out.step b1)
          have D1 := DoAt.new d.verb d.n d.th d.r (.slice la ln lc) wo
          obtain ⟨we, hwe⟩ : ∃ x, x = wo.alloc (doO d.verb d.n d.th d.r (.slice la ln lc)) := ⟨_, rfl⟩
          rw [← hwe] at L1 D1
          have e0 := D1.c0
          have e1 := D1.c1
          have e2 := D1.c2
          have e3 := D1.c3
          have e4 := D1.c4
          unfold doO at hwe
          have HE := Lib.hid hwe
          clear hd hn hw hln b1 hwe D1
          go_wp2_with (rw [← HE.out]; refine wpList_load_mid rfl 31 (.tmp 10) rfl rb 0 rfl (rtL t (.slice pa pn pc) (.slice qa qn qc) (.slice ra rn rc)) _ (rangeOf L1.out.blk) Tryd.underlying31 rfl rtInfo ?_)
          clear HE x0 x1 x2 x3 x4 e0 e1 e2 e3 e4
          refine (does_any C a S t (.slice pa pn pc) (.slice qa qn qc) (.slice ra rn rc) d (.slice la ln lc) w _ L1.out.pre XW.out MY.out).mono ?_
          rintro ev w2 ⟨S', va', vd', vm', rfl, hI, hV, hoff, hK, hS, hB⟩
          have Q2 := Lib.hid (L1.out.does MY.out (by have := KL.out; omega) hI hV hoff hK hS hB)
          have TL := Lib.hid (step_grow t d)
          obtain ⟨t', ht'⟩ : ∃ x, t.step d = x := ⟨_, rfl⟩
          rw [ht'] at hV Q2 TL ⊢
          clear ht' hI hoff hK hS hB L1 LL
          obtain ⟨ua, uc, rfl, -, -⟩ := hV.all.lenN rfl
          obtain ⟨sa, sc, rfl, -, -⟩ := hV.drp.lenN rfl
          obtain ⟨za, zc, rfl, -, -⟩ := hV.mks.lenN rfl
          obtain ⟨un, hun⟩ : ∃ x, t'.all.length = x := ⟨_, rfl⟩
          obtain ⟨sn, hsn⟩ : ∃ x, t'.dropped.length = x := ⟨_, rfl⟩
          obtain ⟨zn, hzn⟩ : ∃ x, t'.marks.length = x := ⟨_, rfl⟩
          rw [hun, hsn, hzn] at Q2 ⊢
          clear hV hun hsn hzn
          unfold rtV
          go_wp2_with (refine wpList_store_mid rfl 31 (.tmp 10) (.tmp 72) rfl rb 0 (rtL t' (.slice ua un uc) (.slice sa sn sc) (.slice za zn zc)).toArray rfl rfl Q2.out.there rtInfo (rtL_one _ _ _ _ _ _ _ _ _ _) ?_
                       generalize hz : World.setCells _ _ _ _ = wz
                       have E0 := Lib.hid (Q2.out.store hz.symm)
                       clear hz)
          go_roundg (K - (k + 1))
          case measure => have := A.out; omega
          case rel => exact ⟨k + 1, S', t', ua, un, uc, sa, sn, sc, za, zn, zc, by omega, by go_num, by have h1 := TL.out; have h2 := KL.out.1; omega, E0.out⟩
        · obtain rfl : K = k := by have := A.out; omega
          have P9 := Lib.hid LL.out
          have U9 := Lib.hid (show t.all.length ≤ K from KL.out.1)
          clear hk A KL LL hlt
          go_upto_region 13 with fail
          go_cut [15, 16] from 75 to 77 (fun cp qp wc => ∃ (c : Addr) (S2 : Nat → Prop) (qb : Nat), cp = .pointer (some c) ∧ qp = .pointer (some ⟨qb, 0, none⟩) ∧ Tw C w wc c S2 t qb (.slice pa pn pc) (.slice qa qn qc) (.slice ra rn rc) a S t rb (.slice pa pn pc) (.slice qa qn qc) (.slice ra rn rc))
          case first =>
            have B0 := Lib.hid ((Below.refl wo.heap.size wo).drew)
            have RR := Lib.hid (show ∀ w', Below wo.heap.size wo w' → w'.rangeAt rb 0 (rtL t (.slice pa pn pc) (.slice qa qn qc) (.slice ra rn rc)) from fun w' h => rangeOf (P9.out.step h).blk)
            refine anyH_region (fun w' => w'.rangeAt rb 0 (rtL t (.slice pa pn pc) (.slice qa qn qc) (.slice ra rn rc))) (by kernel_rfl) ?_
            generalize (World.drew wo) = wd at *
            refine wpAnyH_take (i := 0) (oi := ⟨some 75, _, _, _, _, _⟩) (v := ?vc13_0) rfl (by kernel_rfl) (by kernel_rfl) (by kernel_rfl) (fun _ _ _ h => h) (Or.inl ⟨by rfl, ?hyc13_0⟩) (RR.out _ B0.out) ?restc13_0
            case hyc13_0 => (intro w hSw; go_simp; try (with_reducible rfl))
            simp only [Act.put, List.setIfInBounds_toArray, List.set_cons_zero, List.set_cons_succ]
            refine wpAnyH_take (i := 2) (oi := ⟨some 77, _, _, _, _, _⟩) (v := .agg (rtL t (.slice pa pn pc) (.slice qa qn qc) (.slice ra rn rc)).toArray) rfl (by kernel_rfl) (by kernel_rfl) (by kernel_rfl) (fun _ _ _ h => h) (yieldsIf_load_mid (by rfl) 31 (.tmp 10) rfl rb 0 rfl (rtL t (.slice pa pn pc) (.slice qa qn qc) (.slice ra rn rc)) _ (fun w h => h) Tryd.underlying31 rfl rtInfo) (RR.out _ B0.out) ?restc13_2
            simp only [Act.put, List.setIfInBounds_toArray, List.set_cons_zero, List.set_cons_succ]
            refine anyH_two (i := 1) (j := 3) (o := ⟨some 76, _, _, _, _, _⟩) (u := ⟨some 16, _, _, _, _, _⟩) (by kernel_rfl) rfl rfl (fun K' hK => ?_) (fun K' hK => ?_)
            · skip
              rw [if_pos (by rfl)]
              go_simp
              refine (C.copy a S t _ (P9.out.step B0.out).pre.inv (by have := P9.out.pre.len; omega)).mono ?_
              rintro ev w1 ⟨c, S2, rfl, hI, hS2, hs⟩
              have BC := Lib.hid (B0.out.trans (hs.mono B0.out.size))
              simp only
              refine hK.out _ _ (RR.out _ BC.out) ?_
              clear hK K'
              try simp only [Act.put, List.setIfInBounds_toArray, List.set_cons_zero, List.set_cons_succ]
              have CI := Lib.hid (show C.Inv w1 c S2 t ∧ (∀ k, S2 k → wo.heap.size ≤ k ∨ (S k ∧ isW wo k)) ∧ (∀ k, S2 k → k < w1.heap.size) from ⟨hI, cpLow B0.out (C.foot P9.out.pre.inv) hS2, fun k h => C.foot hI k h⟩)
              clear hI hS2 hs
              refine anyH_one (i := 3) (o := ⟨some 16, _, _, _, _, _⟩) (by kernel_rfl) rfl (fun K' hK => ?_)
              rw [if_pos (by rfl)]
              go_simp
              have bw := alloc_below0 w1 (.cells rtZ.toArray 31)
              have kw := blk_new w1 (.cells rtZ.toArray 31)
              obtain ⟨w3, hw3⟩ : ∃ x, x = w1.alloc (.cells rtZ.toArray 31) := ⟨_, rfl⟩
              rw [← hw3] at bw kw
              unfold rtZ at hw3
              rw [← hw3]
              have BZ := Lib.hid (BC.out.trans (bw.mono BC.out.size))
              clear hw3
              refine hK.out _ _ (RR.out _ BZ.out) ?_
              clear hK K'
              try simp only [Act.put, List.setIfInBounds_toArray, List.set_cons_zero, List.set_cons_succ]
              have TQ := Lib.hid (TwQ.start (w1 := w1) (L := rtZ) P9.out BZ.out (C.step CI.out.1 bw) CI.out.2.1 BC.out.size (fun e => by have := CI.out.2.2 _ e; omega) rfl kw)
              clear bw kw
              refine wpAnyH_take (i := 4) (oi := ⟨some 15, _, _, _, _, _⟩) (v := ?vta) rfl (by kernel_rfl) (by kernel_rfl) (by kernel_rfl) (fun _ _ _ h => h) (Or.inl ⟨by rfl, ?hyta⟩) (RR.out _ BZ.out) ?restta
              case hyta => (intro w hSw; go_simp; try (with_reducible rfl))
              simp only [Act.put, List.setIfInBounds_toArray, List.set_cons_zero, List.set_cons_succ]
              refine anyH_one (i := 5) (o := ⟨none, _, _, _, _, _⟩) (by kernel_rfl) rfl (fun K' hK => ?_)
              rw [if_pos (by rfl)]
              refine wp_store_to 31 (.tmp 16) (.tmp 77) rfl w1.heap.size 0 (rtL t (.slice pa pn pc) (.slice qa qn qc) (.slice ra rn rc)) rfl rfl ?_ rtInfo (rtL_one _ _ _ _ _ _ _ _ _ _) ?_
              · exact TQ.out.one.there
              intro wz hz
              have TW := Lib.hid (TQ.out.store hz)
              have RZ := rangeOf TW.out.two.blk
              clear hz
              refine hK.out _ _ RZ ?_
              clear hK K'
              try simp only [Act.put]
              refine wpAnyH_done (by kernel_rfl) ?_ _
              go_wp2
              go_meet
              case rel => exact ⟨c, S2, _, rfl, rfl, TW.out⟩
            · skip
              rw [if_pos (by rfl)]
              go_simp
              have bw := alloc_below0 wd (.cells rtZ.toArray 31)
              have kw := blk_new wd (.cells rtZ.toArray 31)
              obtain ⟨w1, hw3⟩ : ∃ x, x = wd.alloc (.cells rtZ.toArray 31) := ⟨_, rfl⟩
              rw [← hw3] at bw kw
              unfold rtZ at hw3
              rw [← hw3]
              have BZ := Lib.hid (B0.out.trans (bw.mono B0.out.size))
              clear hw3
              refine hK.out _ _ (RR.out _ BZ.out) ?_
              clear hK K'
              try simp only [Act.put, List.setIfInBounds_toArray, List.set_cons_zero, List.set_cons_succ]
              have KW := Lib.hid (show w1.heap[wd.heap.size]? = some (.cells rtZ.toArray 31 (0, 0)) ∧ wd.heap.size < w1.heap.size from ⟨kw, by have := (Array.getElem?_eq_some_iff.1 kw).1; exact this⟩)
              clear bw kw
              refine anyH_one (i := 1) (o := ⟨some 76, _, _, _, _, _⟩) (by kernel_rfl) rfl (fun K' hK => ?_)
              rw [if_pos (by rfl)]
              go_simp
              refine (C.copy a S t _ (P9.out.step BZ.out).pre.inv (by have := P9.out.pre.len; omega)).mono ?_
              rintro ev w3 ⟨c, S2, rfl, hI, hS2, hs⟩
              have BC := Lib.hid (BZ.out.trans (hs.mono BZ.out.size))
              simp only
              refine hK.out _ _ (RR.out _ BC.out) ?_
              clear hK K'
              try simp only [Act.put, List.setIfInBounds_toArray, List.set_cons_zero, List.set_cons_succ]
              have TQ := Lib.hid (TwQ.start (w1 := w1) (L := rtZ) P9.out BC.out hI (cpLow BZ.out (C.foot P9.out.pre.inv) hS2) B0.out.size (fun e => (hS2 _ e).elim (fun h1 => by have h2 := KW.out.2; omega) (fun h1 => by have h3 := C.foot P9.out.pre.inv _ h1.1; have h4 := B0.out.size; omega)) rfl (blk_step KW.out.1 hs))
              clear hI hS2 hs
              refine wpAnyH_take (i := 4) (oi := ⟨some 15, _, _, _, _, _⟩) (v := ?vtb) rfl (by kernel_rfl) (by kernel_rfl) (by kernel_rfl) (fun _ _ _ h => h) (Or.inl ⟨by rfl, ?hytb⟩) (RR.out _ BC.out) ?resttb
              case hytb => (intro w hSw; go_simp; try (with_reducible rfl))
              simp only [Act.put, List.setIfInBounds_toArray, List.set_cons_zero, List.set_cons_succ]
              refine anyH_one (i := 5) (o := ⟨none, _, _, _, _, _⟩) (by kernel_rfl) rfl (fun K' hK => ?_)
              rw [if_pos (by rfl)]
              refine wp_store_to 31 (.tmp 16) (.tmp 77) rfl wd.heap.size 0 (rtL t (.slice pa pn pc) (.slice qa qn qc) (.slice ra rn rc)) rfl rfl ?_ rtInfo (rtL_one _ _ _ _ _ _ _ _ _ _) ?_
              · exact TQ.out.one.there
              intro wz hz
              have TW := Lib.hid (TQ.out.store hz)
              have RZ := rangeOf TW.out.two.blk
              clear hz
              refine hK.out _ _ RZ ?_
              clear hK K'
              try simp only [Act.put]
              refine wpAnyH_done (by kernel_rfl) ?_ _
              go_wp2
              go_meet
              case rel => exact ⟨c, S2, _, rfl, rfl, TW.out⟩
          case rest =>
            obtain ⟨c, S2, qb, rfl, rfl, hT⟩ := hcut
            obtain ⟨wa, hwa⟩ : ∃ u, u = wc := ⟨_, rfl⟩
            subst hwa
            have T0 := Lib.hid hT.swap
            clear hT
            have HM2 := Lib.hid (show K ≤ m ∧ m ≤ 60 from HM.out)
            go_upto_region 14 with fail
            go_cut [80, 81, 82] from 78 to 82 (fun sv ln i wc => ∃ (a' : Option Addr) (c' : Nat), sv = .slice a' (m - K) c' ∧ (K < m → DosV w sv (ds.drop K)) ∧ ln = .int .i64 ((m - K : Nat) : Int) ∧ i = .int .i64 0 ∧ wc = wa)
            case first =>
              by_cases hkm : K < m
              · obtain ⟨d0, hd0⟩ : ∃ d, ds[0]? = some d := ⟨_, List.getElem?_eq_getElem (by rw [LN.out]; omega)⟩
                obtain ⟨b, off, -, -, rfl, -⟩ := DV.out.elem hd0
                have hck : ¬ dc = K := by omega
                clear hd0
                go_wp2
                go_meet
                case rel => exact ⟨_, _, rfl, fun _ => DV.out.dropV (k := K) (by rw [LN.out]; omega) (by omega), rfl, rfl, rfl⟩
              · obtain rfl : m = K := by have := HM2.out; omega
                by_cases hck : m = dc
                · subst hck
                  go_wp2
                  go_meet
                  case rel => exact ⟨_, _, (by simp; exact ⟨rfl, rfl⟩), fun h => absurd h hkm, (by simp), rfl, rfl⟩
                · go_wp2
                  go_meet
                  case rel => exact ⟨_, _, (by simp; exact ⟨rfl, rfl⟩), fun h => absurd h hkm, (by simp), rfl, rfl⟩
            case rest =>
              obtain ⟨a2, c2, rfl, hSV, rfl, rfl, rfl⟩ := hcut
              have HV2 := Lib.hid hSV
              clear hSV
              obtain ⟨tq, h_tq⟩ : ∃ x, x = t := ⟨_, rfl⟩
              subst h_tq
              obtain ⟨Sq, h_Sq⟩ : ∃ x, x = S := ⟨_, rfl⟩
              subst h_Sq
              obtain ⟨fa, h_fa⟩ : ∃ x, x = pa := ⟨_, rfl⟩
              subst h_fa
              obtain ⟨fn, h_fn⟩ : ∃ x, x = pn := ⟨_, rfl⟩
              subst h_fn
              obtain ⟨fc, h_fc⟩ : ∃ x, x = pc := ⟨_, rfl⟩
              subst h_fc
              obtain ⟨ga, h_ga⟩ : ∃ x, x = qa := ⟨_, rfl⟩
              subst h_ga
              obtain ⟨gn, h_gn⟩ : ∃ x, x = qn := ⟨_, rfl⟩
              subst h_gn
              obtain ⟨gc, h_gc⟩ : ∃ x, x = qc := ⟨_, rfl⟩
              subst h_gc
              obtain ⟨ha, h_ha⟩ : ∃ x, x = ra := ⟨_, rfl⟩
              subst h_ha
              obtain ⟨hnn, h_hnn⟩ : ∃ x, x = rn := ⟨_, rfl⟩
              subst h_hnn
              obtain ⟨hc, h_hc⟩ : ∃ x, x = rc := ⟨_, rfl⟩
              subst h_hc
              go_wp2_with fail
              go_loopg [82] (m - K) (fun r i wr => ∃ (k : Nat) (S : Nat → Prop) (t : Tb) (pa : Option Addr) (pn pc : Nat) (qa : Option Addr) (qn qc : Nat) (ra : Option Addr) (rn rc : Nat), k + r = m - K ∧ i = .int .i64 k ∧ t.all.length ≤ K + k ∧ Tw C w wr a S t rb (.slice pa pn pc) (.slice qa qn qc) (.slice ra rn rc) c S2 tq qb (.slice fa fn fc) (.slice ga gn gc) (.slice ha hnn hc))
              case atStart => exact ⟨0, Sq, tq, _, _, _, _, _, _, _, _, _, by omega, by go_num, by have := U9.out; omega, T0.out⟩
              case round =>
                obtain ⟨k, S, t, pa, pn, pc, qa, qn, qc, ra, rn, rc, hk, rfl, hkl, hL⟩ := hrel
                obtain ⟨wo, hwo⟩ : ∃ x, x = wr := ⟨_, rfl⟩
                subst hwo
                obtain ⟨go, hgo⟩ : ∃ x, x = gk := ⟨_, rfl⟩
                subst hgo
                have A := Lib.hid (show k + go = m - K from hk)
                have LL := Lib.hid hL
                have KL := Lib.hid (show t.all.length ≤ K + k ∧ K + k ≤ 60 from ⟨hkl, by have h1 := HM2.out; omega⟩)
                clear hL hkl T0
                by_cases hlt : k < m - K
                · skip
            
                  obtain ⟨d, hd⟩ : ∃ d, (ds.drop K)[k]? = some d := ⟨_, List.getElem?_eq_getElem (by rw [List.length_drop, LN.out]; exact hlt)⟩
                  obtain ⟨b, off, la, lc, rfl, ⟨x0, x1, x2, x3, x4⟩, hw, hn⟩ := (HV2.out (by omega)).elem hd
                  obtain ⟨ln, hln⟩ : ∃ x, d.xs.length = x := ⟨_, rfl⟩
                  rw [hln] at x4 hw
                  have x0 := cell_step x0 LL.out.one.pre.low
                  have x1 := cell_step x1 LL.out.one.pre.low
                  have x2 := cell_step x2 LL.out.one.pre.low
                  have x3 := cell_step x3 LL.out.one.pre.low
                  have x4 := cell_step x4 LL.out.one.pre.low
                  have XW := Lib.hid hw
                  have MY := Lib.hid (fewsB_at FW.out (List.mem_of_mem_drop (List.mem_of_getElem? hd)) hn)
                  have j3 : (0 : Int) ≤ (k : Int) := by omega
                  have j4 : (k : Int) < ((m - K : Nat) : Int) := by omega
                  have j5 : K + k ≤ 60 := KL.out.2
                  have b1 := alloc_below0 wo (doO d.verb d.n d.th d.r (.slice la ln lc))
                  have L1 := Lib.hid (LL.out.step b1)
                  have D1 := DoAt.new d.verb d.n d.th d.r (.slice la ln lc) wo
                  obtain ⟨we, hwe⟩ : ∃ x, x = wo.alloc (doO d.verb d.n d.th d.r (.slice la ln lc)) := ⟨_, rfl⟩
                  rw [← hwe] at L1 D1
                  have e0 := D1.c0
                  have e1 := D1.c1
                  have e2 := D1.c2
                  have e3 := D1.c3
                  have e4 := D1.c4
                  unfold doO at hwe
                  have HE := Lib.hid hwe
                  clear hd hn hw hln b1 hwe D1
                  go_wp2_with (rw [← HE.out]; refine wpList_load_mid rfl 31 (.tmp 10) rfl rb 0 rfl (rtL t (.slice pa pn pc) (.slice qa qn qc) (.slice ra rn rc)) _ (rangeOf L1.out.one.blk) Tryd.underlying31 rfl rtInfo ?_)
                  clear HE x0 x1 x2 x3 x4 e0 e1 e2 e3 e4
                  refine (does_any C a S t (.slice pa pn pc) (.slice qa qn qc) (.slice ra rn rc) d (.slice la ln lc) w _ L1.out.one.pre XW.out MY.out).mono ?_
                  rintro ev w2 ⟨S', va', vd', vm', rfl, hI, hV, hoff, hK, hS, hB⟩
                  have Q2 := Lib.hid (L1.out.does MY.out (by have := KL.out; omega) hI hV hoff hK hS hB)
                  have TL := Lib.hid (step_grow t d)
                  obtain ⟨t', ht'⟩ : ∃ x, t.step d = x := ⟨_, rfl⟩
                  rw [ht'] at hV Q2 TL ⊢
                  clear ht' hI hoff hK hS hB L1 LL
                  obtain ⟨ua, uc, rfl, -, -⟩ := hV.all.lenN rfl
                  obtain ⟨sa, sc, rfl, -, -⟩ := hV.drp.lenN rfl
                  obtain ⟨za, zc, rfl, -, -⟩ := hV.mks.lenN rfl
                  obtain ⟨un, hun⟩ : ∃ x, t'.all.length = x := ⟨_, rfl⟩
                  obtain ⟨sn, hsn⟩ : ∃ x, t'.dropped.length = x := ⟨_, rfl⟩
                  obtain ⟨zn, hzn⟩ : ∃ x, t'.marks.length = x := ⟨_, rfl⟩
                  rw [hun, hsn, hzn] at Q2 ⊢
                  clear hV hun hsn hzn
                  unfold rtV
                  go_wp2_with (refine wpList_store_mid rfl 31 (.tmp 10) (.tmp 91) rfl rb 0 (rtL t' (.slice ua un uc) (.slice sa sn sc) (.slice za zn zc)).toArray rfl rfl Q2.out.one.there rtInfo (rtL_one _ _ _ _ _ _ _ _ _ _) ?_
                               generalize hz : World.setCells _ _ _ _ = wz
                               have E0 := Lib.hid (Q2.out.store hz.symm)
                               clear hz)
                  go_roundg (m - K - (k + 1))
                  case measure => have := A.out; omega
                  case rel => exact ⟨k + 1, S', t', ua, un, uc, sa, sn, sc, za, zn, zc, by omega, by go_num, by have h1 := TL.out; have h2 := KL.out.1; omega, E0.out⟩
                · have T7 := Lib.hid LL.out.swap
                  clear hk A KL LL
                  obtain ⟨t7, h_t7⟩ : ∃ x, x = t := ⟨_, rfl⟩
                  subst h_t7
                  obtain ⟨S7, h_S7⟩ : ∃ x, x = S := ⟨_, rfl⟩
                  subst h_S7
                  obtain ⟨ba7, h_ba7⟩ : ∃ x, x = pa := ⟨_, rfl⟩
                  subst h_ba7
                  obtain ⟨bn7, h_bn7⟩ : ∃ x, x = pn := ⟨_, rfl⟩
                  subst h_bn7
                  obtain ⟨bc7, h_bc7⟩ : ∃ x, x = pc := ⟨_, rfl⟩
                  subst h_bc7
                  obtain ⟨da7, h_da7⟩ : ∃ x, x = qa := ⟨_, rfl⟩
                  subst h_da7
                  obtain ⟨dn7, h_dn7⟩ : ∃ x, x = qn := ⟨_, rfl⟩
                  subst h_dn7
                  obtain ⟨dc7, h_dc7⟩ : ∃ x, x = qc := ⟨_, rfl⟩
                  subst h_dc7
                  obtain ⟨ea7, h_ea7⟩ : ∃ x, x = ra := ⟨_, rfl⟩
                  subst h_ea7
                  obtain ⟨en7, h_en7⟩ : ∃ x, x = rn := ⟨_, rfl⟩
                  subst h_en7
                  obtain ⟨ec7, h_ec7⟩ : ∃ x, x = rc := ⟨_, rfl⟩
                  subst h_ec7
                  have i0 : IntKind.i64.wrap ((m : Int) - 1) = (m : Int) - 1 := Go.IntWalk.i64_in _ (by have := HM2.out; omega)
                  go_wp2_with fail
                  go_loopg [19] (m - K) (fun r i wr => ∃ (ji : Int) (k0 : Nat) (S : Nat → Prop) (t : Tb) (pa : Option Addr) (pn pc : Nat) (qa : Option Addr) (qn qc : Nat) (ra : Option Addr) (rn rc : Nat), i = .int .i64 ji ∧ ji = (K : Int) + r - 1 ∧ k0 + r ≤ 60 ∧ r ≤ m - K ∧ t.all.length ≤ k0 ∧ Tw C w wr c S t qb (.slice pa pn pc) (.slice qa qn qc) (.slice ra rn rc) a S7 t7 rb (.slice ba7 bn7 bc7) (.slice da7 dn7 dc7) (.slice ea7 en7 ec7))
                  case atStart => exact ⟨_, K, S2, tq, _, _, _, _, _, _, _, _, _, rfl, by have := HM2.out; omega, by have := HM2.out; omega, Nat.le_refl _, by have := U9.out; omega, T7.out⟩
                  case round =>
                    obtain ⟨ji, k0, S, t, pa, pn, pc, qa, qn, qc, ra, rn, rc, rfl, hji, hk0, hr, hkl, hL⟩ := hrel
                    have LL := Lib.hid hL
                    by_cases hlt : (K : Int) ≤ ji
                    · obtain ⟨j, rfl⟩ : ∃ j : Nat, ji = j := ⟨ji.toNat, by omega⟩
                      have HJ := Lib.hid (show j < m ∧ m ≤ 60 ∧ 1 ≤ gk ∧ (j : Int) = (K : Int) + gk - 1 ∧ k0 + gk ≤ 60 ∧ gk ≤ m - K from by have := HM2.out; omega)
                      have KL := Lib.hid (show t.all.length ≤ k0 ∧ k0 ≤ 60 from ⟨hkl, by omega⟩)
                      obtain ⟨d, hd⟩ : ∃ d, ds[j]? = some d := ⟨_, List.getElem?_eq_getElem (by rw [LN.out]; exact HJ.out.1)⟩
                      obtain ⟨b, off, la, lc, rfl, ⟨x0, x1, x2, x3, x4⟩, hw, hn⟩ := DV.out.elem hd
                      obtain ⟨ln, hln⟩ : ∃ x, d.xs.length = x := ⟨_, rfl⟩
                      rw [hln] at x4 hw
                      have XW := Lib.hid hw
                      have MY := Lib.hid (fewsB_at FW.out (List.mem_of_getElem? hd) hn)
                      have HS := Lib.hid (show ∀ w', Below w.heap.size w w' → w'.rangeAt b (off + j * 5) (doL d la ln lc) from fun w' h => doRange (cell_step x0 h) (cell_step x1 h) (cell_step x2 h) (cell_step x3 h) (cell_step x4 h))
                      have j3 : (0 : Int) ≤ (j : Int) := by omega
                      have j4 : (j : Int) < (m : Int) := by have := HJ.out; omega
                      have T3 := Lib.hid (LL.out.step (Below.refl _ wr).drew)
                      have SD := Lib.hid (HS.out _ T3.out.one.pre.low)
                      have a0 := (show _ = some (Value.int .i64 t.limit) from blk_cell T3.out.one.blk 0)
                      have a1 := (show _ = some (Value.int .i64 (t.low : Int)) from blk_cell T3.out.one.blk 1)
                      have a2 := (show _ = some (Value.slice pa pn pc) from blk_cell T3.out.one.blk 2)
                      have a3 := (show _ = some (Value.slice qa qn qc) from blk_cell T3.out.one.blk 3)
                      have a4 := (show _ = some (Value.slice ra rn rc) from blk_cell T3.out.one.blk 4)
                      have a5 := (show _ = some (Value.int .i64 t.holder) from blk_cell T3.out.one.blk 5)
                      clear hji hk0 hr hkl hL hd hw hn hln x0 x1 x2 x3 x4 LL
                      go_wp2_with fail
                      refine anyH_region (fun w' => w'.rangeAt b (off + j * 5) (doL d la ln lc)) (by kernel_rfl) ?_
                      generalize (World.drew wr) = wd at *
                      refine wpAnyH_take (i := 0) (oi := ⟨some 103, _, _, _, _, _⟩) (v := ?vc22_0) rfl (by kernel_rfl) (by kernel_rfl) (by kernel_rfl) (fun _ _ _ h => h) (Or.inl ⟨by rfl, ?hyc22_0⟩) SD.out ?restc22_0
                      case hyc22_0 => (intro w hSw; go_simp; try (with_reducible rfl))
                      simp only [Act.put, List.setIfInBounds_toArray, List.set_cons_zero, List.set_cons_succ]
                      refine wpAnyH_take (i := 2) (oi := ⟨some 105, _, _, _, _, _⟩) (v := ?vc22_2) rfl (by kernel_rfl) (by kernel_rfl) (by kernel_rfl) (fun _ _ _ h => h) (Or.inl ⟨by rfl, ?hyc22_2⟩) SD.out ?restc22_2
                      case hyc22_2 => (intro w hSw; go_simp; try (with_reducible rfl))
                      simp only [Act.put, List.setIfInBounds_toArray, List.set_cons_zero, List.set_cons_succ]
                      refine wpAnyH_take (i := 3) (oi := ⟨some 106, _, _, _, _, _⟩) (v := ?vc22_3) rfl (by kernel_rfl) (by kernel_rfl) (by kernel_rfl) (fun _ _ _ h => h) (Or.inl ⟨by rfl, ?hyc22_3⟩) SD.out ?restc22_3
                      case hyc22_3 => (intro w hSw; go_simp; try (with_reducible rfl))
                      simp only [Act.put, List.setIfInBounds_toArray, List.set_cons_zero, List.set_cons_succ]
                      refine wpAnyH_take (i := 4) (oi := ⟨some 107, _, _, _, _, _⟩) (v := ?vc22_4) rfl (by kernel_rfl) (by kernel_rfl) (by kernel_rfl) (fun _ _ _ h => h) (Or.inl ⟨by rfl, ?hyc22_4⟩) SD.out ?restc22_4
                      case hyc22_4 => (intro w hSw; go_simp; try (with_reducible rfl))
                      simp only [Act.put, List.setIfInBounds_toArray, List.set_cons_zero, List.set_cons_succ]
                      refine wpAnyH_take (i := 5) (oi := ⟨some 108, _, _, _, _, _⟩) (v := .agg (doL d la ln lc).toArray) rfl (by kernel_rfl) (by kernel_rfl) (by kernel_rfl) (fun _ _ _ h => h) (yieldsIf_load_mid (by rfl) 36 (.tmp 107) rfl b (off + j * 5) rfl (doL d la ln lc) _ (fun w h => h) Tryd.underlying36 rfl (by kernel_rfl)) SD.out ?restc22_5
                      simp only [Act.put, List.setIfInBounds_toArray, List.set_cons_zero, List.set_cons_succ]
                      refine anyH_one (i := 1) (o := ⟨some 104, _, _, _, _, _⟩) (by kernel_rfl) rfl (fun K hK => ?_)
                      rw [if_pos (by rfl)]
                      go_simp
                      refine hK.out _ _ SD.out ?_
                      clear hK K
                      try simp only [Act.put, List.setIfInBounds_toArray, List.set_cons_zero, List.set_cons_succ]
                      refine anyH_one (i := 6) (o := ⟨some 109, _, _, _, _, _⟩) (by kernel_rfl) rfl (fun K hK => ?_)
                      rw [if_pos (by rfl)]
                      go_simp
                      clear a0 a1 a2 a3 a4 a5
                      refine (does_any C c S t (.slice pa pn pc) (.slice qa qn qc) (.slice ra rn rc) d (.slice la ln lc) w _ T3.out.one.pre XW.out MY.out).mono ?_
                      rintro ev w2 ⟨S', va', vd', vm', rfl, hI, hV, hoff, hK, hS, hB⟩
                      have Q2 := Lib.hid (T3.out.does MY.out (by have := KL.out; omega) hI hV hoff hK hS hB)
                      have TL := Lib.hid (step_grow t d)
                      obtain ⟨t', ht'⟩ : ∃ x, t.step d = x := ⟨_, rfl⟩
                      rw [ht'] at hV Q2 TL ⊢
                      clear ht' hI hoff hK hS hB
                      obtain ⟨ua, uc, rfl, -, -⟩ := hV.all.lenN rfl
                      obtain ⟨sa, sc, rfl, -, -⟩ := hV.drp.lenN rfl
                      obtain ⟨za, zc, rfl, -, -⟩ := hV.mks.lenN rfl
                      obtain ⟨un, hun⟩ : ∃ x, t'.all.length = x := ⟨_, rfl⟩
                      obtain ⟨sn, hsn⟩ : ∃ x, t'.dropped.length = x := ⟨_, rfl⟩
                      obtain ⟨zn, hzn⟩ : ∃ x, t'.marks.length = x := ⟨_, rfl⟩
                      rw [hun, hsn, hzn] at Q2 ⊢
                      clear hV hun hsn hzn
                      unfold rtV
                      have S4 := Lib.hid (HS.out _ Q2.out.one.pre.low)
                      simp only
                      refine hK.out _ _ S4.out ?_
                      clear hK K
                      try simp only [Act.put, List.setIfInBounds_toArray, List.set_cons_zero, List.set_cons_succ]
                      refine wpAnyH_take (i := 7) (oi := ⟨some 102, _, _, _, _, _⟩) (v := ?vc22_7) rfl (by kernel_rfl) (by kernel_rfl) (by kernel_rfl) (fun _ _ _ h => h) (Or.inl ⟨by rfl, ?hyc22_7⟩) S4.out ?restc22_7
                      case hyc22_7 => (intro w hSw; go_simp; try (with_reducible rfl))
                      simp only [Act.put, List.setIfInBounds_toArray, List.set_cons_zero, List.set_cons_succ]
                      refine wpAnyH_take (i := 8) (oi := ⟨some 110, _, _, _, _, _⟩) (v := ?vc22_8) rfl (by kernel_rfl) (by kernel_rfl) (by kernel_rfl) (fun _ _ _ h => h) (Or.inl ⟨by rfl, ?hyc22_8⟩) S4.out ?restc22_8
                      case hyc22_8 => (intro w hSw; go_simp; try (with_reducible rfl))
                      simp only [Act.put, List.setIfInBounds_toArray, List.set_cons_zero, List.set_cons_succ]
                      refine wpAnyH_take (i := 9) (oi := ⟨some 111, _, _, _, _, _⟩) (v := ?vc22_9) rfl (by kernel_rfl) (by kernel_rfl) (by kernel_rfl) (fun _ _ _ h => h) (Or.inl ⟨by rfl, ?hyc22_9⟩) S4.out ?restc22_9
                      case hyc22_9 => (intro w hSw; go_simp; try (with_reducible rfl))
                      simp only [Act.put, List.setIfInBounds_toArray, List.set_cons_zero, List.set_cons_succ]
                      refine anyH_one (i := 10) (o := ⟨none, _, _, _, _, _⟩) (by kernel_rfl) rfl (fun K hK => ?_)
                      rw [if_pos (by rfl)]
                      refine wp_store_to 31 (.tmp 16) (.tmp 110) rfl qb 0 (rtL t' (.slice ua un uc) (.slice sa sn sc) (.slice za zn zc)) rfl rfl ?_ rtInfo (rtL_one _ _ _ _ _ _ _ _ _ _) ?_
                      · exact Q2.out.one.there
                      intro wz hz
                      have E0 := Lib.hid (Q2.out.store hz)
                      have SZ := Lib.hid (HS.out _ E0.out.one.pre.low)
                      clear hz
                      refine hK.out _ _ SZ.out ?_
                      clear hK K
                      try simp only [Act.put]
                      refine wpAnyH_done (by kernel_rfl) ?_ _
                      go_wp2
                      go_roundg (gk - 1)
                      case measure => have := HJ.out; omega
                      case rel => exact ⟨(j : Int) - 1, k0 + 1, S', t', ua, un, uc, sa, sn, sc, za, zn, zc, by go_num, by have := HJ.out; omega, by have := HJ.out; omega, by have := HJ.out; omega, by have h1 := TL.out; have h2 := KL.out.1; omega, E0.out⟩
                    · have hlt2 : ¬ (ji ≥ (K : Int)) := by omega
                      clear hji hk0 hr hkl hL
                      go_wp2_with (refine wpList_load_mid rfl 31 (.tmp 10) rfl rb 0 rfl (rtL t7 (.slice ba7 bn7 bc7) (.slice da7 dn7 dc7) (.slice ea7 en7 ec7)) _ (rangeOf LL.out.two.blk) Tryd.underlying31 rfl rtInfo ?_)
                      refine (all_any C a S7 t7 _ _ _ w _ LL.out.two.pre).mono ?_
                      rintro ev wy ⟨rfl, hs⟩
                      have L2 := Lib.hid (LL.out.step hs)
                      clear hs
                      have a0 := (show _ = some (Value.int .i64 t.limit) from blk_cell L2.out.one.blk 0)
                      have a1 := (show _ = some (Value.int .i64 (t.low : Int)) from blk_cell L2.out.one.blk 1)
                      have a2 := (show _ = some (Value.slice pa pn pc) from blk_cell L2.out.one.blk 2)
                      have a3 := (show _ = some (Value.slice qa qn qc) from blk_cell L2.out.one.blk 3)
                      have a4 := (show _ = some (Value.slice ra rn rc) from blk_cell L2.out.one.blk 4)
                      have a5 := (show _ = some (Value.int .i64 t.holder) from blk_cell L2.out.one.blk 5)
                      go_wp2_with fail
                      refine (all_any C c S t _ _ _ w _ L2.out.one.pre).mono ?_
                      rintro ev wx ⟨rfl, hs⟩
                      have L3 := Lib.hid (L2.out.step hs)
                      clear hs a0 a1 a2 a3 a4 a5
                      go_wp2_with fail
                      refine (awake16 C _).mono ?_
                      rintro ev wz ⟨rfl, hs⟩
                      have BZ := Lib.hid (L3.out.one.pre.low.trans (hs.mono L3.out.one.pre.low.size))
                      clear hs
                      go_wp2
                      go_ret
                      exact ⟨rfl, BZ.out⟩
end Go.Proofs.YtkbfhpgcjljbbaaDoor
