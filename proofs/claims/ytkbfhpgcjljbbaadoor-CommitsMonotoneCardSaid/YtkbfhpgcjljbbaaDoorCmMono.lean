/- The walk of the law CommitsMonotone (layer 16). -/
import Derived.Test.YtkbfhpgcjljbbaaDoorCmLaw
namespace Go.Proofs.YtkbfhpgcjljbbaaDoor
set_option linter.unusedVariables false
set_option linter.unusedSimpArgs false
open Go.RowKit

/-- only what is ahead of the base is dropped -/
def dropOk (t : Tb) : Prop := ∀ i, t.dropped[i]? = some true → i < t.low
structure Mono (t t' : Tb) : Prop where
  all : t.all.length ≤ t'.all.length
  low : t.low ≤ t'.low
  limit : t'.limit = t.limit
  drop : dropOk t → dropOk t'
theorem Mono.refl (t : Tb) : Mono t t := ⟨Nat.le_refl _, Nat.le_refl _, rfl, id⟩
theorem cut_true (n : Int) (low : Nat) : ∀ (l : List Bool) (j i : Nat), (Tb.cut n low j l)[i]? = some true → l[i]? = some true ∨ j + i < low
  | [], j, i, h => by simp [Tb.cut] at h
  | b :: bs, j, 0, h => by
    simp only [Tb.cut, List.getElem?_cons_zero, Option.some.injEq, Bool.or_eq_true, Bool.and_eq_true, decide_eq_true_eq] at h
    rcases h with h | h
    · left; simp [h]
    · right; omega
  | b :: bs, j, i + 1, h => by
    rcases cut_true n low bs (j + 1) i (by simpa [Tb.cut] using h) with h | h
    · left; simpa using h
    · right; omega
theorem app_mono (t : Tb) (last : Int) (xs : List Wr) : Mono t (t.app last xs) := by
  unfold Tb.app; split
  · refine ⟨by show t.all.length ≤ (t.all ++ [xs]).length; simp, Nat.le_refl _, rfl, fun h i hi => ?_⟩
    have hi' : (t.dropped ++ [false])[i]? = some true := hi
    by_cases hl : i < t.dropped.length
    · rw [List.getElem?_append_left hl] at hi'; exact h i hi'
    · rw [List.getElem?_append_right (by omega)] at hi'
      match hq : i - t.dropped.length, hi' with
      | 0, hi' => simp at hi'
      | k + 1, hi' => simp at hi'
  · exact Mono.refl t
theorem mark_mono (t : Tb) (k n : Int) : Mono t (t.mark k n) := by
  unfold Tb.mark; split
  · exact ⟨Nat.le_refl _, Nat.le_refl _, rfl, id⟩
  · exact Mono.refl t
theorem grab_mono (t : Tb) (k : Int) : Mono t (t.grab k) := by
  unfold Tb.grab; split
  · exact ⟨Nat.le_refl _, Nat.le_refl _, rfl, id⟩
  · exact Mono.refl t
theorem yield_mono (t : Tb) (k : Int) : Mono t (t.yield_ k) := by
  unfold Tb.yield_; split
  · exact ⟨Nat.le_refl _, Nat.le_refl _, rfl, id⟩
  · exact Mono.refl t
theorem adv_mono (t : Tb) (b : Int) : Mono t (t.adv b) := by
  unfold Tb.adv; split
  · exact ⟨Nat.le_refl _, Nat.le_succ _, rfl, fun h i hi => Nat.lt_succ_of_lt (h i hi)⟩
  · exact Mono.refl t
theorem trim_mono (t : Tb) (n : Int) : Mono t (t.trim n) := by
  refine ⟨Nat.le_refl _, Nat.le_refl _, rfl, fun h i hi => ?_⟩
  rcases cut_true n t.low t.dropped 0 i hi with e | e
  · exact h i e
  · show i < t.low
    omega
theorem step_mono (t : Tb) (d : DoD) : Mono t (t.step d) := by
  unfold Tb.step
  by_cases h0 : d.verb = 0
  · rw [if_pos h0]; exact app_mono t _ _
  by_cases h2 : d.verb = 2
  · rw [if_neg h0, if_pos h2]; exact mark_mono t _ _
  by_cases h4 : d.verb = 4
  · rw [if_neg h0, if_neg h2, if_pos h4]; exact grab_mono t _
  by_cases h5 : d.verb = 5
  · rw [if_neg h0, if_neg h2, if_neg h4, if_pos h5]; exact yield_mono t _
  by_cases h6 : d.verb = 6
  · rw [if_neg h0, if_neg h2, if_neg h4, if_neg h5, if_pos h6]; exact adv_mono t _
  by_cases h7 : d.verb = 7
  · rw [if_neg h0, if_neg h2, if_neg h4, if_neg h5, if_neg h6, if_pos h7]; exact trim_mono t _
  · rw [if_neg h0, if_neg h2, if_neg h4, if_neg h5, if_neg h6, if_neg h7]; exact Mono.refl t
theorem countB_none : ∀ l : List Bool, (∀ i : Nat, l[i]? ≠ some true) → Tb.countB l = l.length
  | [], _ => rfl
  | b :: bs, h => by
    have h0 := h 0
    have ih := countB_none bs (fun i => by have := h (i + 1); simpa using this)
    cases b with
    | true => simp at h0
    | false => simp [Tb.countB, ih]; omega
theorem count_ge {t : Tb} (h : dropOk t) (hl : t.dropped.length = t.all.length) : t.all.length - t.low ≤ t.count := by
  unfold Tb.count
  have e := countB_append (t.dropped.take t.low) (t.dropped.drop t.low)
  rw [List.take_append_drop] at e
  have e2 := countB_none (t.dropped.drop t.low) (fun i hi => by
    rw [List.getElem?_drop] at hi
    have := h _ hi
    omega)
  rw [List.length_drop] at e2
  omega
theorem count_le {t : Tb} (hl : t.dropped.length = t.all.length) : t.count ≤ t.all.length := by
  unfold Tb.count
  have := countB_le t.dropped
  omega

set_option linter.unusedVariables false
set_option linter.unusedSimpArgs false
open Go.RowKit

set_option maxRecDepth 100000 in
set_option maxHeartbeats 4000000 in
theorem lawMono16 (C : CmT) (n l : Int) (v : Value) (ds : List DoD) (w : World) (hv : DosV w v ds) (hg : Ea.Glob w) :
    Calls Tryd.prog 5 #[.int .i64 n, .int .i64 l, v] w fun ev w' => ev = .returned (.bool true) ∧ Below w.heap.size w w' := by
  obtain ⟨da, dc, rfl, dlc, dcm⟩ := hv.lenform
  obtain ⟨m, hm⟩ : ∃ m, ds.length = m := ⟨_, rfl⟩
  rw [hm] at hv dlc ⊢
  have DV := Lib.hid hv
  have LN := Lib.hid hm
  have HG := Lib.hid hg
  have B0 := Lib.hid (Below.refl w.heap.size w)
  unfold maxLen at dcm
  clear hv hm hg
  cases hok : okT n l with
  | false =>
    have OKT := Lib.hid hok
    clear hok
    go_enter Tryd.func5, Tryd.ntmps5
    go_wp2_with fail
    refine (C.newNo n l _ OKT.out).mono ?_
    rintro ev w2 ⟨rfl, hs⟩
    have B2 := Lib.hid (B0.out.trans (hs.mono B0.out.size))
    clear hs
    go_wp2_with fail
    refine (awake16 C _).mono ?_
    rintro ev wz ⟨rfl, hs⟩
    have BZ := Lib.hid (B2.out.trans (hs.mono B2.out.size))
    clear hs
    go_wp2
    go_ret
    exact ⟨rfl, BZ.out⟩
  | true =>
    have OKT := Lib.hid hok
    clear hok
    go_enter Tryd.func5, Tryd.ntmps5
    go_wp2_with fail
    refine (C.new n l _ OKT.out).mono ?_
    rintro ev w1 ⟨a, S, rfl, hI, hS, hs⟩
    have I1 := Lib.hid hI
    have S1 := Lib.hid (show ∀ k, S k → w.heap.size ≤ k from fun k hk => Nat.le_trans B0.out.size (hS k hk))
    have B1 := Lib.hid (B0.out.trans (hs.mono B0.out.size))
    clear hI hS hs
    go_wp2_with fail
    refine (fews_any _ ds _ (DV.out.below B1.out)).mono ?_
    rintro ev w2 ⟨rfl, hs⟩
    have I1 := Lib.hid (C.step I1.out hs)
    have B2 := Lib.hid (B1.out.trans (hs.mono B1.out.size))
    clear hs
    cases hf : fewsB ds with
    | false =>
      clear hf
      go_wp2_with fail
      refine (awake16 C _).mono ?_
      rintro ev wz ⟨rfl, hs⟩
      have BZ := Lib.hid (B2.out.trans (hs.mono B2.out.size))
      clear hs
      go_wp2
      go_ret
      exact ⟨rfl, BZ.out⟩
    | true =>
      have FW := Lib.hid hf
      clear hf
      go_wp2_with fail
      refine (rf_newYes n l _ OKT.out).mono ?_
      rintro ev w3 ⟨vm, rfl, ho, hs⟩
      obtain ⟨ra, rc, rfl, -, -⟩ := ho.lenN (n := n.toNat) (by simp)
      unfold rtV
      have bq := alloc_below0 w3 (.cells (rtL (Tb.new n.toNat l) (.slice none 0 0) (.slice none 0 0) (.slice ra n.toNat rc)).toArray 31)
      obtain ⟨wv, hwv⟩ : ∃ x, x = w3.alloc (.cells (rtL (Tb.new n.toNat l) (.slice none 0 0) (.slice none 0 0) (.slice ra n.toNat rc)).toArray 31) := ⟨_, rfl⟩
      have kq := blk_new w3 (.cells (rtL (Tb.new n.toNat l) (.slice none 0 0) (.slice none 0 0) (.slice ra n.toNat rc)).toArray 31)
      rw [← hwv] at bq kq
      unfold rtL at hwv
      obtain ⟨rb, hrb⟩ : ∃ x, x = w3.heap.size := ⟨_, rfl⟩
      rw [← hrb] at kq
      have L0 := Lib.hid (LawP.new (C := C) (w0 := w) OKT.out I1.out S1.out B2.out ho hs bq kq hrb HG.out)
      have B4 := Lib.hid ((B2.out.trans (hs.mono B2.out.size)).trans (bq.mono (B2.out.trans (hs.mono B2.out.size)).size))
      have HV := Lib.hid (show wv = _ ∧ rb = _ from ⟨hwv, hrb⟩)
      clear ho hs bq kq hwv hrb I1 S1
      go_wp2
      rw [← HV.out.1, ← HV.out.2]
      clear HV
      go_loopg [10, 11, 33] m (fun c lv bv i wr => ∃ (k : Nat) (S : Nat → Prop) (t : Tb) (pa : Option Addr) (pn pc : Nat) (qa : Option Addr) (qn qc : Nat) (ra : Option Addr) (rn rc : Nat), k + c = m ∧ i = .int .i64 k ∧ lv = .int .i64 (t.all.length : Int) ∧ bv = .int .i64 (t.low : Int) ∧ t.all.length ≤ k ∧ t.limit = l ∧ dropOk t ∧ LawP C w wr a S t rb (.slice pa pn pc) (.slice qa qn qc) (.slice ra rn rc))
      case atStart => exact ⟨0, S, _, none, 0, 0, none, 0, 0, ra, n.toNat, rc, by omega, rfl, rfl, rfl, Nat.le_refl _, rfl, (fun i hi => (by simp [Tb.new] at hi)), L0.out⟩
      case round =>
        obtain ⟨k, S, t, pa, pn, pc, qa, qn, qc, ra, rn, rc, hk, rfl, rfl, rfl, hkl, hlim, hdr, hL⟩ := hrel
        have A := Lib.hid (show k + gk = m from hk)
        have LL := Lib.hid hL
        have KL := Lib.hid (show t.all.length ≤ k ∧ k ≤ 60 from ⟨hkl, by have h1 := fewsB_len FW.out; have h2 := LN.out; omega⟩)
        have DR := Lib.hid (show t.limit = l ∧ dropOk t from ⟨hlim, hdr⟩)
        obtain ⟨an, han⟩ : ∃ x, t.all.length = x := ⟨_, rfl⟩
        obtain ⟨bn, hbn⟩ : ∃ x, t.low = x := ⟨_, rfl⟩
        have NA := Lib.hid (show t.all.length = an ∧ t.low = bn from ⟨han, hbn⟩)
        rw [han, hbn]
        clear hL hkl L0 hlim hdr han hbn
        by_cases hlt : k < m
        · skip
          obtain ⟨d, hd⟩ : ∃ d, ds[k]? = some d := ⟨_, List.getElem?_eq_getElem (by rw [LN.out]; exact hlt)⟩
          obtain ⟨b, off, la, lc, rfl, ⟨x0, x1, x2, x3, x4⟩, hw, hn⟩ := DV.out.elem hd
          obtain ⟨ln, hln⟩ : ∃ x, d.xs.length = x := ⟨_, rfl⟩
          rw [hln] at x4 hw
          have x0 := cell_step x0 LL.out.pre.low
          have x1 := cell_step x1 LL.out.pre.low
          have x2 := cell_step x2 LL.out.pre.low
          have x3 := cell_step x3 LL.out.pre.low
          have x4 := cell_step x4 LL.out.pre.low
          have XW := Lib.hid hw
          have MY := Lib.hid (fewsB_at FW.out (List.mem_of_getElem? hd) hn)
          have b1 := alloc_below0 wr (doO d.verb d.n d.th d.r (.slice la ln lc))
          have L1 := Lib.hid (LL.out.step b1)
          have j3 : (0 : Int) ≤ (k : Int) := by omega
          have j4 : (k : Int) < (m : Int) := by omega
          have j5 : m ≤ 60 := by have := fewsB_len FW.out; have := LN.out; omega
          obtain ⟨we, hwe⟩ : ∃ x, x = wr.alloc (doO d.verb d.n d.th d.r (.slice la ln lc)) := ⟨_, rfl⟩
          have D1 := DoAt.new d.verb d.n d.th d.r (.slice la ln lc) wr
          rw [← hwe] at L1 D1
          have e0 := D1.c0
          have e1 := D1.c1
          have e2 := D1.c2
          have e3 := D1.c3
          have e4 := D1.c4
          unfold doO at hwe
          have HE := Lib.hid hwe
          clear hd hn hw hln b1 hwe D1
          go_wp2_with (rw [← HE.out]; refine wpList_load_mid rfl 31 (.tmp 8) rfl rb 0 rfl (rtL t (.slice pa pn pc) (.slice qa qn qc) (.slice ra rn rc)) _ (rangeOf L1.out.blk) Tryd.underlying31 rfl rtInfo ?_)
          clear HE x0 x1 x2 x3 x4 e0 e1 e2 e3 e4
          refine (does_any C a S t (.slice pa pn pc) (.slice qa qn qc) (.slice ra rn rc) d (.slice la ln lc) w _ L1.out.pre XW.out MY.out).mono ?_
          rintro ev w2 ⟨S', va', vd', vm', rfl, hI, hV, hoff, hK, hS, hB⟩
          have Q2 := Lib.hid (L1.out.does MY.out (by have := KL.out; omega) hI hV hoff hK hS hB)
          have TL := Lib.hid (step_grow t d)
          have MO := Lib.hid (step_mono t d)
          obtain ⟨t', ht'⟩ : ∃ x, t.step d = x := ⟨_, rfl⟩
          rw [ht'] at hV Q2 TL MO ⊢
          clear ht' hI hoff hK hS hB L1 LL
          obtain ⟨ua, uc, rfl, -, -⟩ := hV.all.lenN rfl
          obtain ⟨sa, sc, rfl, -, -⟩ := hV.drp.lenN rfl
          obtain ⟨za, zc, rfl, -, -⟩ := hV.mks.lenN rfl
          obtain ⟨un, hun⟩ : ∃ x, t'.all.length = x := ⟨_, rfl⟩
          obtain ⟨sn, hsn⟩ : ∃ x, t'.dropped.length = x := ⟨_, rfl⟩
          obtain ⟨zn, hzn⟩ : ∃ x, t'.marks.length = x := ⟨_, rfl⟩
          rw [hun, hsn, hzn] at Q2 ⊢
          have UN := Lib.hid hun
          clear hV hun hsn hzn
          unfold rtV
          have OK := Lib.hid (C.ok Q2.out.pre.inv)
          obtain ⟨bm, hbm⟩ : ∃ x, t'.low = x := ⟨_, rfl⟩
          obtain ⟨cn, hcn⟩ : ∃ x, t'.count = x := ⟨_, rfl⟩
          have DR2 := Lib.hid (show t'.limit = l ∧ dropOk t' from ⟨MO.out.limit.trans DR.out.1, MO.out.drop DR.out.2⟩)
          have BC := Lib.hid (show t'.low = bm ∧ t'.count = cn from ⟨hbm, hcn⟩)
          have q1 : (an : Int) ≤ (un : Int) := by have h1 := MO.out.all; have h2 := UN.out; have h3 := NA.out.1; omega
          have q2 : (bn : Int) ≤ (bm : Int) := by have h1 := MO.out.low; have h3 := NA.out.2; omega
          have q3 : (bm : Int) ≤ (un : Int) := by have h1 := OK.out.low; have h2 := UN.out; omega
          have q4 : (un : Int) ≤ l := by have h1 := OK.out.lim; have h2 := UN.out; have h3 := DR2.out.1; omega
          have q5 : (cn : Int) ≤ (un : Int) := by have h1 := count_le OK.out.len; have h2 := UN.out; omega
          have q6 : (un : Int) - (bm : Int) ≤ (cn : Int) := by have h1 := count_ge DR2.out.2 OK.out.len; have h2 := UN.out; omega
          have q7 : IntKind.i64.wrap ((un : Int) - (bm : Int)) = (un : Int) - (bm : Int) := Go.IntWalk.i64_in _ (by have h1 := Q2.out.pre.len; have h2 := UN.out; omega)
          clear hbm hcn
          go_wp2_with (refine wpList_store_mid rfl 31 (.tmp 8) (.tmp 42) rfl rb 0 (rtL t' (.slice ua un uc) (.slice sa sn sc) (.slice za zn zc)).toArray rfl rfl Q2.out.there rtInfo (rtL_one _ _ _ _ _ _ _ _ _ _) ?_
                       generalize hz : World.setCells _ _ _ _ = wz
                       have E0 := Lib.hid (Q2.out.store hz.symm)
                       clear hz)
          refine (C.last a S' t' _ E0.out.pre.inv).mono ?_
          rintro ev z1 ⟨rfl, hs⟩
          rw [UN.out]
          have E1 := Lib.hid (E0.out.step hs)
          clear hs E0
          go_wp2_with fail
          refine (C.base a S' t' _ E1.out.pre.inv).mono ?_
          rintro ev z2 ⟨rfl, hs⟩
          rw [BC.out.1]
          have E2 := Lib.hid (E1.out.step hs)
          clear hs E1
          go_wp2_with fail
          refine (C.base a S' t' _ E2.out.pre.inv).mono ?_
          rintro ev z3 ⟨rfl, hs⟩
          rw [BC.out.1]
          have E3 := Lib.hid (E2.out.step hs)
          clear hs E2
          go_wp2_with fail
          refine (C.last a S' t' _ E3.out.pre.inv).mono ?_
          rintro ev z4 ⟨rfl, hs⟩
          rw [UN.out]
          have E4 := Lib.hid (E3.out.step hs)
          clear hs E3
          go_wp2_with fail
          refine (C.last a S' t' _ E4.out.pre.inv).mono ?_
          rintro ev z5 ⟨rfl, hs⟩
          rw [UN.out]
          have E5 := Lib.hid (E4.out.step hs)
          clear hs E4
          go_wp2_with fail
          refine (C.count a S' t' _ E5.out.pre.inv (by have := E5.out.pre.len; omega)).mono ?_
          rintro ev z6 ⟨rfl, hs⟩
          rw [BC.out.2]
          have E6 := Lib.hid (E5.out.step hs)
          clear hs E5
          go_wp2_with fail
          refine (C.last a S' t' _ E6.out.pre.inv).mono ?_
          rintro ev z7 ⟨rfl, hs⟩
          rw [UN.out]
          have E7 := Lib.hid (E6.out.step hs)
          clear hs E6
          go_wp2_with fail
          refine (C.count a S' t' _ E7.out.pre.inv (by have := E7.out.pre.len; omega)).mono ?_
          rintro ev z8 ⟨rfl, hs⟩
          rw [BC.out.2]
          have E8 := Lib.hid (E7.out.step hs)
          clear hs E7
          go_wp2_with fail
          refine (C.last a S' t' _ E8.out.pre.inv).mono ?_
          rintro ev z9 ⟨rfl, hs⟩
          rw [UN.out]
          have E9 := Lib.hid (E8.out.step hs)
          clear hs E8
          go_wp2_with fail
          refine (C.base a S' t' _ E9.out.pre.inv).mono ?_
          rintro ev z10 ⟨rfl, hs⟩
          rw [BC.out.1]
          have E10 := Lib.hid (E9.out.step hs)
          clear hs E9
          go_wp2_with fail
          refine (C.last a S' t' _ E10.out.pre.inv).mono ?_
          rintro ev z11 ⟨rfl, hs⟩
          rw [UN.out]
          have E11 := Lib.hid (E10.out.step hs)
          clear hs E10
          go_wp2_with fail
          refine (C.base a S' t' _ E11.out.pre.inv).mono ?_
          rintro ev z12 ⟨rfl, hs⟩
          rw [BC.out.1]
          have E12 := Lib.hid (E11.out.step hs)
          clear hs E11
          go_wp2
          go_roundg (m - (k + 1))
          case measure => have := A.out; omega
          case rel => exact ⟨k + 1, S', t', ua, un, uc, sa, sn, sc, za, zn, zc, by omega, by go_num, by rw [UN.out], by rw [BC.out.1], by have h1 := TL.out; have h2 := KL.out.1; omega, DR2.out.1, DR2.out.2, E12.out⟩
        · obtain rfl : m = k := by have := A.out; omega
          go_wp2_with fail
          refine (awake16 C _).mono ?_
          rintro ev wz ⟨rfl, hs⟩
          have BZ := Lib.hid (LL.out.pre.low.trans (hs.mono LL.out.pre.low.size))
          clear hs
          go_wp2
          go_ret
          exact ⟨rfl, BZ.out⟩
end Go.Proofs.YtkbfhpgcjljbbaaDoor
