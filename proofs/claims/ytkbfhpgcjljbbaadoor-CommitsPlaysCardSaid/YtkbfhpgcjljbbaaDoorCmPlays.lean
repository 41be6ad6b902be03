/- The walk of the law CommitsPlays (layer 16). -/
import Derived.Test.YtkbfhpgcjljbbaaDoorCmFews
import Derived.Test.YtkbfhpgcjljbbaaDoorCmAll
namespace Go.Proofs.YtkbfhpgcjljbbaaDoor
open Go.RowKit

theorem DoPre.step {C : CmT} {w0 w w' : World} {a : Addr} {S : Nat → Prop} {t : Tb} {va vd vm : Value} (h : DoPre C w0 w a S t va vd vm) (hb : Below w.heap.size w w') : DoPre C w0 w' a S t va vd vm :=
  ⟨C.step h.inv hb, h.rt.below hb, h.low.trans (hb.mono h.low.size), h.off, h.S0, h.glob, h.len, h.small⟩
structure LawP (C : CmT) (w0 w : World) (a : Addr) (S : Nat → Prop) (t : Tb) (rb : Nat) (va vd vm : Value) : Prop where
  pre : DoPre C w0 w a S t va vd vm
  blk : w.heap[rb]? = some (.cells (rtL t va vd vm).toArray 31 (0, 0))
  nS : ¬ S rb
  nB : ¬ rtB va vd vm rb
  rb0 : w0.heap.size ≤ rb
theorem LawP.step {C : CmT} {w0 w w' : World} {a : Addr} {S : Nat → Prop} {t : Tb} {rb : Nat} {va vd vm : Value} (h : LawP C w0 w a S t rb va vd vm) (hb : Below w.heap.size w w') : LawP C w0 w' a S t rb va vd vm :=
  ⟨h.pre.step hb, blk_step h.blk hb, h.nS, h.nB, h.rb0⟩
/-- behind does: the variable still has what it had, and may be written -/
structure LawQ (C : CmT) (w0 w : World) (a : Addr) (S : Nat → Prop) (t : Tb) (rb : Nat) (va vd vm : Value) : Prop where
  pre : DoPre C w0 w a S t va vd vm
  blk : ∃ L : List Value, L.length = 6 ∧ w.heap[rb]? = some (.cells L.toArray 31 (0, 0))
  nS : ¬ S rb
  nB : ¬ rtB va vd vm rb
  rb0 : w0.heap.size ≤ rb
theorem LawP.does {C : CmT} {w0 w w2 : World} {a : Addr} {S S' : Nat → Prop} {t : Tb} {rb : Nat} {va vd vm va' vd' vm' : Value} {d : DoD} (h : LawP C w0 w a S t rb va vd vm) (hd : d.may) (hlen : t.all.length + 1 ≤ 500)
    (hI : C.Inv w2 a S' (t.step d)) (hV : RtV w0 w2 (t.step d) va' vd' vm') (hoff : ∀ k, rtB va' vd' vm' k → ¬ S' k) (hK : Kept (Mt w S) w w2) (hS : ∀ k, S' k → S k ∨ w.heap.size ≤ k) (hB : ∀ b, rtB va' vd' vm' b → rtB va vd vm b ∨ w.heap.size ≤ b) :
    LawQ C w0 w2 a S' (t.step d) rb va' vd' vm' := by
  have hlt := (Array.getElem?_eq_some_iff.1 h.blk).1
  refine ⟨⟨hI, hV, h.pre.low.trans (hK.mt.below h.pre.S0 h.pre.low.size), hoff, fun k hk => (hS k hk).elim (h.pre.S0 k) (fun e => Nat.le_trans h.pre.low.size e), h.pre.glob, ?_, step_small hd h.pre.small⟩, ⟨_, rfl, blk_keep h.blk hK.mt h.nS⟩, fun hs => (hS rb hs).elim h.nS (fun e => by omega), fun hb => (hB rb hb).elim h.nB (fun e => by omega), h.rb0⟩
  have := step_grow t d
  omega
theorem LawQ.step {C : CmT} {w0 w w' : World} {a : Addr} {S : Nat → Prop} {t : Tb} {rb : Nat} {va vd vm : Value} (h : LawQ C w0 w a S t rb va vd vm) (hb : Below w.heap.size w w') : LawQ C w0 w' a S t rb va vd vm :=
  let ⟨L, h1, h2⟩ := h.blk
  ⟨h.pre.step hb, ⟨L, h1, blk_step h2 hb⟩, h.nS, h.nB, h.rb0⟩
theorem LawQ.there {C : CmT} {w0 w : World} {a : Addr} {S : Nat → Prop} {t : Tb} {rb : Nat} {va vd vm : Value} (h : LawQ C w0 w a S t rb va vd vm) : w.there rb 0 6 := by
  obtain ⟨L, h1, h2⟩ := h.blk
  exact blk_there h2 6 (by simp [h1])
/-- the variable's block is written -/
theorem DoPre.write {C : CmT} {w0 w wz : World} {a : Addr} {S : Nat → Prop} {t : Tb} {rb : Nat} {va vd vm : Value} (h : DoPre C w0 w a S t va vd vm) (nS : ¬ S rb) (nB : ¬ rtB va vd vm rb) (rb0 : w0.heap.size ≤ rb) (hk : Kept (fun k => k = rb) w wz) : DoPre C w0 wz a S t va vd vm :=
  ⟨C.keep h.inv (hk.wide (fun k _ e hs => nS (e ▸ hs))), h.rt.keep hk (fun k hb e => nB (e ▸ hb)), h.low.trans (hk.below (fun k e => by omega) h.low.size), h.off, h.S0, h.glob, h.len, h.small⟩
theorem LawQ.store {C : CmT} {w0 w wz : World} {a : Addr} {S : Nat → Prop} {t : Tb} {rb : Nat} {va vd vm : Value} (h : LawQ C w0 w a S t rb va vd vm) (hz : wz = w.setCells rb 0 (rtL t va vd vm)) : LawP C w0 wz a S t rb va vd vm := by
  obtain ⟨L, h1, h2⟩ := h.blk
  have hk : Kept (fun k => k = rb) w wz := by rw [hz]; exact Kept.setCells (w := w) (b := rb) _ 0 w (Kept.refl _ _)
  exact ⟨h.pre.write h.nS h.nB h.rb0 hk, by rw [hz]; exact list_laid _ h2 (by simp [h1, rtL]), h.nS, h.nB, h.rb0⟩
/-- a new table, and the document's -/
theorem LawP.new {C : CmT} {w0 w1 w2 w3 : World} {a : Addr} {S : Nat → Prop} {n l : Int} {vm : Value} {rb : Nat} (hok : okT n l = true) (hI : C.Inv w1 a S (Tb.new n.toNat l)) (hS : ∀ k, S k → w0.heap.size ≤ k) (hb1 : Below w0.heap.size w0 w1)
    (ho : OwnS lInt w1.heap.size w2 vm (List.replicate n.toNat (-1))) (hb2 : Below w1.heap.size w1 w2) (hb3 : Below w2.heap.size w2 w3) (hblk : w3.heap[rb]? = some (.cells (rtL (Tb.new n.toNat l) (.slice none 0 0) (.slice none 0 0) vm).toArray 31 (0, 0))) (hrb : rb = w2.heap.size) (hg : Ea.Glob w0) :
    LawP C w0 w3 a S (Tb.new n.toNat l) rb (.slice none 0 0) (.slice none 0 0) vm := by
  have hf := C.foot hI
  refine ⟨⟨C.step (C.step hI hb2) hb3, ⟨⟨[], OwnS.nil _ _ _, rfl, fun i s p hs => (by cases hs)⟩, OwnS.nil _ _ _, (ho.mono (Nat.zero_le _)).below hb3⟩, (hb1.trans (hb2.mono hb1.size)).trans (hb3.mono (hb1.trans (hb2.mono hb1.size)).size), fun k hk hs => ?_, hS, hg, Nat.zero_le _, fun p hp => (by cases hp)⟩, hblk, fun hs => ?_, fun hb => ?_, ?_⟩
  · rcases hk with e | e | e
    · cases e
    · cases e
    · have h1 := (ho.bounds k e).1
      have h2 := hf k hs
      omega
  · have h2 := hf rb hs
    have h3 := hb2.size
    omega
  · rcases hb with e | e | e
    · cases e
    · cases e
    · have h1 := (ho.bounds rb e).2
      omega
  · have h1 := hb1.size
    have h3 := hb2.size
    omega

open Go.RowKit

set_option maxRecDepth 100000 in
set_option maxHeartbeats 4000000 in
theorem lawPlays16 (C : CmT) (n l : Int) (v : Value) (ds : List DoD) (w : World) (hv : DosV w v ds) (hg : Ea.Glob w) :
    Calls Tryd.prog 3 #[.int .i64 n, .int .i64 l, v] w fun ev w' => ev = .returned (.bool true) ∧ Below w.heap.size w w' := by
  obtain ⟨da, dc, rfl, dlc, dcm⟩ := hv.lenform
  obtain ⟨m, hm⟩ : ∃ m, ds.length = m := ⟨_, rfl⟩
  rw [hm] at hv dlc ⊢
  have DV := Lib.hid hv
  have LN := Lib.hid hm
  have HG := Lib.hid hg
  have B0 := Lib.hid (Below.refl w.heap.size w)
  unfold maxLen at dcm
  clear hv hm hg
  go_enter Tryd.func3, Tryd.ntmps3
  go_wp2_with fail
  refine (fews_any _ ds _ DV.out).mono ?_
  rintro ev w1 ⟨rfl, hs⟩
  have B1 := Lib.hid (B0.out.trans (hs.mono B0.out.size))
  clear hs
  cases hf : fewsB ds with
  | false =>
    clear hf
    go_wp2_with fail
    refine (awake16 C _).mono ?_
    rintro ev wz ⟨rfl, hs⟩
    have BZ := Lib.hid (B1.out.trans (hs.mono B1.out.size))
    clear hs
    go_wp2
    go_ret
    exact ⟨rfl, BZ.out⟩
  | true =>
    have FW := Lib.hid hf
    clear hf
    cases hok : okT n l with
    | false =>
      have OKT := Lib.hid hok
      clear hok
      go_wp2_with fail
      refine (C.newNo n l _ OKT.out).mono ?_
      rintro ev w2 ⟨rfl, hs⟩
      have B2 := Lib.hid (B1.out.trans (hs.mono B1.out.size))
      clear hs
      go_wp2_with fail
      refine (rf_newNo n l _ OKT.out).mono ?_
      rintro ev w3 ⟨rfl, hs⟩
      have b3 := B2.out.trans (hs.mono B2.out.size)
      have bq := alloc_below0 w3 (.cells (rtN l (.slice none 0 0)).toArray 31)
      have B4 := Lib.hid (b3.trans (bq.mono b3.size))
      unfold rtN at bq B4
      unfold rtN
      clear hs b3 bq
      go_wp2_with fail
      refine (awake16 C _).mono ?_
      rintro ev wz ⟨rfl, hs⟩
      have BZ := Lib.hid (B4.out.trans (hs.mono B4.out.size))
      clear hs
      go_wp2
      go_ret
      exact ⟨rfl, BZ.out⟩
    | true =>
      have OKT := Lib.hid hok
      clear hok
      go_wp2_with fail
      refine (C.new n l _ OKT.out).mono ?_
      rintro ev w2 ⟨a, S, rfl, hI, hS, hs⟩
      have I1 := Lib.hid hI
      have S1 := Lib.hid (show ∀ k, S k → w.heap.size ≤ k from fun k hk => Nat.le_trans B1.out.size (hS k hk))
      have B2 := Lib.hid (B1.out.trans (hs.mono B1.out.size))
      clear hI hS hs
      go_wp2_with fail
      refine (rf_newYes n l _ OKT.out).mono ?_
      rintro ev w3 ⟨vm, rfl, ho, hs⟩
      obtain ⟨ra, rc, rfl, -, -⟩ := ho.lenN (n := n.toNat) (by simp)
      unfold rtV
      have bq := alloc_below0 w3 (.cells (rtL (Tb.new n.toNat l) (.slice none 0 0) (.slice none 0 0) (.slice ra n.toNat rc)).toArray 31)
      obtain ⟨wv, hwv⟩ : ∃ x, x = w3.alloc (.cells (rtL (Tb.new n.toNat l) (.slice none 0 0) (.slice none 0 0) (.slice ra n.toNat rc)).toArray 31) := ⟨_, rfl⟩
      have kq := blk_new w3 (.cells (rtL (Tb.new n.toNat l) (.slice none 0 0) (.slice none 0 0) (.slice ra n.toNat rc)).toArray 31)
      rw [← hwv] at bq kq
      unfold rtL at hwv
      obtain ⟨rb, hrb⟩ : ∃ x, x = w3.heap.size := ⟨_, rfl⟩
      rw [← hrb] at kq
      have L0 := Lib.hid (LawP.new (C := C) (w0 := w) OKT.out I1.out S1.out B2.out ho hs bq kq hrb HG.out)
      have B4 := Lib.hid ((B2.out.trans (hs.mono B2.out.size)).trans (bq.mono (B2.out.trans (hs.mono B2.out.size)).size))
      have HV := Lib.hid (show wv = _ ∧ rb = _ from ⟨hwv, hrb⟩)
      clear ho hs bq kq hwv hrb I1 S1
      go_wp2
      rw [← HV.out.1, ← HV.out.2]
      clear HV
      go_loopg [44] m (fun c i wr => ∃ (k : Nat) (S : Nat → Prop) (t : Tb) (pa : Option Addr) (pn pc : Nat) (qa : Option Addr) (qn qc : Nat) (ra : Option Addr) (rn rc : Nat), k + c = m ∧ i = .int .i64 k ∧ t.all.length ≤ k ∧ LawP C w wr a S t rb (.slice pa pn pc) (.slice qa qn qc) (.slice ra rn rc))
      case atStart => exact ⟨0, S, _, none, 0, 0, none, 0, 0, ra, n.toNat, rc, by omega, rfl, Nat.le_refl _, L0.out⟩
      case round =>
        obtain ⟨k, S, t, pa, pn, pc, qa, qn, qc, ra, rn, rc, hk, rfl, hkl, hL⟩ := hrel
        have A := Lib.hid (show k + gk = m from hk)
        have LL := Lib.hid hL
        have KL := Lib.hid (show t.all.length ≤ k ∧ k ≤ 60 from ⟨hkl, by have h1 := fewsB_len FW.out; have h2 := LN.out; omega⟩)
        clear hL hkl L0
        by_cases hlt : k < m
        · skip
          obtain ⟨d, hd⟩ : ∃ d, ds[k]? = some d := ⟨_, List.getElem?_eq_getElem (by rw [LN.out]; exact hlt)⟩
          obtain ⟨b, off, la, lc, rfl, ⟨x0, x1, x2, x3, x4⟩, hw, hn⟩ := DV.out.elem hd
          obtain ⟨ln, hln⟩ : ∃ x, d.xs.length = x := ⟨_, rfl⟩
          rw [hln] at x4 hw
          have x0 := cell_step x0 LL.out.pre.low
          have x1 := cell_step x1 LL.out.pre.low
          have x2 := cell_step x2 LL.out.pre.low
          have x3 := cell_step x3 LL.out.pre.low
          have x4 := cell_step x4 LL.out.pre.low
          have XW := Lib.hid hw
          have MY := Lib.hid (fewsB_at FW.out (List.mem_of_getElem? hd) hn)
          have b1 := alloc_below0 wr (doO d.verb d.n d.th d.r (.slice la ln lc))
          have L1 := Lib.hid (LL.out.step b1)
          have j3 : (0 : Int) ≤ (k : Int) := by omega
          have j4 : (k : Int) < (m : Int) := by omega
          have j5 : m ≤ 60 := by have := fewsB_len FW.out; have := LN.out; omega
          obtain ⟨we, hwe⟩ : ∃ x, x = wr.alloc (doO d.verb d.n d.th d.r (.slice la ln lc)) := ⟨_, rfl⟩
          have D1 := DoAt.new d.verb d.n d.th d.r (.slice la ln lc) wr
          rw [← hwe] at L1 D1
          have e0 := D1.c0
          have e1 := D1.c1
          have e2 := D1.c2
          have e3 := D1.c3
          have e4 := D1.c4
          unfold doO at hwe
          have HE := Lib.hid hwe
          clear hd hn hw hln b1 hwe D1
          go_wp2_with (rw [← HE.out]; refine wpList_load_mid rfl 31 (.tmp 8) rfl rb 0 rfl (rtL t (.slice pa pn pc) (.slice qa qn qc) (.slice ra rn rc)) _ (rangeOf L1.out.blk) Tryd.underlying31 rfl rtInfo ?_)
          clear HE x0 x1 x2 x3 x4 e0 e1 e2 e3 e4
          refine (does_any C a S t (.slice pa pn pc) (.slice qa qn qc) (.slice ra rn rc) d (.slice la ln lc) w _ L1.out.pre XW.out MY.out).mono ?_
          rintro ev w2 ⟨S', va', vd', vm', rfl, hI, hV, hoff, hK, hS, hB⟩
          have Q2 := Lib.hid (L1.out.does MY.out (by have := KL.out; omega) hI hV hoff hK hS hB)
          have TL := Lib.hid (step_grow t d)
          obtain ⟨t', ht'⟩ : ∃ x, t.step d = x := ⟨_, rfl⟩
          rw [ht'] at hV Q2 TL ⊢
          clear ht' hI hoff hK hS hB L1 LL
          obtain ⟨ua, uc, rfl, -, -⟩ := hV.all.lenN rfl
          obtain ⟨sa, sc, rfl, -, -⟩ := hV.drp.lenN rfl
          obtain ⟨za, zc, rfl, -, -⟩ := hV.mks.lenN rfl
          obtain ⟨un, hun⟩ : ∃ x, t'.all.length = x := ⟨_, rfl⟩
          obtain ⟨sn, hsn⟩ : ∃ x, t'.dropped.length = x := ⟨_, rfl⟩
          obtain ⟨zn, hzn⟩ : ∃ x, t'.marks.length = x := ⟨_, rfl⟩
          rw [hun, hsn, hzn] at Q2 ⊢
          clear hV hun hsn hzn
          unfold rtV
          have bq := alloc_below0 w2 (.cells (rtL t' (.slice ua un uc) (.slice sa sn sc) (.slice za zn zc)).toArray 31)
          have kq := blk_new w2 (.cells (rtL t' (.slice ua un uc) (.slice sa sn sc) (.slice za zn zc)).toArray 31)
          obtain ⟨w3, hw3⟩ : ∃ x, x = w2.alloc (.cells (rtL t' (.slice ua un uc) (.slice sa sn sc) (.slice za zn zc)).toArray 31) := ⟨_, rfl⟩
          rw [← hw3] at bq kq
          have Q3 := Lib.hid (Q2.out.step bq)
          have KQ := Lib.hid kq
          unfold rtL at hw3
          have H3 := Lib.hid hw3
          clear bq kq hw3
          go_wp2_with (first
            | (rw [← H3.out]; refine wpList_load_mid rfl 31 (.tmp 12) rfl w2.heap.size 0 rfl (rtL t' (.slice ua un uc) (.slice sa sn sc) (.slice za zn zc)) _ (rangeOf KQ.out) Tryd.underlying31 rfl rtInfo ?_)
            | (rw [← H3.out]; refine wpList_store_mid rfl 31 (.tmp 8) (.tmp 55) rfl rb 0 (rtL t' (.slice ua un uc) (.slice sa sn sc) (.slice za zn zc)).toArray rfl rfl Q3.out.there rtInfo (rtL_one _ _ _ _ _ _ _ _ _ _) ?_
               generalize hz : World.setCells _ _ _ _ = wz
               have LZ := Lib.hid (Q3.out.store hz.symm)
               have k0 := (show _ = some (Value.int .i64 t'.limit) from blk_cell LZ.out.blk 0)
               have k1 := (show _ = some (Value.int .i64 (t'.low : Int)) from blk_cell LZ.out.blk 1)
               have k2 := (show _ = some (Value.slice ua un uc) from blk_cell LZ.out.blk 2)
               have k3 := (show _ = some (Value.slice sa sn sc) from blk_cell LZ.out.blk 3)
               have k4 := (show _ = some (Value.slice za zn zc) from blk_cell LZ.out.blk 4)
               have k5 := (show _ = some (Value.int .i64 t'.holder) from blk_cell LZ.out.blk 5)
               clear hz)
            | (refine wpList_store_mid rfl 31 (.tmp 8) (.tmp 55) rfl rb 0 (rtL t' (.slice ua un uc) (.slice sa sn sc) (.slice za zn zc)).toArray rfl rfl Q3.out.there rtInfo (rtL_one _ _ _ _ _ _ _ _ _ _) ?_
               generalize hz : World.setCells _ _ _ _ = wz
               have LZ := Lib.hid (Q3.out.store hz.symm)
               have k0 := (show _ = some (Value.int .i64 t'.limit) from blk_cell LZ.out.blk 0)
               have k1 := (show _ = some (Value.int .i64 (t'.low : Int)) from blk_cell LZ.out.blk 1)
               have k2 := (show _ = some (Value.slice ua un uc) from blk_cell LZ.out.blk 2)
               have k3 := (show _ = some (Value.slice sa sn sc) from blk_cell LZ.out.blk 3)
               have k4 := (show _ = some (Value.slice za zn zc) from blk_cell LZ.out.blk 4)
               have k5 := (show _ = some (Value.int .i64 t'.holder) from blk_cell LZ.out.blk 5)
               clear hz)
            | (refine wpList_load_mid rfl 31 (.tmp 8) rfl rb 0 rfl (rtL t' (.slice ua un uc) (.slice sa sn sc) (.slice za zn zc)) _ (rangeOf LZ.out.blk) Tryd.underlying31 rfl rtInfo ?_))
          refine (all_any C a S' t' _ _ _ w _ LZ.out.pre).mono ?_
          rintro ev w6 ⟨rfl, hs⟩
          have L6 := Lib.hid (LZ.out.step hs)
          clear hs k0 k1 k2 k3 k4 k5
          go_wp2
          go_roundg (m - (k + 1))
          case measure => have := A.out; omega
          case rel => exact ⟨k + 1, S', t', ua, un, uc, sa, sn, sc, za, zn, zc, by omega, by go_num, by have h1 := TL.out; have h2 := KL.out.1; omega, L6.out⟩
        · obtain rfl : m = k := by have := A.out; omega
          go_wp2_with fail
          refine (awake16 C _).mono ?_
          rintro ev wz ⟨rfl, hs⟩
          have BZ := Lib.hid (LL.out.pre.low.trans (hs.mono LL.out.pre.low.size))
          clear hs
          go_wp2
          go_ret
          exact ⟨rfl, BZ.out⟩
end Go.Proofs.YtkbfhpgcjljbbaaDoor
