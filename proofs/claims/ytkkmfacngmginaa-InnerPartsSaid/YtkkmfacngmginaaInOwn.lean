/- The laws' own 'own' of a chain (layer 8), by a contract: the same chain in memory of its own. -/
import Derived.Test.YtkkmfacngmginaaLfChain
namespace Go.Proofs.Ytkkmfacngmginaa
open Go.RowKit

theorem there_new (w : World) (zs : Array Value) (ty : TypeId) : (w.alloc (.cells zs ty)).there w.heap.size 0 zs.size := fun j hj => by
  refine ⟨?_, World.frozen?_alloc_at _ _ _ _ rfl⟩
  rw [World.cell?_alloc_at _ _ _ _ rfl, Nat.zero_add]
  simp [hj]
/-- a struct laid into a new block of its own -/
theorem put_new (w : World) (zs : Array Value) (ty : TypeId) (cs : List Value) (hn : zs.size = cs.length) :
    Below w.heap.size w ((w.alloc (.cells zs ty)).setCells w.heap.size 0 cs) ∧ ((w.alloc (.cells zs ty)).setCells w.heap.size 0 cs).rangeAt w.heap.size 0 cs :=
  ⟨below_setCells (Nat.le_refl _) cs 0 _ (alloc_below0 w _), World.rangeAt_setCells_same _ _ _ _ (hn ▸ there_new w zs ty)⟩
/-- one more record behind a chain of the call's own -/
theorem ChO.app {base : Nat} {w w' : World} {v v' : Value} {ds : List RcD} {d : RcD} (h : ChO base w v ds) (hd : RcO base w d) (ho : OwnS lRec base w' v' (ds ++ [d])) (hg : w.grownBy w' v.ownBlock) : ChO base w' v' (ds ++ [d]) := by
  have hk : Kept (fun k => v.ownBlock = some k) w w' := (Kept.of_grown hg).wide fun _ _ h => h.symm
  have one : ∀ x, RcO base w x → RcO base w' x := fun x hx => hx.kept hk (OwnS.neB h.own hx.rows (show lRec.ty ≠ lRow.ty by decide)) (OwnS.neB h.own hx.ents (show lRec.ty ≠ lEnt.ty by decide))
  refine ⟨ho, fun x hx => ?_⟩
  rcases List.mem_append.1 hx with hx | hx
  · exact one x (h.all x hx)
  · obtain rfl : x = d := by simpa using hx
    exact one x hd
theorem readC_app (a b : List RcD) : readC (a ++ b) = readC a ++ readC b := by simp [readC]
/-- a record that is laid into a block of its own, as a slice of one -/
theorem one_sv {w : World} {n : Nat} (hn : w.heap.size = n) (d : RcD) : SV lRec (w.alloc (.cells d.cells.toArray 39)) (.slice (some ⟨n, 0, none⟩) 1 1) [d] := by
  have h := OwnS.lit lRec n w n hn [d] (Nat.le_refl _) (show 1 ≤ maxLen by decide)
  have e : lRec.flat [d] = d.cells := by simp [Lay.flat, lRec]
  rw [e] at h
  exact h.sv
set_option maxRecDepth 100000 in
set_option maxHeartbeats 4000000 in
theorem ownI_any (v : Value) (ds : List RcD) (w : World) (hv : ChW w v ds) (hl : ds.length ≤ 1000) :
    Calls Try.prog 10 #[v] w fun ev w' => ∃ v' ds', ev = .returned v' ∧ ChO w.heap.size w' v' ds' ∧ readC ds' = readC ds ∧ Below w.heap.size w w' := by
  have V := Lib.hid hv
  obtain ⟨a, c, rfl, hlc, hcm⟩ := hv.sv.lenform
  obtain ⟨n, hn⟩ : ∃ n, ds.length = n := ⟨_, rfl⟩
  have LN := Lib.hid (show ds.length = n ∧ n ≤ 1000 from ⟨hn, by omega⟩)
  rw [hn] at V hlc hl ⊢
  unfold maxLen at hcm
  clear hv hn
  go_enter Try.func10, Try.ntmps10
  go_wp2
  go_loopg [3, 8] n (fun r va i wz => ∃ (k : Nat) (ds' : List RcD), k + r = n ∧ i = .int .i64 k ∧ ChO w.heap.size wz va ds' ∧ readC ds' = readC (ds.take k) ∧ Below w.heap.size w wz)
  case atStart => exact ⟨0, [], by omega, rfl, ChO.nil _ _, by simp, Below.refl _ _⟩
  case round =>
    obtain ⟨k, ds', hk, rfl, hC, hR, hB⟩ := hrel
    have A := Lib.hid (And.intro hC (And.intro hR (And.intro hB hk)))
    clear hC hR hB
    by_cases hlt : k < n
    · obtain ⟨b, off, ha⟩ := V.out.sv.addr (by rw [LN.out.1]; omega)
      subst ha
      obtain ⟨d, hx⟩ : ∃ d, ds[k]? = some d := ⟨_, List.getElem?_eq_getElem (by rw [LN.out.1]; omega)⟩
      have DV := Lib.hid (V.out.all d (List.mem_of_getElem? hx))
      have T := Lib.hid (show readC (ds.take (k + 1)) = readC (ds.take k) ++ [d.d] ∧ ds'.length = k by
        have hk' : k < ds.length := (List.getElem?_eq_some_iff.1 hx).1
        have e : ds[k] = d := by rw [List.getElem?_eq_getElem hk'] at hx; exact Option.some.inj hx
        refine ⟨by rw [List.take_succ_eq_append_getElem hk', e, readC_app]; rfl, ?_⟩
        have := congrArg List.length A.out.2.1
        simp only [readC, List.length_map, List.length_take] at this
        rw [this, LN.out.1]; omega)
      have hrng : wr.rangeAt b (off + k * 15) d.cells := fun j v hj => cell_step (V.out.sv.cellAt (j := j) hx hj) A.out.2.2.1
      have j1 : (0 : Int) ≤ (k : Int) := by omega
      have j2 : (k : Int) < (n : Int) := by omega
      clear hx
      go_wp2_with (first
        | (refine wpList_load_mid rfl 39 (.tmp 10) rfl b (off + k * 15) rfl d.cells _ hrng Try.underlying39 rfl (by kernel_rfl) ?_)
        | (refine wpList_store_mid rfl 39 (.tmp 5) (.tmp 11) rfl wr.heap.size 0 d.cells.toArray rfl rfl (there_new wr _ _) (by kernel_rfl) (all_oneCell_toArray d.cells_one) ?_
           generalize hw2 : World.setCells _ _ _ _ = w2
           have hq := Lib.hid (show Below wr.heap.size wr w2 ∧ w2.rangeAt wr.heap.size 0 d.cells by rw [← hw2]; exact put_new wr _ _ d.cells rfl)
           have hrng2 := hq.out.2
           clear hw2)
        | (refine wpList_load_mid rfl 39 (.tmp 5) rfl wr.heap.size 0 rfl d.cells _ hrng2 Try.underlying39 rfl (by kernel_rfl) ?_))
      refine (clone_any (.agg d.cells.toArray) d.d _ ⟨d.rv, d.en, rfl, (DV.out.rows.below A.out.2.2.1).below hq.out.1, (DV.out.ents.below A.out.2.2.1).below hq.out.1⟩ DV.out.fitR DV.out.fitE).mono ?_
      rintro ev w3 ⟨rv, en, rfl, o1, o2, hs⟩
      obtain ⟨a1, q1, rfl, -, -⟩ := o1.sv.lenform
      obtain ⟨a2, q2, rfl, -, -⟩ := o2.sv.lenform
      have b3 := hq.out.1.trans (hs.mono hq.out.1.size)
      have hwr := A.out.2.2.1.size
      have D3 := Lib.hid (show RcO w.heap.size w3 ⟨d.sc, a1, q1, a2, q2, d.rows, d.ents⟩ from ⟨o1.mono (Nat.le_trans hwr hq.out.1.size), o2.mono (Nat.le_trans hwr hq.out.1.size), DV.out.sz, DV.out.smallR, DV.out.smallE, DV.out.fitR, DV.out.fitE⟩)
      have C3 := Lib.hid (A.out.1.below b3)
      have B3 := Lib.hid (A.out.2.2.1.trans (b3.mono hwr))
      obtain ⟨d', hd'⟩ : ∃ d' : RcD, d' = ⟨d.sc, a1, q1, a2, q2, d.rows, d.ents⟩ := ⟨_, rfl⟩
      have hrd : d'.d = d.d := by rw [hd']; rfl
      rw [← hd'] at D3
      have bq := alloc_below0 w3 (recObj d.sc (.slice a1 d.rows.length q1) (.slice a2 d.ents.length q2))
      have S4 := Lib.hid (show SV lRec (w3.alloc (recObj d.sc (.slice a1 d.rows.length q1) (.slice a2 d.ents.length q2))) (.slice (some ⟨w3.heap.size, 0, none⟩) 1 1) [d'] by rw [hd']; exact one_sv (w := w3) rfl _)
      have D4 := Lib.hid (D3.out.below bq)
      have C4 := Lib.hid (C3.out.below bq)
      have B4 := Lib.hid (B3.out.trans (bq.mono B3.out.size))
      have RD := Lib.hid hrd
      have LQ := Lib.hid (show ds'.length + 1 ≤ 100000 by have := T.out.2; have := LN.out.2; omega)
      unfold recObj at S4 D4 C4 B4
      unfold recVal RecD.sc RcD.d
      simp only
      clear hd' hs o1 o2 b3 hrng hrng2 hrd bq
      go_wp2_with (at_builtin; go_must (refine wpList_appS lRec 22 Try.underlying22 lRec_known (by decide) (by decide) rfl (.tmp 12) (.tmp 15) rfl w.heap.size rfl rfl C4.out.own S4.out LQ.out B4.out.size ?_; intro v5 w5 ho hg))
      have C5 := Lib.hid (C4.out.app D4.out ho hg)
      have B5 := Lib.hid (B4.out.grown hg B4.out.size (fun k hk => (World.ownsRow.lt C4.out.own k hk).1))
      have R5 := Lib.hid (show readC (ds' ++ [d']) = readC (ds.take (k + 1)) by rw [readC_app, T.out.1, A.out.2.1]; show _ ++ [d'.d] = _; rw [RD.out])
      clear ho hg
      go_wp2
      go_roundg (n - (k + 1))
      case measure => have := A.out.2.2.2; omega
      case rel => exact ⟨k + 1, ds' ++ [d'], by omega, by go_num, C5.out, R5.out, B5.out⟩
    · have hkn : k = n := by omega
      have F := Lib.hid (show readC ds' = readC ds by rw [A.out.2.1, List.take_of_length_le (by rw [LN.out.1]; omega)])
      go_wp2
      go_ret
      exact ⟨_, ds', rfl, A.out.1, F.out, A.out.2.2.1⟩
end Go.Proofs.Ytkkmfacngmginaa
