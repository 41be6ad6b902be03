/- Package commits' Trim, by contract (layer 16). -/
import Derived.Test.YtkbfhpgcjljbbaaDoorCmPut
namespace Go.Proofs.YtkbfhpgcjljbbaaDoor
set_option linter.unusedVariables false
set_option linter.unusedSimpArgs false
open Go.RowKit Go.Maps

theorem dropL_len {d n : Nat} (h : d ≤ n) : (dropL d n).length = n := by unfold dropL; simp; omega
theorem dropL_get {d n : Nat} (hd : d ≤ n) (j : Nat) : (dropL d n)[j]? = if j < n then some (decide (j < d)) else none := by
  unfold dropL
  by_cases h : j < d
  · rw [List.getElem?_append_left (by simp; exact h), List.getElem?_replicate, if_pos h, if_pos (by omega)]
    simp [h]
  · rw [List.getElem?_append_right (by simp; omega), List.getElem?_replicate]
    simp only [List.length_replicate]
    by_cases h2 : j < n
    · rw [if_pos (by omega), if_pos h2]; simp [h]
    · rw [if_neg (by omega), if_neg h2]
theorem cut_get (n : Int) (low : Nat) : ∀ (l : List Bool) (i j : Nat), (Tb.cut n low i l)[j]? = l[j]?.map (fun b => b || (decide (((i + j : Nat) : Int) < n) && decide (i + j < low)))
  | [], i, j => by simp [Tb.cut]
  | b :: bs, i, 0 => by simp [Tb.cut]
  | b :: bs, i, j + 1 => by
    simp only [Tb.cut, List.getElem?_cons_succ]
    rw [cut_get n low bs (i + 1) j, show i + 1 + j = i + (j + 1) by omega]
theorem cut_dropL {n : Int} {low d len e : Nat} (hd : d ≤ len) (hle : e ≤ len) (he : ∀ j : Nat, (j < e) ↔ (j < d ∨ ((j : Int) < n ∧ j < low))) : Tb.cut n low 0 (dropL d len) = dropL e len := by
  apply List.ext_getElem?
  intro j
  rw [cut_get, dropL_get hd, dropL_get hle]
  by_cases h : j < len
  · rw [if_pos h, if_pos h, Option.map_some]
    congr 1
    have := he j
    rw [Nat.zero_add]
    by_cases h1 : j < e
    · rw [decide_eq_true h1]
      rcases this.1 h1 with h2 | ⟨h2, h3⟩
      · simp [h2]
      · simp [h2, h3]
    · have h2 : ¬ (j < d ∨ ((j : Int) < n ∧ j < low)) := fun q => h1 (this.2 q)
      have h3 : ¬ j < d := fun q => h2 (.inl q)
      have h4 : ¬ ((j : Int) < n ∧ j < low) := fun q => h2 (.inr q)
      simp only [h1, h3, decide_false, Bool.false_or]
      rw [← Bool.decide_and]
      exact decide_eq_false h4
  · rw [if_neg h, if_neg h]; rfl
theorem cutN_count (n : Int) (low : Nat) : ∀ (l : List Bool) (i : Nat), Tb.cutN n low i l + Tb.countB (Tb.cut n low i l) = Tb.countB l
  | [], _ => rfl
  | b :: bs, i => by
    have ih := cutN_count n low bs (i + 1)
    simp only [Tb.cutN, Tb.cut, Tb.countB]
    generalize (decide ((i : Int) < n) && decide (i < low)) = q
    cases b <;> cases q <;> simp <;> omega
theorem countB_app : ∀ a b : List Bool, Tb.countB (a ++ b) = Tb.countB a + Tb.countB b
  | [], _ => by simp [Tb.countB]
  | x :: a, b => by simp [Tb.countB, countB_app a b]; omega
theorem countB_true : ∀ d, Tb.countB (List.replicate d true) = 0
  | 0 => rfl
  | d + 1 => by rw [List.replicate_succ, Tb.countB, countB_true d]; rfl
theorem countB_false : ∀ d, Tb.countB (List.replicate d false) = d
  | 0 => rfl
  | d + 1 => by rw [List.replicate_succ, Tb.countB, countB_false d]; simp; omega
theorem countB_dropL (d n : Nat) : Tb.countB (dropL d n) = n - d := by unfold dropL; rw [countB_app, countB_true, countB_false]; omega
/-- the table with just the first e commits dropped -/
def Tb.drp (t : Tb) (e : Nat) : Tb := { t with dropped := dropL e t.all.length }
theorem Tb.drp_ok {t : Tb} (h : t.ok) {e : Nat} (he : e ≤ t.all.length) : (t.drp e).ok := ⟨dropL_len he, h.low, h.lim, h.max, h.marks, h.mark, h.small, h.holder⟩
theorem TabAt.isDrp {w : World} {b cm mm : Nat} {S : Nat → Prop} {t : Tb} {d : Nat} {V : Nat → Value} (h : TabAt w b cm mm S t d V) : t.drp d = t := by
  unfold Tb.drp; rw [← h.drp]
section
variable {w wa W2 w4 : World} {b cm mm : Nat} {S : Nat → Prop} {t : Tb} {d : Nat} {V : Nat → Value}
/-- one commit more is dropped -/
theorem TabAt.dropTo (h : TabAt wa b cm mm S (t.drp d) d V) (hd : d + 1 ≤ t.low) (k1 : Kept (fun k => k = b) wa W2) (b2 : W2.heap[b]? = some (.cells (tbC (t.drp (d + 1)) (d + 1) cm mm) 56 (0, 0)))
    {D : DataW Value} (hD : MapF W2 cm (.slice none 0 0) (comF t.all.length d V) (t.all.length - d) D) {m : Nat} (hn : w4.ownsMap Tryd.prog 3 heldR cm m (D.del (kN (((d + 1 : Nat) : Int))))) (h4 : Kept (fun k => k = cm) W2 w4) :
    TabAt w4 b cm mm S (t.drp (d + 1)) (d + 1) V := by
  have dn : d + 1 ≤ t.all.length := Nat.le_trans hd h.ok.low
  have wx : wfN ((d + 1 : Nat) : Int) := wfN_of (by omega) (by have h1 : (t.all.length : Int) ≤ t.limit := h.ok.lim; have h2 : t.limit ≤ 1099511627776 := h.ok.max; omega)
  have q := hD.del wx hn
  rw [comF_in (n := t.all.length) (d := d) (x := ((d + 1 : Nat) : Int)) (by omega) (by omega)] at q
  refine ⟨Tb.drp_ok (t := t.drp d) h.ok (by exact dn), rfl, hd, (h4.block b (Array.getElem?_eq_some_iff.1 b2).1 h.bc).trans b2, ⟨_, q.turn (fun x => comF_del _ _ _ x) (by simp; show _ = t.all.length - (d + 1); omega)⟩, ?_, ?_, h.Sb, h.Sc, h.Sm, h.ne, ?_⟩
  · obtain ⟨D2, q2⟩ := h.mks
    exact ⟨D2, (q2.keep k1 h.bm.symm).keep h4 h.ne.symm⟩
  · intro i ys hi hd2
    obtain ⟨q1, q2⟩ := h.wr i ys hi (by omega)
    exact ⟨(q1.keptN k1 (fun k ek e => h.nW (e ▸ q1.isW k ek))).keptN h4 (fun k ek e => h.nC (e ▸ q1.isW k ek)), q2⟩
  · intro k hk
    exact Nat.lt_of_lt_of_le (h.lt k hk) (Nat.le_trans k1.size h4.size)
end
set_option maxRecDepth 100000 in
set_option maxHeartbeats 4000000 in
theorem trim16 (w : World) (b cm mm : Nat) (S : Nat → Prop) (t : Tb) (d : Nat) (V : Nat → Value) (h : TabAt w b cm mm S t d V) (hlen : t.all.length ≤ 1000) (x : Int) (hx : -9223372036854775808 ≤ x ∧ x ≤ 9223372036854775807) :
    Calls Tryd.prog 34 #[.pointer (some ⟨b, 0, none⟩), .int .i64 x] w (TbDone InvT w ⟨b, 0, none⟩ S (t.trim x) (.int .i64 (t.trimN x : Int))) := by
  obtain ⟨ln, hln⟩ : ∃ l, t.low = l := ⟨_, rfl⟩
  obtain ⟨m, hm⟩ : ∃ m : Int, (if (ln : Int) < x then (ln : Int) else x) = m := ⟨_, rfl⟩
  have hm1 : m ≤ x ∧ m ≤ ln ∧ (m = x ∨ m = ln) := by rw [← hm]; split <;> omega
  obtain ⟨e, he⟩ : ∃ e : Nat, e = max d m.toNat := ⟨_, rfl⟩
  have hmin : ∀ (w : World) (ts : Array TypeId) (ty : TypeId), (Builtin.min_ ts ty #[.int .i64 x, .int .i64 (ln : Int)]).run Tryd.prog w = .ok (.int .i64 m) w := fun w ts ty => by
    rw [run_min_int2, hm]
  have dl : d ≤ ln := by have := h.dlow; omega
  have ll : ln ≤ t.all.length := by have := h.ok.low; omega
  have E := Lib.hid (show d ≤ e ∧ e ≤ ln ∧ m ≤ e ∧ (d < e → (e : Int) = m) ∧ t.low = ln ∧ ln ≤ t.all.length ∧ ln ≤ 1000 from ⟨by omega, by omega, by omega, by omega, hln, ll, by omega⟩)
  have FT := Lib.hid (show t.trim x = t.drp e ∧ (t.trimN x : Int) = (e : Int) - (d : Int) by
    have q1 : Tb.cut x t.low 0 t.dropped = dropL e t.all.length := by
      rw [h.drp]
      exact cut_dropL h.dn (by omega) (fun j => by rw [hln]; omega)
    have q2 := cutN_count x t.low t.dropped 0
    rw [q1, countB_dropL, h.drp, countB_dropL] at q2
    refine ⟨by unfold Tb.trim Tb.drp; rw [q1], ?_⟩
    unfold Tb.trimN
    rw [h.drp]
    omega)
  have I := Lib.hid h
  have T0 := Lib.hid (show TabAt w b cm mm S (t.drp d) d V by rw [h.isDrp]; exact h)
  have c4 := h.c4
  clear h hm hm1 he dl ll hx hlen hln
  go_enter Tryd.func34, Tryd.ntmps34
  go_wp2
  clear c4
  go_loopg [] (e - d) (fun c wr => ∃ k : Nat, k + c = e ∧ d ≤ k ∧ TabAt wr b cm mm S (t.drp k) k V ∧ Kept (Mt w S) w wr)
  case atStart => exact ⟨d, by have := E.out.1; omega, Nat.le_refl _, T0.out, Kept.refl _ _⟩
  case round =>
    obtain ⟨k, hk, hdk, hT, hK⟩ := hrel
    have A := Lib.hid (show k + gk = e ∧ d ≤ k ∧ Kept (Mt w S) w wr from ⟨hk, hdk, hK⟩)
    have T := Lib.hid hT
    have c4 := hT.c4
    have c3 : wr.cell? ⟨b, 3, none⟩ = some (.int .i64 (ln : Int)) := by rw [hT.c3]; show some (Value.int .i64 (t.low : Int)) = _; rw [E.out.2.2.2.2.1]
    have f4 := blk_free hT.blk 4
    clear hT hK hk hdk
    by_cases hlt : (k : Int) < m
    · have LT := Lib.hid (show k < e by have h1 := E.out; omega)
      have i1 : IntKind.i64.wrap ((k : Int) + 1) = (k : Int) + 1 := Go.IntWalk.i64_in _ (by have h1 := E.out; have h2 := LT.out; omega)
      go_wp2
      go_quiet (fail)
      go_wp2
      have KN := Lib.hid (A.out.2.2.trans (Kept.of_below (S := Mt w S) (below_drewN (Below.refl _ wr) nq)))
      have TN := Lib.hid (T.out.step (below_drewN (Below.refl _ wr) nq))
      obtain ⟨wa, hwa⟩ : ∃ x, x = wr.drewN nq := ⟨_, rfl⟩
      rw [← hwa] at KN TN ⊢
      clear hwa c4 c3 f4
      have k2 := blk_set TN.out.blk 4 (.int .i64 ((k : Int) + 1))
      have ek : (tbC (t.drp k) k cm mm).setIfInBounds 4 (.int .i64 ((k : Int) + 1)) = tbC (t.drp (k + 1)) (k + 1) cm mm := rfl
      rw [ek] at k2
      obtain ⟨D, hD⟩ := TN.out.com
      have kb : Kept (fun k => k = b) wa (wa.setCell ⟨b, 4, none⟩ (.int .i64 ((k : Int) + 1))) := (Kept.refl _ _).setCell 4 _
      have hD2 := hD.keep kb TN.out.bc.symm
      obtain ⟨W2, hW2⟩ : ∃ x, x = wa.setCell ⟨b, 4, none⟩ (.int .i64 ((k : Int) + 1)) := ⟨_, rfl⟩
      rw [← hW2] at k2 hD2 kb ⊢
      clear hW2 ek hD
      have q0 : Below W2.heap.size W2 W2.drew := (Below.refl _ W2).drew
      refine anyH_region (fun w' => w'.cell? ⟨b, 5, none⟩ = some (.map (some cm)) ∧ w'.cell? ⟨b, 4, none⟩ = some (.int .i64 ((k : Int) + 1))) (by kernel_rfl) ?_
      generalize (World.drew W2) = wd at *
      have b2 := blk_step k2 q0
      have c5 : wd.cell? ⟨b, 5, none⟩ = some (.map (some cm)) := by rw [blk_cell b2]; rfl
      have c4 : wd.cell? ⟨b, 4, none⟩ = some (.int .i64 ((k : Int) + 1)) := by rw [blk_cell b2]; rfl
      have MD := Lib.hid (hD2.low q0)
      have KB := Lib.hid (kb.trans (Kept.of_below q0))
      have B2 := Lib.hid b2
      clear hD2 kb q0 k2 b2
      refine wpAnyH_take (i := 0) (oi := ⟨some 30, _, _, _, _, _⟩) (v := ?vp1) rfl (by kernel_rfl) (by kernel_rfl) (by kernel_rfl) (fun _ _ _ h => h) (Or.inl ⟨by rfl, ?hyp1⟩) ⟨c5, c4⟩ ?restp1
      case hyp1 => (intro w hSw; obtain ⟨q0, q1⟩ := hSw; go_simp; try (with_reducible rfl))
      simp only [Act.put, List.setIfInBounds_toArray, List.set_cons_zero, List.set_cons_succ]
      refine wpAnyH_take (i := 1) (oi := ⟨some 31, _, _, _, _, _⟩) (v := ?vp2) rfl (by kernel_rfl) (by kernel_rfl) (by kernel_rfl) (fun _ _ _ h => h) (Or.inl ⟨by rfl, ?hyp2⟩) ⟨c5, c4⟩ ?restp2
      case hyp2 => (intro w hSw; obtain ⟨q0, q1⟩ := hSw; go_simp; try (with_reducible rfl))
      simp only [Act.put, List.setIfInBounds_toArray, List.set_cons_zero, List.set_cons_succ]
      refine wpAnyH_take (i := 2) (oi := ⟨some 32, _, _, _, _, _⟩) (v := ?vp3) rfl (by kernel_rfl) (by kernel_rfl) (by kernel_rfl) (fun _ _ _ h => h) (Or.inl ⟨by rfl, ?hyp3⟩) ⟨c5, c4⟩ ?restp3
      case hyp3 => (intro w hSw; obtain ⟨q0, q1⟩ := hSw; go_simp; try (with_reducible rfl))
      simp only [Act.put, List.setIfInBounds_toArray, List.set_cons_zero, List.set_cons_succ]
      refine wpAnyH_take (i := 3) (oi := ⟨some 33, _, _, _, _, _⟩) (v := ?vp4) rfl (by kernel_rfl) (by kernel_rfl) (by kernel_rfl) (fun _ _ _ h => h) (Or.inl ⟨by rfl, ?hyp4⟩) ⟨c5, c4⟩ ?restp4
      case hyp4 => (intro w hSw; obtain ⟨q0, q1⟩ := hSw; go_simp; try (with_reducible rfl))
      simp only [Act.put, List.setIfInBounds_toArray, List.set_cons_zero, List.set_cons_succ]
      refine wpAnyH_take (i := 4) (oi := ⟨some 34, _, _, _, _, _⟩) (v := ?vp5) rfl (by kernel_rfl) (by kernel_rfl) (by kernel_rfl) (fun _ _ _ h => h) (Or.inl ⟨by rfl, ?hyp5⟩) ⟨c5, c4⟩ ?restp5
      case hyp5 => (intro w hSw; obtain ⟨q0, q1⟩ := hSw; go_simp; try (with_reducible rfl))
      simp only [Act.put, List.setIfInBounds_toArray, List.set_cons_zero, List.set_cons_succ]
      refine wpAnyH_take (i := 5) (oi := ⟨some 35, _, _, _, _, _⟩) (v := ?vp6) rfl (by kernel_rfl) (by kernel_rfl) (by kernel_rfl) (fun _ _ _ h => h) (Or.inl ⟨by rfl, ?hyp6⟩) ⟨c5, c4⟩ ?restp6
      case hyp6 => (intro w hSw; obtain ⟨q0, q1⟩ := hSw; go_simp; try (with_reducible rfl))
      simp only [Act.put, List.setIfInBounds_toArray, List.set_cons_zero, List.set_cons_succ]
      refine wpAnyH_take (i := 6) (oi := ⟨some 36, _, _, _, _, _⟩) (v := ?vp7) rfl (by kernel_rfl) (by kernel_rfl) (by kernel_rfl) (fun _ _ _ h => h) (Or.inl ⟨by rfl, ?hyp7⟩) ⟨c5, c4⟩ ?restp7
      case hyp7 => (intro w hSw; obtain ⟨q0, q1⟩ := hSw; go_simp; try (with_reducible rfl))
      simp only [Act.put, List.setIfInBounds_toArray, List.set_cons_zero, List.set_cons_succ]
      refine wpAnyH_take (i := 7) (oi := ⟨some 37, _, _, _, _, _⟩) (v := ?vp8) rfl (by kernel_rfl) (by kernel_rfl) (by kernel_rfl) (fun _ _ _ h => h) (Or.inl ⟨by rfl, ?hyp8⟩) ⟨c5, c4⟩ ?restp8
      case hyp8 => (intro w hSw; obtain ⟨q0, q1⟩ := hSw; go_simp; try (with_reducible rfl))
      simp only [Act.put, List.setIfInBounds_toArray, List.set_cons_zero, List.set_cons_succ]
      have WX := Lib.hid (show wfN ((k : Int) + 1) from wfN_of (by omega) (by have h1 := E.out; have h2 := LT.out; omega))
      refine anyH_one (i := 8) (o := ⟨none, _, _, _, _, _⟩) (by kernel_rfl) rfl (fun K hK => ?_)
      rw [if_pos (by rfl)]
      refine wp_delete_own (.tmp 33) (.tmp 37) 53 3 rfl 50 keyN Tryd.underlying53 heldR cm _ D rfl MD.out.own _ _ rfl (keyN_of WX.out) ?_
      intro w4 hown hturn
      have K4 := Lib.hid ((Kept.of_grown hturn.grown).wide (T := fun k => k = cm) (fun k _ e => Option.some.inj e))
      refine hK.out _ _ ⟨K4.out.cell TN.out.bc c5, K4.out.cell TN.out.bc c4⟩ ?_
      clear hK K
      try simp only [Act.put]
      refine wpAnyH_done (by kernel_rfl) ?_ _
      have F := Lib.hid (TN.out.dropTo (by have h1 := E.out; have h2 := LT.out; omega) KB.out B2.out MD.out hown K4.out)
      have KF := Lib.hid (show Kept (Mt w S) w w4 from (KN.out.trans (KB.out.wide (fun k _ e => I.out.mt k (.inl e)))).trans (K4.out.wide (fun k _ e => I.out.mt k (.inr (.inl e)))))
      clear c5 c4 hown hturn
      go_wp2
      go_roundg (e - (k + 1))
      case measure => have h1 := A.out; have h2 := LT.out; omega
      case rel => exact ⟨k + 1, by have h2 := LT.out; omega, by have h1 := A.out; omega, F.out, KF.out⟩
    · have EQ := Lib.hid (show k = e by have h1 := E.out; have h2 := A.out; omega)
      have i1 : IntKind.i64.wrap ((k : Int) - (d : Int)) = (k : Int) - (d : Int) := Go.IntWalk.i64_in _ (by have h1 := E.out; have h2 := EQ.out; omega)
      go_wp2
      go_quiet (fail)
      go_wp2
      go_ret
      have eq := EQ.out
      subst eq
      exact ⟨S, by rw [FT.out.2]; rfl, ⟨b, cm, mm, k, V, rfl, by rw [FT.out.1]; exact T.out.step (below_drewN (Below.refl _ wr) nq)⟩, A.out.2.2.trans (Kept.of_below (below_drewN (Below.refl _ wr) nq)), fun k hk => .inl hk⟩
end Go.Proofs.YtkbfhpgcjljbbaaDoor
