/- Package commits' Append, by contract (layer 16). -/
import Derived.Test.YtkbfhpgcjljbbaaDoorCmSet
import Derived.Test.YtkbfhpgcjljbbaaDoorCmRgt
import Derived.Test.YtkbfhpgcjljbbaaDoorCmAny
namespace Go.Proofs.YtkbfhpgcjljbbaaDoor
set_option linter.unusedVariables false
set_option linter.unusedSimpArgs false
open Go.RowKit Go.Maps

theorem wp_mapUpdate_own {H : Type} {P : Program} {w : World} {o : Oper} {a : Act} {K' : Act → World → Prop} {Q : Exit → Act → World → Prop}
    (m x v : Operand) (t : TypeId) (hop : o.op = Op.mapUpdate t m x v)
    (k e : TypeId) (K : Keyed P k) (ht : P.underlying t = some (.map k e)) (R : Value → Option (DataW H × List MemPlace)) (b n : Nat) (D : DataW H)
    (hm : a.eval m = .map (some b)) (hown : w.ownsMap P k R b n D) (hn : n < maxLen) (key val : Value) (kl : Lit) (hx : a.eval x = key) (hv : a.eval v = val) (hkey : keyOf P k key = some kl)
    (d : DataW H) (ps : List MemPlace) (hval : R val = some (d, ps))
    (hK : ∀ w', w'.ownsMap P k R b (n + 1) (D.put kl d) → w.grownBy w' (some b) → K' (a.put o.dst undef) w') : o.wp P a w K' Q := by
  obtain ⟨w', hrun, r1, r2⟩ := hown.update K ht hn hkey hval
  unfold Oper.wp
  simp [execOp, hop, hm, hx, hv, hrun, Result.andThen]
  exact hK w' r1 r2
theorem wp_delete_own {H : Type} {P : Program} {w : World} {o : Oper} {a : Act} {K' : Act → World → Prop} {Q : Exit → Act → World → Prop}
    (m x : Operand) (t k : TypeId) (hop : o.op = Op.call { callee := Callee.builtin Builtin.delete, args := #[m, x], argTypes := #[t, k] })
    (e : TypeId) (K : Keyed P k) (ht : P.underlying t = some (.map k e)) (R : Value → Option (DataW H × List MemPlace)) (b n : Nat) (D : DataW H)
    (hm : a.eval m = .map (some b)) (hown : w.ownsMap P k R b n D) (key : Value) (kl : Lit) (hx : a.eval x = key) (hkey : keyOf P k key = some kl)
    (hK : ∀ w', w'.ownsMap P k R b n (D.del kl) → w.mapTurned w' b → K' (a.put o.dst (.tuple #[])) w') : o.wp P a w K' Q := by
  obtain ⟨w', hrun, r1, r2⟩ := hown.drop K ht hkey o.type
  unfold Oper.wp
  simp [execOp, hop, resolve, invoke, builtin, hm, hx, hrun, Result.andThen]
  exact hK w' r1 r2
theorem dropL_snoc {d n : Nat} (h : d ≤ n) : dropL d n ++ [false] = dropL d (n + 1) := by
  unfold dropL
  rw [List.append_assoc, show n + 1 - d = (n - d) + 1 by omega, List.replicate_succ']
/-- a slice of writes is no part of a block that holds a number first -/
theorem SV.notBlk {w : World} {a : Addr} {n c : Nat} {xs : List Wr} (h : SV lPw w (.slice (some a) n c) xs) (hne : xs ≠ []) {b : Nat} {cs : Array Value} {T : TypeId} (hb : w.heap[b]? = some (.cells cs T (0, 0))) (hcs : ∀ (i : Nat) (s : ByteArray), cs[i]? ≠ some (.string s)) : a.block ≠ b := by
  intro e
  obtain ⟨a', cap', h1, h2, h3, h4, b', off', h5, h6⟩ := h
  obtain ⟨e1, -, -⟩ := Value.slice.inj h1
  obtain rfl := e1
  cases xs with
  | nil => exact hne rfl
  | cons x xs =>
    obtain rfl := h5 (by simp) a rfl
    have := h6 0 (.string x.1) (by simp [Lay.flat, lPw])
    subst e
    rw [blk_cell hb] at this
    exact hcs _ _ this
theorem tbC_str (t : Tb) (d cm mm : Nat) (i : Nat) (s : ByteArray) : (tbC t d cm mm)[i]? ≠ some (.string s) := by
  unfold tbC
  match i with
  | 0 => simp
  | 1 => simp
  | 2 => simp
  | 3 => simp
  | 4 => simp
  | 5 => simp
  | 6 => simp
  | 7 => simp
  | n + 8 => simp
section
variable {w w1 w3 w4 : World} {b cm mm : Nat} {S : Nat → Prop} {t t' : Tb} {d : Nat} {V : Nat → Value}
/-- the last number is written, a copy is made, and the map has it -/
theorem TabAt.appTo (h : TabAt w b cm mm S t d V) (hb : Below w.heap.size w w1) {xs : List Wr} (ht : t' = { t with all := t.all ++ [xs], dropped := t.dropped ++ [false] }) (hok : t'.ok)
    (h3 : Below w1.heap.size (w1.setCell ⟨b, 2, none⟩ (.int .i64 ((t.all.length : Int) + 1))) w3) {v' : Value} (ho : OwnS lPw w1.heap.size w3 v' xs) {D : DataW Value} (hD : MapF w3 cm (.slice none 0 0) (comF t.all.length d V) (t.all.length - d) D) {m : Nat}
    (hn : w4.ownsMap Tryd.prog 3 heldR cm m (D.put (kN ((t.all.length : Int) + 1)) (.held v'))) (h4 : w3.grownBy w4 (some cm)) {r r' : Value} (hr : r = r') :
    TbDone InvT w ⟨b, 0, none⟩ S t' r (.returned r') w4 := by
  subst hr
  subst ht
  have dn := h.dn
  have h1 := h.step hb
  have h3' : Below (w1.setCell ⟨b, 2, none⟩ (.int .i64 ((t.all.length : Int) + 1))).heap.size (w1.setCell ⟨b, 2, none⟩ (.int .i64 ((t.all.length : Int) + 1))) w3 := by simpa [World.setCell] using h3
  have k1 : Kept (fun k => k = b) w1 (w1.setCell ⟨b, 2, none⟩ (.int .i64 ((t.all.length : Int) + 1))) := (Kept.refl _ _).setCell 2 _
  have k3 : Kept (fun k => k = b) w1 w3 := k1.trans (Kept.of_below h3')
  have k4 := (Kept.of_grown h4).wide (T := fun k => k = cm) (fun k _ e => Option.some.inj e)
  have b3 := blk_step (blk_set h1.blk 2 (.int .i64 ((t.all.length : Int) + 1))) h3'
  have b4 := (k4.block b (Array.getElem?_eq_some_iff.1 b3).1 h.bc).trans b3
  have wx : wfN ((t.all.length : Int) + 1) := wfN_of (by omega) (by have h1 := h.ok.lim; have h2 := h.ok.max; omega)
  have ew : ((t.all.length + 1 : Nat) : Int) = (t.all.length : Int) + 1 := by omega
  have kw : Kept (Mt w S) w w4 := (((Kept.of_below (S := Mt w S) hb).trans (k3.wide (fun k _ e => h.mt k (.inl e)))).trans (k4.wide (fun k _ e => h.mt k (.inr (.inl e)))))
  have hlt : ∀ k, v'.ownBlock = some k → w1.heap.size ≤ k ∧ k < w3.heap.size := ho.bounds
  refine ⟨fun k => S k ∨ v'.ownBlock = some k, rfl, ⟨b, cm, mm, d, fun i => if i = t.all.length + 1 then v' else V i, rfl, ⟨hok, ?_, h.dlow, ?_, ?_, ?_, ?_, .inl h.Sb, .inl h.Sc, .inl h.Sm, h.ne, ?_⟩⟩, kw, ?_⟩
  · show t.dropped ++ [false] = dropL d (t.all ++ [xs]).length
    rw [h.drp, dropL_snoc dn, List.length_append]; rfl
  · have e : (tbC t d cm mm).setIfInBounds 2 (.int .i64 ((t.all.length : Int) + 1)) = tbC { t with all := t.all ++ [xs], dropped := t.dropped ++ [false] } d cm mm := by
      unfold tbC; simp
    rw [e] at b4
    exact b4
  · have q := hD.put wx hn
    rw [comF_out (n := t.all.length) (d := d) (V := V) (x := (t.all.length : Int) + 1) (.inr (by omega))] at q
    refine ⟨_, q.turn (fun x => ?_) ?_⟩
    · show comF (t.all ++ [xs]).length d _ x = _
      rw [show (t.all ++ [xs]).length = t.all.length + 1 by simp, comF_put _ _ _ dn, ew]
    · simp; omega
  · obtain ⟨D2, q⟩ := h1.mks
    exact ⟨D2, (q.keep k3 h.bm.symm).keep k4 h.ne.symm⟩
  · intro i ys hi hd
    show OwnS lPw 0 w4 (if i + 1 = t.all.length + 1 then v' else V (i + 1)) ys ∧ _
    have hi' : (t.all ++ [xs])[i]? = some ys := hi
    by_cases e : i = t.all.length
    · subst e
      rw [if_pos rfl]
      rw [List.getElem?_append_right (Nat.le_refl _)] at hi'
      simp at hi'
      subst hi'
      exact ⟨(ho.mono (Nat.zero_le _)).keptN k4 (fun k ek e => by have a1 := (hlt k ek).1; have a2 := h.lt cm h.Sc; have a3 := hb.size; omega), fun k ek => .inr (by simpa using ek)⟩
    · rw [if_neg (by omega)]
      have hi2 : i < t.all.length := by
        have := (List.getElem?_eq_some_iff.1 hi').1
        simp at this; omega
      rw [List.getElem?_append_left hi2] at hi'
      obtain ⟨q1, q2⟩ := h1.wr i ys hi' hd
      refine ⟨(q1.keptN k3 (fun k ek e => h1.nW (e ▸ q1.isW k ek))).keptN k4 (fun k ek e => h1.nC (e ▸ q1.isW k ek)), fun k ek => ?_⟩
      have : (V (i + 1)).ownBlock = some k := by simpa [show ¬ i = t.all.length from e] using ek
      exact .inl (q2 k this)
  · intro k hk
    have z3 := k3.size
    have z4 := k4.size
    rcases hk with hk | hk
    · have := h1.lt k hk; omega
    · have := (hlt k hk).2; omega
  · intro k hk
    exact hk.imp id (fun e => Nat.le_trans hb.size (hlt k e).1)
end
set_option maxRecDepth 100000 in
set_option maxHeartbeats 4000000 in
theorem append16 (w : World) (b cm mm : Nat) (S : Nat → Prop) (t : Tb) (d : Nat) (V : Nat → Value) (h : TabAt w b cm mm S t d V) (x : Int) (v : Value) (xs : List Wr) (hlen : t.all.length ≤ 1000) (hv : WrV lPw w v xs) (hl : xs.length ≤ 1000) :
    Calls Tryd.prog 17 #[.pointer (some ⟨b, 0, none⟩), .int .i64 x, v] w (TbDone InvT w ⟨b, 0, none⟩ S (t.app x xs) (two (t.appB x xs) (t.appE x xs))) := by
  obtain ⟨a, cap, rfl, hlc, hcm⟩ := hv.1.lenform
  obtain ⟨n, hn⟩ : ∃ n, xs.length = n := ⟨_, rfl⟩
  have I := Lib.hid h
  have B0 := Lib.hid (Below.refl w.heap.size w)
  have HV := Lib.hid hv
  have HL := Lib.hid hl
  unfold maxLen at hcm
  by_cases h0 : n = 0
  · obtain rfl : xs = [] := List.eq_nil_of_length_eq_zero (by omega)
    have E := Lib.hid (show t.app x [] = t ∧ two (t.appB x []) (t.appE x []) = .tuple #[.bool false, .iface 58 (.int .i64 1)] from ⟨rfl, rfl⟩)
    clear hn hv h hlc h0 hl
    simp only [List.length_nil] at hcm ⊢
    go_enter Tryd.func17, Tryd.ntmps17
    go_wp2
    go_ret2
    exact I.out.same B0.out E.out.1 E.out.2
  · have h0' : ¬ (n : Int) = 0 := by omega
    have hemp : xs.isEmpty = false := by cases xs with
      | nil => simp at hn; omega
      | cons _ _ => rfl
    rw [hn] at hlc ⊢
    cases hw : wRight xs with
    | false =>
      have hm : Tb.may xs = false := by unfold Tb.may; rw [hw, hemp]; rfl
      have E := Lib.hid (show wRight xs = false ∧ t.app x xs = t ∧ two (t.appB x xs) (t.appE x xs) = .tuple #[.bool false, .iface 58 (.int .i64 1)] by
        unfold Tb.app Tb.appB Tb.appE; rw [hm]; exact ⟨hw, rfl, rfl⟩)
      rw [hn] at HV
      clear hn hv h hlc h0 hl hw hm hemp
      go_enter Tryd.func17, Tryd.ntmps17
      go_wp2_with fail
      refine (right16 _ xs _ HV.out HL.out).mono ?_
      rintro ev w1 ⟨rfl, hs⟩
      rw [E.out.1]
      have B1 := Lib.hid hs
      clear hs
      go_wp2
      go_ret2
      exact I.out.same B1.out E.out.2.1 E.out.2.2
    | true =>
      have hm : Tb.may xs = true := by unfold Tb.may; rw [hw, hemp]; rfl
      by_cases hx : x = (t.all.length : Int)
      · by_cases hlim : (t.all.length : Int) = t.limit
        · have E := Lib.hid (show wRight xs = true ∧ t.app x xs = t ∧ two (t.appB x xs) (t.appE x xs) = .tuple #[.bool false, .iface 58 (.int .i64 5)] by
            have hb : t.appB x xs = false := by unfold Tb.appB; simp [hlim]
            have he : t.appE x xs = 5 := by unfold Tb.appE; rw [hm]; simp [hx, hlim]
            unfold Tb.app; rw [hb, he]; exact ⟨hw, rfl, rfl⟩)
          have X := Lib.hid (show x = (t.all.length : Int) ∧ (t.all.length : Int) = t.limit from ⟨hx, hlim⟩)
          rw [hn] at HV
          clear hn hv h hlc h0 hl hw hm hemp hx hlim
          go_enter Tryd.func17, Tryd.ntmps17
          go_wp2_with fail
          refine (right16 _ xs _ HV.out HL.out).mono ?_
          rintro ev w1 ⟨rfl, hs⟩
          rw [E.out.1]
          have B1 := Lib.hid hs
          have c2 := (I.out.step hs).c2
          have c1 := (I.out.step hs).c1
          rw [← X.out.2, ← X.out.1] at c1
          rw [← X.out.1] at c2
          clear hs
          go_wp2
          go_quiet (fail)
          go_wp2
          go_ret2
          exact I.out.same (below_drewN B1.out _) E.out.2.1 E.out.2.2
        · obtain ⟨an, han⟩ : ∃ m, t.all.length = m := ⟨_, rfl⟩
          have E := Lib.hid (show wRight xs = true ∧ t.app x xs = { t with all := t.all ++ [xs], dropped := t.dropped ++ [false] } ∧ two (t.appB x xs) (t.appE x xs) = .tuple #[.bool true, .nilIface] by
            have hb : t.appB x xs = true := by unfold Tb.appB; rw [hm]; simp [hx, hlim]
            have he : t.appE x xs = 0 := by unfold Tb.appE; rw [hm]; simp [hx, hlim]
            unfold Tb.app; rw [hb, he]; exact ⟨hw, rfl, rfl⟩)
          have OK := Lib.hid (show (t.app x xs).ok from Tb.app_ok h.ok x ⟨hv.2, hl⟩)
          have X := Lib.hid (show x = (an : Int) ∧ t.all.length = an from ⟨by omega, han⟩)
          have GI := Lib.hid (show ¬ (t.limit ≤ (an : Int)) ∧ IntKind.i64.wrap ((an : Int) + 1) = (an : Int) + 1 from ⟨by have := h.ok.lim; omega, Go.IntWalk.i64_in _ (by have h1 := h.ok.lim; have h2 := h.ok.max; omega)⟩)
          have LM := Lib.hid (show an ≤ 1000 by omega)
          have NM := Lib.hid (show t.all.length - d < maxLen by unfold maxLen; omega)
          have NE := Lib.hid (show xs ≠ [] from fun e => by rw [e] at hemp; cases hemp)
          have LC := Lib.hid (show xs.length ≤ 100000 by omega)
          rw [hn] at HV
          have HX := Lib.hid hx
          clear hn hv h hlc h0 hl hw hm hemp hlim han hx
          rw [X.out.1]
          go_enter Tryd.func17, Tryd.ntmps17
          go_wp2_with fail
          refine (right16 _ xs _ HV.out HL.out).mono ?_
          rintro ev w1 ⟨rfl, hs⟩
          rw [E.out.1]
          have B1 := Lib.hid hs
          have c2 := (I.out.step hs).c2
          have c1 := (I.out.step hs).c1
          have f2 := blk_free (I.out.step hs).blk 2
          rw [X.out.2] at c2
          have HV1 := Lib.hid (HV.out.below hs)
          clear hs
          obtain ⟨g1, i1⟩ := GI.out
          go_wp2
          go_quiet (fail)
          go_wp2
          have BN := Lib.hid (below_drewN B1.out nq)
          have HV2 := Lib.hid (HV1.out.below (below_drewN (Below.refl _ w1) nq))
          obtain ⟨wa, hwa⟩ : ∃ x, x = w1.drewN nq := ⟨_, rfl⟩
          rw [← hwa] at BN HV2 ⊢
          clear hwa HV1 B1 c1 c2 f2
          have k2 := blk_set (I.out.step BN.out).blk 2 (.int .i64 ((an : Int) + 1))
          obtain ⟨D, hD⟩ := (I.out.step BN.out).com
          have kb : Kept (fun k => k = b) wa (wa.setCell ⟨b, 2, none⟩ (.int .i64 ((an : Int) + 1))) := (Kept.refl _ _).setCell 2 _
          have hD2 := hD.keep kb I.out.bc.symm
          have hV2 : SV lPw (wa.setCell ⟨b, 2, none⟩ (.int .i64 ((an : Int) + 1))) (.slice a n cap) xs := HV2.out.1.kept kb (fun y m c hv e => (by obtain ⟨rfl, -, -⟩ := Value.slice.inj hv; exact SV.notBlk HV2.out.1 NE.out (I.out.step BN.out).blk (tbC_str t d cm mm) e))
          have z2 : (wa.setCell ⟨b, 2, none⟩ (.int .i64 ((an : Int) + 1))).heap.size = wa.heap.size := by simp [World.setCell]
          obtain ⟨W2, hW2⟩ : ∃ x, x = wa.setCell ⟨b, 2, none⟩ (.int .i64 ((an : Int) + 1)) := ⟨_, rfl⟩
          rw [← hW2] at k2 hD2 hV2 z2 ⊢
          have q0 : Below W2.heap.size W2 W2.drew := (Below.refl _ W2).drew
          have HW2 := Lib.hid hW2
          refine anyH_region (fun w' => w'.cell? ⟨b, 5, none⟩ = some (.map (some cm)) ∧ w'.cell? ⟨b, 2, none⟩ = some (.int .i64 ((an : Int) + 1))) (by kernel_rfl) ?_
          generalize (World.drew W2) = wd at *
          have c5 : wd.cell? ⟨b, 5, none⟩ = some (.map (some cm)) := by rw [blk_cell (blk_step k2 q0)]; rfl
          have c2 : wd.cell? ⟨b, 2, none⟩ = some (.int .i64 ((an : Int) + 1)) := by rw [blk_cell (blk_step k2 q0)]; rfl
          have VD := Lib.hid (hV2.below q0)
          have MD := Lib.hid (hD2.low q0)
          have Q := Lib.hid (show Below W2.heap.size W2 wd ∧ W2.heap.size = wa.heap.size from ⟨q0, z2⟩)
          clear hD hD2 hV2 kb q0 z2 k2 hW2
          refine wpAnyH_take (i := 0) (oi := ⟨some 47, _, _, _, _, _⟩) (v := ?vp1) rfl (by kernel_rfl) (by kernel_rfl) (by kernel_rfl) (fun _ _ _ h => h) (Or.inl ⟨by rfl, ?hyp1⟩) ⟨c5, c2⟩ ?restp1
          case hyp1 => (intro w hSw; obtain ⟨q0, q1⟩ := hSw; go_simp; try (with_reducible rfl))
          simp only [Act.put, List.setIfInBounds_toArray, List.set_cons_zero, List.set_cons_succ]
          refine wpAnyH_take (i := 1) (oi := ⟨some 48, _, _, _, _, _⟩) (v := ?vp2) rfl (by kernel_rfl) (by kernel_rfl) (by kernel_rfl) (fun _ _ _ h => h) (Or.inl ⟨by rfl, ?hyp2⟩) ⟨c5, c2⟩ ?restp2
          case hyp2 => (intro w hSw; obtain ⟨q0, q1⟩ := hSw; go_simp; try (with_reducible rfl))
          simp only [Act.put, List.setIfInBounds_toArray, List.set_cons_zero, List.set_cons_succ]
          refine wpAnyH_take (i := 2) (oi := ⟨some 49, _, _, _, _, _⟩) (v := ?vp3) rfl (by kernel_rfl) (by kernel_rfl) (by kernel_rfl) (fun _ _ _ h => h) (Or.inl ⟨by rfl, ?hyp3⟩) ⟨c5, c2⟩ ?restp3
          case hyp3 => (intro w hSw; obtain ⟨q0, q1⟩ := hSw; go_simp; try (with_reducible rfl))
          simp only [Act.put, List.setIfInBounds_toArray, List.set_cons_zero, List.set_cons_succ]
          refine wpAnyH_take (i := 3) (oi := ⟨some 50, _, _, _, _, _⟩) (v := ?vp4) rfl (by kernel_rfl) (by kernel_rfl) (by kernel_rfl) (fun _ _ _ h => h) (Or.inl ⟨by rfl, ?hyp4⟩) ⟨c5, c2⟩ ?restp4
          case hyp4 => (intro w hSw; obtain ⟨q0, q1⟩ := hSw; go_simp; try (with_reducible rfl))
          simp only [Act.put, List.setIfInBounds_toArray, List.set_cons_zero, List.set_cons_succ]
          refine wpAnyH_take (i := 4) (oi := ⟨some 51, _, _, _, _, _⟩) (v := ?vp5) rfl (by kernel_rfl) (by kernel_rfl) (by kernel_rfl) (fun _ _ _ h => h) (Or.inl ⟨by rfl, ?hyp5⟩) ⟨c5, c2⟩ ?restp5
          case hyp5 => (intro w hSw; obtain ⟨q0, q1⟩ := hSw; go_simp; try (with_reducible rfl))
          simp only [Act.put, List.setIfInBounds_toArray, List.set_cons_zero, List.set_cons_succ]
          refine wpAnyH_take (i := 5) (oi := ⟨some 52, _, _, _, _, _⟩) (v := ?vp6) rfl (by kernel_rfl) (by kernel_rfl) (by kernel_rfl) (fun _ _ _ h => h) (Or.inl ⟨by rfl, ?hyp6⟩) ⟨c5, c2⟩ ?restp6
          case hyp6 => (intro w hSw; obtain ⟨q0, q1⟩ := hSw; go_simp; try (with_reducible rfl))
          simp only [Act.put, List.setIfInBounds_toArray, List.set_cons_zero, List.set_cons_succ]
          refine wpAnyH_take (i := 6) (oi := ⟨some 53, _, _, _, _, _⟩) (v := ?vp7) rfl (by kernel_rfl) (by kernel_rfl) (by kernel_rfl) (fun _ _ _ h => h) (Or.inl ⟨by rfl, ?hyp7⟩) ⟨c5, c2⟩ ?restp7
          case hyp7 => (intro w hSw; obtain ⟨q0, q1⟩ := hSw; go_simp; try (with_reducible rfl))
          simp only [Act.put, List.setIfInBounds_toArray, List.set_cons_zero, List.set_cons_succ]
          refine wpAnyH_take (i := 7) (oi := ⟨some 54, _, _, _, _, _⟩) (v := ?vp8) rfl (by kernel_rfl) (by kernel_rfl) (by kernel_rfl) (fun _ _ _ h => h) (Or.inl ⟨by rfl, ?hyp8⟩) ⟨c5, c2⟩ ?restp8
          case hyp8 => (intro w hSw; obtain ⟨q0, q1⟩ := hSw; go_simp; try (with_reducible rfl))
          simp only [Act.put, List.setIfInBounds_toArray, List.set_cons_zero, List.set_cons_succ]
          refine wpAnyH_take (i := 8) (oi := ⟨some 55, _, _, _, _, _⟩) (v := ?vp9) rfl (by kernel_rfl) (by kernel_rfl) (by kernel_rfl) (fun _ _ _ h => h) (Or.inl ⟨by rfl, ?hyp9⟩) ⟨c5, c2⟩ ?restp9
          case hyp9 => (intro w hSw; obtain ⟨q0, q1⟩ := hSw; go_simp; try (with_reducible rfl))
          simp only [Act.put, List.setIfInBounds_toArray, List.set_cons_zero, List.set_cons_succ]
          refine anyH_one (i := 9) (o := ⟨some 56, _, _, _, _, _⟩) (by kernel_rfl) rfl (fun K hK => ?_)
          rw [if_pos (by rfl)]
          go_simp
          refine (clone16 _ xs _ VD.out LC.out).mono ?_
          rintro e9 w3 ⟨v', rfl, ho, hs⟩
          have d5 := cell_step c5 hs
          have d2 := cell_step c2 hs
          have O3 := Lib.hid ho
          have M3 := Lib.hid (MD.out.low hs)
          have B3 := Lib.hid (show Below wa.heap.size W2 w3 from (Q.out.1.trans (hs.mono Q.out.1.size)).mono (Nat.le_of_eq Q.out.2.symm))
          have Z3 := Lib.hid (show wa.heap.size ≤ wd.heap.size by have h1 := Q.out.1.size; have h2 := Q.out.2; omega)
          refine hK.out _ _ ⟨d5, d2⟩ ?_
          clear hK K c5 c2 ho hs
          try simp only [Act.put, List.setIfInBounds_toArray, List.set_cons_zero, List.set_cons_succ]
          have WX := Lib.hid (show wfN ((an : Int) + 1) from wfN_of (by omega) (by have := LM.out; omega))
          refine anyH_one (i := 10) (o := ⟨none, _, _, _, _, _⟩) (by kernel_rfl) rfl (fun K hK => ?_)
          rw [if_pos (by rfl)]
          refine wp_mapUpdate_own (.tmp 50) (.tmp 54) (.tmp 56) 53 rfl 3 50 keyN Tryd.underlying53 heldR cm _ D rfl M3.out.own NM.out _ _ _ rfl rfl (keyN_of WX.out) (.held v') [] rfl ?_
          intro w4 hown hgrow
          have K4 := Lib.hid ((Kept.of_grown hgrow).wide (T := fun k => k = cm) (fun k _ e => Option.some.inj e))
          refine hK.out _ _ ⟨K4.out.cell I.out.bc d5, K4.out.cell I.out.bc d2⟩ ?_
          clear hK K
          try simp only [Act.put]
          refine wpAnyH_done (by kernel_rfl) ?_ _
          go_wp2
          go_ret2
          have ea := X.out.2
          have b3 := B3.out
          rw [HW2.out] at b3
          subst ea
          exact I.out.appTo BN.out (xs := xs) (by have := E.out.2.1; rw [X.out.1] at this; exact this) (by have := OK.out; rw [X.out.1] at this; exact this) b3 (O3.out.mono Z3.out) M3.out hown hgrow (by have := E.out.2.2; rw [X.out.1] at this; exact this)
      · have E := Lib.hid (show wRight xs = true ∧ t.app x xs = t ∧ two (t.appB x xs) (t.appE x xs) = .tuple #[.bool false, .nilIface] by
          have hb : t.appB x xs = false := by unfold Tb.appB; simp [hx]
          have he : t.appE x xs = 0 := by unfold Tb.appE; rw [hm]; simp [hx]
          unfold Tb.app; rw [hb, he]; exact ⟨hw, rfl, rfl⟩)
        obtain ⟨an, han⟩ : ∃ m, t.all.length = m := ⟨_, rfl⟩
        rw [han] at hx
        have AN := Lib.hid han
        rw [hn] at HV
        clear hn hv h hlc h0 hl hw hm hemp han
        go_enter Tryd.func17, Tryd.ntmps17
        go_wp2_with fail
        refine (right16 _ xs _ HV.out HL.out).mono ?_
        rintro ev w1 ⟨rfl, hs⟩
        rw [E.out.1]
        have B1 := Lib.hid hs
        have c2 := (I.out.step hs).c2
        rw [AN.out] at c2
        clear hs
        go_wp2
        go_ret2
        exact I.out.same B1.out E.out.2.1 E.out.2.2
end Go.Proofs.YtkbfhpgcjljbbaaDoor
