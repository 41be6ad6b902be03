/- Package commits' New, Grab, Yield, Advance and Mark, by contracts (layer 16). -/
import Derived.Test.YtkbfhpgcjljbbaaCmGet
namespace Go.Proofs.Ytkbfhpgcjljbbaa
set_option linter.unusedVariables false
set_option linter.unusedSimpArgs false
open Go.RowKit Go.Maps

section
variable {w w' : World} {b cm mm : Nat} {S : Nat → Prop} {t t' : Tb} {d : Nat} {V : Nat → Value}
/-- nothing has changed -/
theorem TabAt.same (h : TabAt w b cm mm S t d V) (hb : Below w.heap.size w w') {r r' : Value} (ht : t' = t) (hr : r = r') : TbDone InvT w ⟨b, 0, none⟩ S t' r (.returned r') w' := by
  subst ht
  subst hr
  exact ⟨S, rfl, ⟨b, cm, mm, d, V, rfl, h.step hb⟩, Kept.of_below hb, fun k hk => .inl hk⟩
/-- one number in the table's block has changed -/
theorem TabAt.cellTo (h : TabAt w b cm mm S t d V) (hb : Below w.heap.size w w') (o : Nat) (u : Value) {r r' : Value} (hc : (tbC t d cm mm).setIfInBounds o u = tbC t' d cm mm) (hok : t'.ok) (hall : t'.all = t.all) (hdr : t'.dropped = t.dropped) (hm : t'.marks = t.marks) (hl : d ≤ t'.low) (hr : r = r') :
    TbDone InvT w ⟨b, 0, none⟩ S t' r (.returned r') (w'.setCell ⟨b, o, none⟩ u) := by
  subst hr
  have h1 := h.step hb
  have k1 : Kept (fun k => k = b) w' (w'.setCell ⟨b, o, none⟩ u) := (Kept.refl _ _).setCell o u
  have e := blk_set h1.blk o u
  rw [hc] at e
  exact ⟨S, rfl, ⟨b, cm, mm, d, V, rfl, h1.blkTo k1 e hok hall hdr hm hl⟩, ((Kept.of_below (S := fun k => k = b) hb).trans k1).wide (fun k _ e => h.mt k (.inl e)), fun k hk => .inl hk⟩
/-- the map of marks has changed -/
theorem TabAt.mksTo {L : List Int} {D : DataW Value} (h : TabAt w b cm mm S t d V) (hb : Below w.heap.size w w') {w2 : World} (hk : Kept (fun k => k = mm) w' w2) (hD : MapF w2 mm (.int .i64 0) (mkF L) (cntM L) D) (ht : t' = { t with marks := L }) (hL : L.length = t.marks.length) (hok : t'.ok) {r r' : Value} (hr : r = r') :
    TbDone InvT w ⟨b, 0, none⟩ S t' r (.returned r') w2 := by
  subst hr
  subst ht
  have h1 := h.step hb
  refine ⟨S, rfl, ⟨b, cm, mm, d, V, rfl, ⟨hok, h1.drp, h1.dlow, ?_, let ⟨D, q⟩ := h1.com; ⟨D, q.keep hk h.ne⟩, ⟨D, hD⟩, fun i xs hi hd => let ⟨q1, q2⟩ := h1.wr i xs hi hd; ⟨q1.keptN hk (fun k e hkm => h1.nM (hkm ▸ q1.isW k e)), q2⟩, h.Sb, h.Sc, h.Sm, h.ne, fun k hs => Nat.lt_of_lt_of_le (h1.lt k hs) hk.size⟩⟩,
    ((Kept.of_below (S := fun k => k = mm) hb).trans hk).wide (fun k _ e => h.mt k (.inr (.inr e))), fun k hk => .inl hk⟩
  have e := (hk.block b (h1.lt b h.Sb) h.bm).trans h1.blk
  unfold tbC at e ⊢
  simp only [hL]
  exact e
end
set_option maxRecDepth 100000 in
set_option maxHeartbeats 4000000 in
theorem new16no (n l : Int) (w : World) (h : okT n l = false) : Calls Try.prog 10 #[.int .i64 n, .int .i64 l] w fun ev w' => ev = .returned (.pointer none) ∧ Below w.heap.size w w' := by
  have B := Lib.hid (Below.refl w.heap.size w)
  have N := Lib.hid h
  clear h
  by_cases h1 : n < 1
  · go_enter Try.func10, Try.ntmps10
    go_wp2
    go_ret
    exact ⟨rfl, B.out⟩
  · by_cases h2 : 64 < n
    · go_enter Try.func10, Try.ntmps10
      go_wp2
      go_ret
      exact ⟨rfl, B.out⟩
    · by_cases h3 : l < 1
      · go_enter Try.func10, Try.ntmps10
        go_wp2
        go_ret
        exact ⟨rfl, B.out⟩
      · have h4 : 1099511627776 < l := by
          have := N.out
          unfold okT at this
          simp at this
          omega
        go_enter Try.func10, Try.ntmps10
        go_wp2
        go_ret
        exact ⟨rfl, B.out⟩
set_option maxRecDepth 100000 in
set_option maxHeartbeats 4000000 in
theorem new16 (n l : Int) (w : World) (h : okT n l = true) : Calls Try.prog 10 #[.int .i64 n, .int .i64 l] w fun ev w' => ∃ a S, ev = .returned (.pointer (some a)) ∧ InvT w' a S (Tb.new n.toNat l) ∧ (∀ k, S k → w.heap.size ≤ k) ∧ Below w.heap.size w w' := by
  have hmm := @run_makeMap Try.prog
  have OK := Lib.hid (Tb.new_ok h)
  unfold okT at h
  simp only [Bool.and_eq_true, decide_eq_true_eq] at h
  obtain ⟨⟨⟨g1, g2⟩, g3⟩, g4⟩ := h
  obtain ⟨m, rfl⟩ : ∃ m : Nat, n = m := ⟨n.toNat, by omega⟩
  have h1 : ¬ (m : Int) < 1 := by omega
  have h2 : ¬ (64 : Int) < m := by omega
  have h3 : ¬ l < 1 := by omega
  have h4 : ¬ 1099511627776 < l := by omega
  clear g1 g2 g3 g4
  go_enter Try.func10, Try.ntmps10
  go_wp2
  have a1 := alloc_below0 w (.map #[] 0)
  obtain ⟨w1, hw1⟩ : ∃ x, x = w.alloc (.map #[] 0) := ⟨_, rfl⟩
  have m1 := MapF.made w (.slice none 0 0)
  have z1 : w1.heap.size = w.heap.size + 1 := by rw [hw1]; simp
  rw [← hw1] at a1 m1 ⊢
  have a2 := alloc_below0 w1 (.map #[] 0)
  obtain ⟨w2, hw2⟩ : ∃ x, x = w1.alloc (.map #[] 0) := ⟨_, rfl⟩
  have m2 := MapF.made w1 (.int .i64 0)
  have z2 : w2.heap.size = w.heap.size + 2 := by rw [hw2]; simp [z1]
  rw [← hw2] at a2 m2 ⊢
  have a3 := alloc_below0 w2 (.cells (tbC (Tb.new m l) 0 w.heap.size (w.heap.size + 1)) 78)
  have k3 := blk_new w2 (.cells (tbC (Tb.new m l) 0 w.heap.size (w.heap.size + 1)) 78)
  have e3 : tbC (Tb.new m l) 0 w.heap.size (w.heap.size + 1) = #[.int .i64 (m : Int), .int .i64 l, .int .i64 0, .int .i64 0, .int .i64 0, .map (some w.heap.size), .map (some (w.heap.size + 1)), .int .i64 (-1)] := by
    unfold tbC Tb.new; simp
  rw [z2] at k3
  rw [z1] at m2
  obtain ⟨w3, hw3⟩ : ∃ x, x = w2.alloc (.cells (tbC (Tb.new m l) 0 w.heap.size (w.heap.size + 1)) 78) := ⟨_, rfl⟩
  have z3 : w3.heap.size = w.heap.size + 3 := by rw [hw3]; simp [z2]
  rw [← hw3] at a3 k3
  rw [e3] at hw3
  have T3 : TabAt w3 (w.heap.size + 2) w.heap.size (w.heap.size + 1) (fun k => w.heap.size ≤ k ∧ k < w.heap.size + 3) (Tb.new m l) 0 (fun _ => .nilIface) :=
    ⟨by have := OK.out; simpa using this, rfl, Nat.zero_le _, k3, ⟨_, ((m1.low a2).low a3).turn (fun x => comF_out (by show x ≤ 0 ∨ ((0 : Nat) : Int) < x; omega)) rfl⟩, ⟨_, (m2.low a3).turn (fun x => mkF_new m x) (cntM_new m).symm⟩,
      fun i xs hi _ => (by cases hi), ⟨by omega, by omega⟩, ⟨by omega, by omega⟩, ⟨by omega, by omega⟩, by omega, fun k hk => (by omega)⟩
  have B3 := (a1.trans (a2.mono a1.size)).trans (a3.mono (Nat.le_trans a1.size a2.size))
  go_ret
  rw [hw3] at T3 B3
  exact ⟨⟨w.heap.size + 2, 0, none⟩, rfl, _, ⟨_, _, _, _, _, rfl, T3⟩, fun k hk => hk.1, B3⟩
set_option maxRecDepth 100000 in
set_option maxHeartbeats 4000000 in
theorem grab16 (w : World) (b cm mm : Nat) (S : Nat → Prop) (t : Tb) (d : Nat) (V : Nat → Value) (h : TabAt w b cm mm S t d V) (x : Int) :
    Calls Try.prog 16 #[.pointer (some ⟨b, 0, none⟩), .int .i64 x] w (TbDone InvT w ⟨b, 0, none⟩ S (t.grab x) (two (t.grabB x) (t.hasE x))) := by
  have I := Lib.hid h
  cases hh : t.has x with
  | false =>
    have E := Lib.hid (show t.has x = false ∧ t.grab x = t ∧ two (t.grabB x) (t.hasE x) = .tuple #[.bool false, .iface 67 (.int .i64 1)] by unfold Tb.grab Tb.grabB Tb.hasE; rw [hh]; exact ⟨rfl, rfl, rfl⟩)
    clear h hh
    go_enter Try.func16, Try.ntmps16
    go_wp2_with fail
    refine (has16 _ b cm mm S t d V I.out x).mono ?_
    rintro ev w1 ⟨rfl, hs⟩
    rw [E.out.1]
    have B := Lib.hid hs
    clear hs
    go_wp2
    go_ret2
    exact I.out.same B.out E.out.2.1 E.out.2.2
  | true =>
    by_cases hn : t.holder = -1
    · have E := Lib.hid (show t.has x = true ∧ t.grab x = { t with holder := x } ∧ two (t.grabB x) (t.hasE x) = .tuple #[.bool true, .nilIface] by unfold Tb.grab Tb.grabB Tb.hasE; rw [hh, hn]; exact ⟨rfl, rfl, rfl⟩)
      have OK := Lib.hid (show ({ t with holder := x } : Tb).ok by rw [← E.out.2.1]; exact Tb.grab_ok h.ok x)
      have HN := Lib.hid hn
      clear h hh hn
      go_enter Try.func16, Try.ntmps16
      go_wp2_with fail
      refine (has16 _ b cm mm S t d V I.out x).mono ?_
      rintro ev w1 ⟨rfl, hs⟩
      rw [E.out.1]
      have B := Lib.hid hs
      have c7 := (I.out.step hs).c7
      have f7 := blk_free (I.out.step hs).blk 7
      rw [HN.out] at c7
      clear hs
      go_wp2
      go_ret2
      exact I.out.cellTo B.out 7 _ (by rw [E.out.2.1]; rfl) (by rw [E.out.2.1]; exact OK.out) (by rw [E.out.2.1]) (by rw [E.out.2.1]) (by rw [E.out.2.1]) (by rw [E.out.2.1]; exact I.out.dlow) E.out.2.2
    · have E := Lib.hid (show t.has x = true ∧ t.grab x = t ∧ two (t.grabB x) (t.hasE x) = .tuple #[.bool false, .nilIface] by
        have hg : t.grabB x = false := by
          unfold Tb.grabB; rw [hh]
          have := h.ok.holder
          have h0 : ¬ t.holder < 0 := by omega
          simp [h0]
        unfold Tb.grab Tb.hasE; rw [hg, hh]; exact ⟨rfl, rfl, rfl⟩)
      obtain ⟨z, hz⟩ : ∃ z, t.holder = z := ⟨_, rfl⟩
      rw [hz] at hn
      have HZ := Lib.hid hz
      clear h hh hz
      go_enter Try.func16, Try.ntmps16
      go_wp2_with fail
      refine (has16 _ b cm mm S t d V I.out x).mono ?_
      rintro ev w1 ⟨rfl, hs⟩
      rw [E.out.1]
      have B := Lib.hid hs
      have c7 := (I.out.step hs).c7
      rw [HZ.out] at c7
      clear hs
      go_wp2
      go_ret2
      exact I.out.same B.out E.out.2.1 E.out.2.2
set_option maxRecDepth 100000 in
set_option maxHeartbeats 4000000 in
theorem yield16 (w : World) (b cm mm : Nat) (S : Nat → Prop) (t : Tb) (d : Nat) (V : Nat → Value) (h : TabAt w b cm mm S t d V) (x : Int) :
    Calls Try.prog 17 #[.pointer (some ⟨b, 0, none⟩), .int .i64 x] w (TbDone InvT w ⟨b, 0, none⟩ S (t.yield_ x) (two (t.yieldB x) (t.hasE x))) := by
  have I := Lib.hid h
  cases hh : t.has x with
  | false =>
    have E := Lib.hid (show t.has x = false ∧ t.yield_ x = t ∧ two (t.yieldB x) (t.hasE x) = .tuple #[.bool false, .iface 67 (.int .i64 1)] by unfold Tb.yield_ Tb.yieldB Tb.hasE; rw [hh]; exact ⟨rfl, rfl, rfl⟩)
    clear h hh
    go_enter Try.func17, Try.ntmps17
    go_wp2_with fail
    refine (has16 _ b cm mm S t d V I.out x).mono ?_
    rintro ev w1 ⟨rfl, hs⟩
    rw [E.out.1]
    have B := Lib.hid hs
    clear hs
    go_wp2
    go_ret2
    exact I.out.same B.out E.out.2.1 E.out.2.2
  | true =>
    by_cases hn : t.holder = x
    · have E := Lib.hid (show t.has x = true ∧ t.yield_ x = { t with holder := -1 } ∧ two (t.yieldB x) (t.hasE x) = .tuple #[.bool true, .nilIface] by
        have hg : t.yieldB x = true := by unfold Tb.yieldB; rw [hh, hn]; simp
        unfold Tb.yield_ Tb.hasE; rw [hg, hh]; exact ⟨rfl, rfl, rfl⟩)
      have OK := Lib.hid (show ({ t with holder := -1 } : Tb).ok by rw [← E.out.2.1]; exact Tb.yield_ok h.ok x)
      have HN := Lib.hid hn
      clear h hh hn
      go_enter Try.func17, Try.ntmps17
      go_wp2_with fail
      refine (has16 _ b cm mm S t d V I.out x).mono ?_
      rintro ev w1 ⟨rfl, hs⟩
      rw [E.out.1]
      have B := Lib.hid hs
      have c7 := (I.out.step hs).c7
      have f7 := blk_free (I.out.step hs).blk 7
      rw [HN.out] at c7
      clear hs
      go_wp2
      go_ret2
      exact I.out.cellTo B.out 7 _ (by rw [E.out.2.1]; rfl) (by rw [E.out.2.1]; exact OK.out) (by rw [E.out.2.1]) (by rw [E.out.2.1]) (by rw [E.out.2.1]) (by rw [E.out.2.1]; exact I.out.dlow) E.out.2.2
    · have E := Lib.hid (show t.has x = true ∧ t.yield_ x = t ∧ two (t.yieldB x) (t.hasE x) = .tuple #[.bool false, .nilIface] by
        have hg : t.yieldB x = false := by unfold Tb.yieldB; rw [hh]; simp [hn]
        unfold Tb.yield_ Tb.hasE; rw [hg, hh]; exact ⟨rfl, rfl, rfl⟩)
      obtain ⟨z, hz⟩ : ∃ z, t.holder = z := ⟨_, rfl⟩
      rw [hz] at hn
      have HZ := Lib.hid hz
      clear h hh hz
      go_enter Try.func17, Try.ntmps17
      go_wp2_with fail
      refine (has16 _ b cm mm S t d V I.out x).mono ?_
      rintro ev w1 ⟨rfl, hs⟩
      rw [E.out.1]
      have B := Lib.hid hs
      have c7 := (I.out.step hs).c7
      rw [HZ.out] at c7
      clear hs
      go_wp2
      go_ret2
      exact I.out.same B.out E.out.2.1 E.out.2.2
set_option maxRecDepth 100000 in
set_option maxHeartbeats 4000000 in
theorem advance16 (w : World) (b cm mm : Nat) (S : Nat → Prop) (t : Tb) (d : Nat) (V : Nat → Value) (h : TabAt w b cm mm S t d V) (x : Int) :
    Calls Try.prog 28 #[.pointer (some ⟨b, 0, none⟩), .int .i64 x] w (TbDone InvT w ⟨b, 0, none⟩ S (t.adv x) (two (t.advB x) t.advE)) := by
  have I := Lib.hid h
  have c2 := h.c2
  have c3 := h.c3
  have f3 := blk_free h.blk 3
  have B := Lib.hid (Below.refl w.heap.size w)
  by_cases h1 : t.low = t.all.length
  · have E := Lib.hid (show t.adv x = t ∧ two (t.advB x) t.advE = .tuple #[.bool false, .iface 67 (.int .i64 13)] by
      have hg : t.advB x = false := by unfold Tb.advB; simp [h1]
      have he : t.advE = 13 := by unfold Tb.advE; rw [if_pos h1]
      unfold Tb.adv; rw [hg, he]; exact ⟨rfl, rfl⟩)
    rw [h1] at c3
    clear h h1
    go_enter Try.func28, Try.ntmps28
    go_wp2
    go_quiet (fail)
    go_wp2
    go_ret2
    exact I.out.same (below_drewN B.out _) E.out.1 E.out.2
  · have n1 : ¬ (t.low : Int) = (t.all.length : Int) := by omega
    have he : t.advE = 0 := by unfold Tb.advE; rw [if_neg h1]
    by_cases h2 : x = (t.low : Int)
    · have E := Lib.hid (show t.adv x = { t with low := t.low + 1 } ∧ two (t.advB x) t.advE = .tuple #[.bool true, .nilIface] by
        have hg : t.advB x = true := by unfold Tb.advB; simp [h1, h2]
        unfold Tb.adv; rw [hg, he]; exact ⟨rfl, rfl⟩)
      have OK := Lib.hid (show ({ t with low := t.low + 1 } : Tb).ok by rw [← E.out.1]; exact Tb.adv_ok h.ok x)
      have i1 : IntKind.i64.wrap ((t.low : Int) + 1) = (t.low : Int) + 1 := Go.IntWalk.i64_in _ (by have := h.ok.low; have := h.ok.lim; have := h.ok.max; omega)
      have HX := Lib.hid h2
      clear h h1 he h2
      rw [HX.out]
      go_enter Try.func28, Try.ntmps28
      go_wp2
      go_quiet (fail)
      go_wp2
      go_ret2
      rw [HX.out] at E
      exact I.out.cellTo (below_drewN B.out _) 3 _ (by rw [E.out.1]; rfl) (by rw [E.out.1]; exact OK.out) (by rw [E.out.1]) (by rw [E.out.1]) (by rw [E.out.1]) (by rw [E.out.1]; exact Nat.le_succ_of_le I.out.dlow) E.out.2
    · have E := Lib.hid (show t.adv x = t ∧ two (t.advB x) t.advE = .tuple #[.bool false, .nilIface] by
        have hg : t.advB x = false := by unfold Tb.advB; simp [h2]
        unfold Tb.adv; rw [hg, he]; exact ⟨rfl, rfl⟩)
      clear h h1 he
      go_enter Try.func28, Try.ntmps28
      go_wp2
      go_quiet (fail)
      go_wp2
      go_ret2
      exact I.out.same (below_drewN B.out _) E.out.1 E.out.2
set_option maxRecDepth 100000 in
set_option maxHeartbeats 4000000 in
theorem mark16 (w : World) (b cm mm : Nat) (S : Nat → Prop) (t : Tb) (d : Nat) (V : Nat → Value) (h : TabAt w b cm mm S t d V) (x n : Int) (hn : -9223372036854775808 ≤ n ∧ n ≤ 9223372036854775807) :
    Calls Try.prog 29 #[.pointer (some ⟨b, 0, none⟩), .int .i64 x, .int .i64 n] w (TbDone InvT w ⟨b, 0, none⟩ S (t.mark x n) (errV (t.hasE x))) := by
  have I := Lib.hid h
  cases hh : t.has x with
  | false =>
    have E := Lib.hid (show t.has x = false ∧ t.mark x n = t ∧ errV (t.hasE x) = .iface 67 (.int .i64 1) by unfold Tb.mark Tb.hasE; rw [hh]; exact ⟨rfl, rfl, rfl⟩)
    clear h hh
    go_enter Try.func29, Try.ntmps29
    go_wp2_with fail
    refine (has16 _ b cm mm S t d V I.out x).mono ?_
    rintro ev w1 ⟨rfl, hs⟩
    rw [E.out.1]
    have B := Lib.hid hs
    clear hs
    go_wp2
    go_ret
    exact I.out.same B.out E.out.2.1 E.out.2.2
  | true =>
    obtain ⟨i, rfl, hi⟩ := has_at hh
    have HI := Lib.hid hi
    have WX := Lib.hid (show wfN (i : Int) from wfN_of (by omega) (by have := h.ok.marks.2; omega))
    have OK := Lib.hid (Tb.mark_ok h.ok (i : Int) hn.2)
    have C64 := Lib.hid (show cntM t.marks < maxLen by have h1 := cntM_le t.marks; have h2 := h.ok.marks.2; unfold maxLen; omega)
    by_cases h0 : n < 0
    · have E := Lib.hid (show t.has i = true ∧ t.mark i n = { t with marks := t.marks.set i (-1) } ∧ errV (t.hasE i) = .nilIface by
        unfold Tb.mark Tb.hasE; rw [hh, show max n (-1) = -1 by omega]; exact ⟨rfl, rfl, rfl⟩)
      clear h hh hn hi
      go_enter Try.func29, Try.ntmps29
      go_wp2_with fail
      refine (has16 _ b cm mm S t d V I.out i).mono ?_
      rintro ev w1 ⟨rfl, hs⟩
      rw [E.out.1]
      have B := Lib.hid hs
      obtain ⟨D, hm⟩ := (I.out.step hs).mks
      have M := Lib.hid hm
      have c6 := (I.out.step hs).c6
      clear hs hm
      go_wp2_with (at_delete; refine wpList_delete_own _ rfl _ _ 76 3 rfl 3 keyN Try.underlying76 heldR mm _ D rfl M.out.own _ _ rfl (keyN_of WX.out) ?_; intro w2 hown hturn)
      have M2 := M.out.del WX.out hown
      have K2 := (Kept.of_grown hturn.grown).wide (T := fun k => k = mm) (fun k _ e => Option.some.inj e)
      go_ret
      refine I.out.mksTo B.out K2 (L := t.marks.set i (-1)) (M2.turn (fun y => mkF_del HI.out (by omega) y) ?_) E.out.2.1 (by simp) OK.out E.out.2.2
      have q := cntM_set t.marks i _ (-1) (List.getElem?_eq_getElem HI.out)
      have q2 : (mkF t.marks (i : Int)).isSome = decide (0 ≤ t.marks[i]'HI.out) := by
        unfold mkF; rw [mkAt_get (List.getElem?_eq_getElem HI.out)]; split <;> simp_all
      rw [q2]
      by_cases h5 : 0 ≤ t.marks[i]'HI.out
      · rw [if_pos h5] at q; simp only [h5, decide_true, if_true]; simp at q; omega
      · rw [if_neg h5] at q; simp only [h5, decide_false]; simp at q ⊢; omega
    · have E := Lib.hid (show t.has i = true ∧ t.mark i n = { t with marks := t.marks.set i n } ∧ errV (t.hasE i) = .nilIface by
        unfold Tb.mark Tb.hasE; rw [hh, show max n (-1) = n by omega]; exact ⟨rfl, rfl, rfl⟩)
      clear h hh hn hi
      go_enter Try.func29, Try.ntmps29
      go_wp2_with fail
      refine (has16 _ b cm mm S t d V I.out i).mono ?_
      rintro ev w1 ⟨rfl, hs⟩
      rw [E.out.1]
      have B := Lib.hid hs
      obtain ⟨D, hm⟩ := (I.out.step hs).mks
      have M := Lib.hid hm
      have c6 := (I.out.step hs).c6
      clear hs hm
      go_wp2_with (at_mapUpdate; refine wpList_mapUpdate_own _ rfl _ _ _ 76 rfl 3 3 keyN Try.underlying76 heldR mm _ D rfl M.out.own C64.out _ _ _ rfl rfl (keyN_of WX.out) (.held (.int .i64 n)) [] rfl ?_; intro w2 hown hgrow)
      have M2 := M.out.put WX.out hown
      have K2 := (Kept.of_grown hgrow).wide (T := fun k => k = mm) (fun k _ e => Option.some.inj e)
      go_ret
      refine I.out.mksTo B.out K2 (L := t.marks.set i n) (M2.turn (fun y => mkF_set HI.out (by omega) y) ?_) E.out.2.1 (by simp) OK.out E.out.2.2
      have q := cntM_set t.marks i _ n (List.getElem?_eq_getElem HI.out)
      have q2 : (mkF t.marks (i : Int)).isSome = decide (0 ≤ t.marks[i]'HI.out) := by
        unfold mkF; rw [mkAt_get (List.getElem?_eq_getElem HI.out)]; split <;> simp_all
      rw [q2]
      rw [if_pos (show 0 ≤ n by omega)] at q
      by_cases h5 : 0 ≤ t.marks[i]'HI.out
      · rw [if_pos h5] at q; simp only [h5, decide_true, if_true]; omega
      · rw [if_neg h5] at q; simp only [h5, decide_false]; simp at q ⊢; omega
end Go.Proofs.Ytkbfhpgcjljbbaa
