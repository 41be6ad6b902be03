/- The document's own table: its Swap, by a contract. -/
import Derived.Test.YtkkmfacngmginaaDoorMm
import Derived.Test.YtkkmfacngmginaaDoorMpRi
namespace Go.Proofs.YtkkmfacngmginaaDoor
open Go.RowKit

/-- what Swap leaves -/
theorem RefOk.swap {us : List Up} {L : List Pg} (h : RefOk us L) {i j : Nat} {r r' : Rf} (hi : L[i]? = Option.some (Option.some r)) (hj : us[j]? = Option.some ((i : Int), r)) : RefOk (us.set j ((i : Int), r')) (L.set i (Option.some r')) := by
  have hlt : j < us.length := (List.getElem?_eq_some_iff.1 hj).1
  have hil : i < L.length := (List.getElem?_eq_some_iff.1 hi).1
  have apart := List.pairwise_iff_getElem.1 h.apart
  refine ⟨fun u hu => ?_, fun i' r1 h1 => ?_, ?_⟩
  · obtain ⟨k, hk⟩ := List.mem_iff_getElem?.1 hu
    rw [List.getElem?_set] at hk
    by_cases e : j = k
    · rw [if_pos e, if_pos hlt] at hk
      obtain rfl := Option.some.inj hk
      exact ⟨i, rfl, by rw [List.getElem?_set, if_pos rfl, if_pos hil]⟩
    · rw [if_neg e] at hk
      obtain ⟨i', h1, h2⟩ := h.sound u (List.mem_of_getElem? hk)
      refine ⟨i', h1, ?_⟩
      rw [List.getElem?_set, if_neg (fun e2 => ?_)]
      · exact h2
      · subst e2
        have hkl := (List.getElem?_eq_some_iff.1 hk).1
        have e3 : us[k].1 = us[j].1 := by
          rw [(List.getElem?_eq_some_iff.1 hk).2, (List.getElem?_eq_some_iff.1 hj).2, h1]
        rcases Nat.lt_or_ge k j with hlt2 | hge
        · exact apart k j hkl hlt hlt2 e3
        · exact apart j k hlt hkl (by omega) e3.symm
  · by_cases e : i = i'
    · subst e
      exact ⟨((i : Int), r'), List.mem_iff_getElem?.2 ⟨j, by rw [List.getElem?_set, if_pos rfl, if_pos hlt]⟩, rfl⟩
    · rw [List.getElem?_set, if_neg e] at h1
      obtain ⟨u, hu, he⟩ := h.full i' r1 h1
      obtain ⟨k, hk⟩ := List.mem_iff_getElem?.1 hu
      refine ⟨u, List.mem_iff_getElem?.2 ⟨k, ?_⟩, he⟩
      rw [List.getElem?_set, if_neg (fun e2 => ?_)]
      · exact hk
      · subst e2
        rw [hj] at hk
        rw [← Option.some.inj hk] at he
        exact e (Int.ofNat.inj he)
  · rw [List.pairwise_iff_getElem]
    intro a b ha hb hab
    rw [List.length_set] at ha hb
    have ea : (us.set j ((i : Int), r'))[a].1 = us[a].1 := by
      rw [List.getElem_set]
      split
      · rename_i e; subst e; rw [(List.getElem?_eq_some_iff.1 hj).2]
      · rfl
    have eb : (us.set j ((i : Int), r'))[b].1 = us[b].1 := by
      rw [List.getElem_set]
      split
      · rename_i e; subst e; rw [(List.getElem?_eq_some_iff.1 hj).2]
      · rfl
    rw [ea, eb]
    exact apart a b ha hb hab
set_option maxRecDepth 100000 in
set_option maxHeartbeats 4000000 in
theorem rf_swap (n : Nat) (v : Value) (us : List Up) (L : List Pg) (x os og ns ng : Int) (w : World) (hv : OwnS lUp 0 w v us) (hr : RefOk us L) (hn : L.length = n) (hl : us.length ≤ 1000) :
    Calls Tryd.prog 34 #[refT n v, .int .i64 x, refV os og, refV ns ng] w fun ev w' => ∃ v' us', ev = .returned (.tuple #[refT n v', .bool (swapB L x (os, og)), .int .i64 (codeT L x)]) ∧ OwnS lUp 0 w' v' us' ∧ RefOk us' (swapL L x (os, og) (ns, ng)) ∧ us'.length ≤ us.length ∧ Below w.heap.size w w' := by
  obtain ⟨va, vc, rfl, hlc, hcm⟩ := hv.sv.lenform
  obtain ⟨N, hN⟩ : ∃ N, us.length = N := ⟨_, rfl⟩
  have H := Lib.hid hr
  have HL := Lib.hid (show L.length = n from hn)
  have LN := Lib.hid hN
  rw [hN] at hlc hv hl ⊢
  obtain ⟨w1, hw1⟩ : ∃ W, W = w.alloc (.cells #[.int .i64 n, .slice va N vc] 85) := ⟨_, rfl⟩
  obtain ⟨w2, hw2⟩ : ∃ W, W = w1.alloc (.cells #[.int .i64 os, .int .i64 og] 30) := ⟨_, rfl⟩
  obtain ⟨w3, hw3⟩ : ∃ W, W = w2.alloc (.cells #[.int .i64 ns, .int .i64 ng] 30) := ⟨_, rfl⟩
  obtain ⟨W, hW⟩ : ∃ W, W = w3.alloc (.cells #[.int .i64 0, .slice none 0 0] 85) := ⟨_, rfl⟩
  have b1 := alloc_below0 w (.cells #[.int .i64 n, .slice va N vc] 85)
  have k1 := blk_new w (.cells #[.int .i64 n, .slice va N vc] 85)
  rw [← hw1] at b1 k1
  have b2 := alloc_below0 w1 (.cells #[.int .i64 os, .int .i64 og] 30)
  have k2 := blk_new w1 (.cells #[.int .i64 os, .int .i64 og] 30)
  rw [← hw2] at b2 k2
  have b3 := alloc_below0 w2 (.cells #[.int .i64 ns, .int .i64 ng] 30)
  have k3 := blk_new w2 (.cells #[.int .i64 ns, .int .i64 ng] 30)
  rw [← hw3] at b3 k3
  have b4 := alloc_below0 w3 (.cells #[.int .i64 0, .slice none 0 0] 85)
  have k4 := blk_new w3 (.cells #[.int .i64 0, .slice none 0 0] 85)
  rw [← hW] at b4 k4
  have z1 : w1.heap.size = w.heap.size + 1 := by rw [hw1]; simp
  have z2 : w2.heap.size = w.heap.size + 1 + 1 := by rw [hw2]; simp [z1]
  have z3 : w3.heap.size = w.heap.size + 1 + 1 + 1 := by rw [hw3]; simp [z2]
  have Z := Lib.hid (show W.heap.size = w.heap.size + 4 by rw [hW]; simp [z3])
  have B0 := Lib.hid (show Below w.heap.size w W from ((b1.trans (b2.mono b1.size)).trans (b3.mono (Nat.le_trans b1.size b2.size))).trans (b4.mono (Nat.le_trans (Nat.le_trans b1.size b2.size) b3.size)))
  have K0 := Lib.hid (blk_step (blk_step (blk_step k1 b2) b3) b4)
  have K1 := Lib.hid (blk_step (blk_step k2 b3) b4)
  have K2 := Lib.hid (blk_step k3 b4)
  have K3 := Lib.hid k4
  rw [z1] at K1
  rw [z2] at K2
  rw [z3] at K3
  rw [hw3, hw2, hw1] at hW
  have V := Lib.hid (hv.below B0.out)
  have V00 := Lib.hid hv
  clear hv hr hN hn b1 b2 b3 b4 k1 k2 k3 k4 z1 z2 z3 hw1 hw2 hw3
  clear w1 w2 w3
  have fw := fun w h => rf_why n (.slice va N vc) us L x w h H.out HL.out
  have fc := fun w h => mp_rf_find n (.slice va N vc) us x w h
  unfold refT at fw fc ⊢
  unfold refV
  go_enter Tryd.func34, Tryd.ntmps34
  go_wp2_with fail
  rw [← hW]
  refine (fw _ V.out.sv).mono ?_
  rintro ev w1 ⟨rfl, hs⟩
  have B1 := Lib.hid (B0.out.trans (hs.mono B0.out.size))
  have B1W := Lib.hid hs
  have KT := Lib.hid (blk_step K0.out hs)
  have KO := Lib.hid (blk_step K1.out hs)
  have KN := Lib.hid (blk_step K2.out hs)
  have KZ := Lib.hid (blk_step K3.out hs)
  have V1 := Lib.hid (V.out.below hs)
  have t0 : w1.cell? ⟨w.heap.size, 0, none⟩ = some (.int .i64 n) := blk_cell KT.out 0
  have t1 : w1.cell? ⟨w.heap.size, 1, none⟩ = some (.slice va N vc) := blk_cell KT.out 1
  clear hs hW K0 K1 K2 K3
  by_cases hc : codeT L x = 0
  · have HC := Lib.hid hc
    obtain ⟨i, s, g, rfl, hg, hh⟩ : ∃ (i : Nat) (s g : Int), x = i ∧ L[i]? = some (some (s, g)) ∧ headT L x = (s, g) := by
      rcases page_cases L x with ⟨h, -⟩ | ⟨i, -, -, h⟩ | ⟨i, ⟨s, g⟩, h1, h2, -, h4⟩
      · rw [hc] at h; cases h
      · rw [hc] at h; cases h
      · exact ⟨i, s, g, h1, h2, h4⟩
    obtain ⟨j, hu, hj⟩ := H.out.here hg
    have U := Lib.hid (show upIx us i = (j : Int) by unfold upIx; rw [hu]; rfl)
    have HJ := Lib.hid hj
    have RO := Lib.hid (H.out.swap (r' := (ns, ng)) hg hj)
    have SB := Lib.hid (show swapB L i (os, og) = decide ((s, g) = (os, og)) by unfold swapB; rw [hc, hh]; simp)
    have hlt : j < N := by rw [← LN.out]; exact (List.getElem?_eq_some_iff.1 hj).1
    obtain ⟨b, off, ha⟩ := V1.out.sv.addr (by rw [LN.out]; omega)
    subst ha
    have j3 : (0 : Int) ≤ (j : Int) := by omega
    have j4 : (j : Int) < (N : Int) := by omega
    rw [hc]
    clear hc hg hu hj hh
    go_wp2_with fail
    refine (fc _ V1.out.sv).mono ?_
    rintro ev w3 ⟨rfl, hs⟩
    rw [U.out]
    have t0 := cell_step t0 hs
    have t1 := cell_step t1 hs
    have V3 := Lib.hid (V1.out.below hs)
    have B3 := Lib.hid (B1.out.trans (hs.mono B1.out.size))
    have KT3 := Lib.hid (blk_step KT.out hs)
    have KO3 := blk_step KO.out hs
    have KN3 := Lib.hid (blk_step KN.out hs)
    have KZ3 := Lib.hid (blk_step KZ.out hs)
    have SZ := Lib.hid (show w.heap.size + 4 ≤ w3.heap.size by have := B1W.out.size; rw [Z.out] at this; exact Nat.le_trans this hs.size)
    have o0 : w3.cell? ⟨w.heap.size + 1, 0, none⟩ = some (.int .i64 os) := blk_cell KO3 0
    have o1 : w3.cell? ⟨w.heap.size + 1, 1, none⟩ = some (.int .i64 og) := blk_cell KO3 1
    have x1 := V3.out.sv.cellAt (j := 1) HJ.out rfl
    have x2 := V3.out.sv.cellAt (j := 2) HJ.out rfl
    simp only [lUp] at x1 x2
    have JL := Lib.hid hlt
    clear hs KO3 fw fc
    go_wp2_with fail
    by_cases he : s = os ∧ g = og
    · have HE := Lib.hid he
      have q1 : (s == os) = true := by simp [he.1]
      have q2 : (g == og) = true := by simp [he.2]
      have ST := Lib.hid (show swapB L i (os, og) = true by rw [SB.out]; simp [he.1, he.2])
      have SL := Lib.hid (show swapL L i (os, og) (ns, ng) = L.set i (some (ns, ng)) by unfold swapL; rw [if_pos ST.out]; rfl)
      clear he
      go_quiet (fail)
      have BZ := Lib.hid ((below_drewN (Below.refl w3.heap.size w3) nq).trans (alloc_below0 (w3.drewN nq) (.cells #[] 147)))
      have V4 := Lib.hid (V3.out.below BZ.out)
      have O0 := Lib.hid (show OwnS lUp w3.heap.size ((w3.drewN nq).alloc (.cells #[] 147)) (.slice (some ⟨w3.heap.size, 0, none⟩) 0 0) [] from OwnS.lit lUp w3.heap.size (w3.drewN nq) w3.heap.size rfl [] (Nat.le_refl _) (by simp))
      have c1 := cell_step t1 BZ.out
      have nN : ¬ us.length = 0 := by have := LN.out; have := JL.out; omega
      clear o0 o1 x1 x2 t0 t1
      go_wp2_with (refine wpList_appS lUp 83 Tryd.underlying83 lUp_known (by decide) (by decide) rfl (.tmp 33) (.tmp 35) rfl w3.heap.size rfl rfl O0.out V4.out.sv (by have := LN.out; simp; omega) BZ.out.size ?_
                   intro v5 w5 ho hg
                   have P5 := Lib.hid (mp_grown_below BZ.out O0.out hg BZ.out.size)
                   rw [List.nil_append] at ho
                   obtain ⟨m, cap, rfl, h1, h2, h3, h4⟩ := ho.form nN
                   rw [LN.out] at ho h4 ⊢
                   have O5 := Lib.hid ho
                   have G := Lib.hid (show w3.heap.size ≤ m from h1)
                   have y1 := ho.sv.cellAt (j := 1) HJ.out rfl
                   have y2 := ho.sv.cellAt (j := 2) HJ.out rfl
                   simp only [lUp, Nat.zero_add] at y1 y2
                   have f1 := ho.free (j * 3 + 1)
                   have f2 := ho.free (j * 3 + 2)
                   have KN5 := blk_step KN3.out P5.out.1
                   have e0 : w5.cell? ⟨w.heap.size + 1 + 1, 0, none⟩ = some (.int .i64 ns) := blk_cell KN5 0
                   have e1 : w5.cell? ⟨w.heap.size + 1 + 1, 1, none⟩ = some (.int .i64 ng) := blk_cell KN5 1
                   have KT5 := blk_off (blk_off (blk_step KT3.out P5.out.1) (b := m) (by have := G.out; have := SZ.out; omega) (j * 3 + 1) (.int .i64 ns)) (b := m) (by have := G.out; have := SZ.out; omega) (j * 3 + 2) (.int .i64 ng)
                   have KZ5 := blk_off (blk_off (blk_step KZ3.out P5.out.1) (b := m) (by have := G.out; have := SZ.out; omega) (j * 3 + 1) (.int .i64 ns)) (b := m) (by have := G.out; have := SZ.out; omega) (j * 3 + 2) (.int .i64 ng)
                   have c5 := blk_cell KT5 1
                   have f5 := blk_free KT5 1
                   simp only [List.getElem?_toArray, List.getElem?_cons_zero, List.getElem?_cons_succ] at c5
                   have K7 := blk_set KT5 1 (.slice (some ⟨m, 0, none⟩) N cap)
                   have d0 := blk_cell K7 0
                   have d1 := blk_cell K7 1
                   have KR := blk_off KZ5 (b := w.heap.size) (by omega) 1 (.slice (some ⟨m, 0, none⟩) N cap)
                   obtain ⟨q0, q1, q2, q3, q4⟩ := two_facts KR (.int .i64 n) (.slice (some ⟨m, 0, none⟩) N cap)
                   have Q4 := Lib.hid q4
                   clear ho hg h1 h2 h3 KN5 KT5 KZ5 K7 KR q4)
      have hjl : j < us.length := by have := LN.out; have := JL.out; omega
      have s1 := O5.out.set (y := ((i : Int), ns, g)) (u := .int .i64 ns) HJ.out (j := 1) (by decide) rfl
      have s2 := s1.set (x := ((i : Int), ns, g)) (y := ((i : Int), ns, ng)) (u := .int .i64 ng) (i := j) (by simp [hjl]) (j := 2) (by decide) rfl
      rw [List.set_set] at s2
      have hm : w.heap.size + 4 ≤ m := by have := G.out; have := SZ.out; omega
      have OE := ((s2.setOther (b := w.heap.size) (o := 1) (x := .slice (some ⟨m, 0, none⟩) N cap) (fun k hk => by have := (s2.bounds k hk).1; have := SZ.out; omega)).setOther (b := w.heap.size + 1 + 1 + 1) (o := 0) (x := .int .i64 n) (fun k hk => by have := (s2.bounds k hk).1; have := SZ.out; omega)).setOther (b := w.heap.size + 1 + 1 + 1) (o := 1) (x := .slice (some ⟨m, 0, none⟩) N cap) (fun k hk => by have := (s2.bounds k hk).1; have := SZ.out; omega)
      have BW := B3.out.trans (P5.out.1.mono B3.out.size)
      have BE := below_set (below_set (below_set (below_set (below_set BW (b := m) (by omega) (j * 3 + 1) (.int .i64 ns)) (b := m) (by omega) (j * 3 + 2) (.int .i64 ng)) (b := w.heap.size) (Nat.le_refl _) 1 (.slice (some ⟨m, 0, none⟩) N cap)) (b := w.heap.size + 1 + 1 + 1) (by omega) 0 (.int .i64 n)) (b := w.heap.size + 1 + 1 + 1) (by omega) 1 (.slice (some ⟨m, 0, none⟩) N cap)
      refine bodyPost_ret (v := .tuple #[.agg #[.int .i64 n, .slice (some ⟨m, 0, none⟩) N cap], .bool true, .int .i64 0]) (results_cell3 rfl _ _ (w.heap.size + 1 + 1 + 1) [.int .i64 n, .slice (some ⟨m, 0, none⟩) N cap] _ (.bool true) (.int .i64 0) rfl rfl rfl (rng2 Q4.out) Tryd.underlying85 rfl (by kernel_rfl)) rfl ?_
      rw [HC.out, ST.out, SL.out]
      exact ⟨_, us.set j ((i : Int), ns, ng), rfl, OE.mono (Nat.zero_le _), RO.out, by rw [List.length_set, LN.out]; exact Nat.le_refl _, BE⟩
    · have SF := Lib.hid (show swapB L i (os, og) = false by rw [SB.out]; simp; exact fun h1 h2 => he ⟨h1, h2⟩)
      have SL := Lib.hid (show swapL L i (os, og) (ns, ng) = L by unfold swapL; rw [SF.out]; rfl)
      have D := Lib.hid (show (s == os) = false ∨ (s == os) = true ∧ (g == og) = false by
        by_cases e : s = os
        · exact .inr ⟨by simp [e], by simp; exact fun h => he ⟨e, h⟩⟩
        · exact .inl (by simp [e]))
      clear he
      rcases D.out with q1 | ⟨q1, q2⟩
      all_goals
        go_quiet (fail)
        have Bq := Lib.hid (below_drewN B3.out nq)
        obtain ⟨z0, z1, z2, z3, z4⟩ := two_facts (w := w3.drewN nq) KZ3.out (.int .i64 n) (.slice (some ⟨b, off, none⟩) N vc)
        have Z4 := Lib.hid z4
        clear z4
        go_wp2_with fail
        have BE := below_set (below_set Bq.out (b := w.heap.size + 1 + 1 + 1) (by omega) 0 (.int .i64 n)) (b := w.heap.size + 1 + 1 + 1) (by omega) 1 (.slice (some ⟨b, off, none⟩) N vc)
        refine bodyPost_ret (v := .tuple #[.agg #[.int .i64 n, .slice (some ⟨b, off, none⟩) N vc], .bool false, .int .i64 0]) (results_cell3 rfl _ _ (w.heap.size + 1 + 1 + 1) [.int .i64 n, .slice (some ⟨b, off, none⟩) N vc] _ (.bool false) (.int .i64 0) rfl rfl rfl (rng2 Z4.out) Tryd.underlying85 rfl (by kernel_rfl)) rfl ?_
        rw [HC.out, SF.out, SL.out]
        exact ⟨_, us, rfl, V00.out.below BE, H.out, by rw [LN.out]; exact Nat.le_refl _, BE⟩
  · have q : (codeT L x == 0) = false := by rw [beq_eq_false_iff_ne]; exact hc
    have SB := Lib.hid (show swapB L x (os, og) = false by unfold swapB; rw [decide_eq_false hc]; rfl)
    have SL := Lib.hid (show swapL L x (os, og) (ns, ng) = L by unfold swapL; rw [SB.out]; rfl)
    have nz1 : ¬ w.heap.size + 1 + 1 + 1 = w.heap.size := by omega
    have nz2 : ¬ w.heap.size = w.heap.size + 1 + 1 + 1 := by omega
    clear hc
    go_wp2_with fail
    go_region_held3 (fun w' => w'.cell? ⟨w.heap.size, 0, none⟩ = some (.int .i64 n) ∧ w'.cell? ⟨w.heap.size, 1, none⟩ = some (.slice va N vc)) (first | exact ⟨by assumption, by assumption⟩ | go_keep)
      (first
        | (go_at_call 65; (with_reducible refine (fw _ ?_).mono ?_); exact V1.out.sv.below (Below.refl _ _).drew; rintro e w5 ⟨rfl, hs⟩; have B5 := Lib.hid ((B1.out.drew).trans (hs.mono B1.out.size)); have u0 := cell_step t0 ((Below.refl _ w1).drew.trans hs); have u1 := cell_step t1 ((Below.refl _ w1).drew.trans hs); obtain ⟨q0, q1, q2, q3, q4⟩ := two_facts (blk_step KZ.out ((Below.refl _ w1).drew.trans hs)) (.int .i64 n) (.slice va N vc); have Q4 := Lib.hid q4; clear hs q4))
    go_wp2
    have BE := below_set (below_set B5.out (b := w.heap.size + 1 + 1 + 1) (by omega) 0 (.int .i64 n)) (b := w.heap.size + 1 + 1 + 1) (by omega) 1 (.slice va N vc)
    refine bodyPost_ret (v := .tuple #[.agg #[.int .i64 n, .slice va N vc], .bool false, .int .i64 (codeT L x)]) (results_cell3 rfl _ _ (w.heap.size + 1 + 1 + 1) [.int .i64 n, .slice va N vc] _ (.bool false) (.int .i64 (codeT L x)) rfl rfl rfl (rng2 Q4.out) Tryd.underlying85 rfl (by kernel_rfl)) rfl ?_
    rw [SB.out, SL.out]
    exact ⟨_, us, rfl, V00.out.below BE, H.out, by rw [LN.out]; exact Nat.le_refl _, BE⟩
end Go.Proofs.YtkkmfacngmginaaDoor
