/- The document's own table: its Take, by a contract. -/
import Derived.Test.YtkkmfacngmginaaDoorMm
import Derived.Test.YtkkmfacngmginaaDoorMpRf
namespace Go.Proofs.YtkkmfacngmginaaDoor
open Go.RowKit

set_option maxRecDepth 100000 in
set_option maxHeartbeats 4000000 in
theorem rf_head (n : Nat) (v : Value) (us : List Up) (L : List Pg) (x : Int) (w : World) (hv : SV lUp w v us) (hr : RefOk us L) (hn : L.length = n) :
    Calls Tryd.prog 69 #[refT n v, .int .i64 x] w fun ev w' => ev = .returned (.tuple #[refV (headT L x).1 (headT L x).2, .int .i64 (codeT L x)]) ∧ Below w.heap.size w w' := by
  obtain ⟨va, vc, rfl, hlc, hcm⟩ := hv.lenform
  obtain ⟨N, hN⟩ : ∃ N, us.length = N := ⟨_, rfl⟩
  have H := Lib.hid hr
  have LL := Lib.hid (show us.length = N ∧ L.length = n from ⟨hN, hn⟩)
  rw [hN] at hlc hv ⊢
  obtain ⟨W, hW⟩ : ∃ W, W = (w.alloc (.cells #[.int .i64 n, .slice va N vc] 85)).alloc (.cells #[.int .i64 0, .int .i64 0] 30) := ⟨_, rfl⟩
  have z1 : (w.alloc (.cells #[.int .i64 n, .slice va N vc] 85)).heap.size = w.heap.size + 1 := by simp
  have b1 := alloc_below0 w (.cells #[.int .i64 n, .slice va N vc] 85)
  have b2 := alloc_below0 (w.alloc (.cells #[.int .i64 n, .slice va N vc] 85)) (.cells #[.int .i64 0, .int .i64 0] 30)
  have B0 := Lib.hid (show Below w.heap.size w W by rw [hW]; exact b1.trans (b2.mono b1.size))
  have K0 := Lib.hid (show W.heap[w.heap.size]? = some (.cells #[.int .i64 n, .slice va N vc] 85 (0, 0)) by rw [hW]; exact blk_step (blk_new w _) b2)
  have K1 := Lib.hid (show W.heap[w.heap.size + 1]? = some (.cells #[.int .i64 0, .int .i64 0] 30 (0, 0)) by rw [hW, ← z1]; exact blk_new _ _)
  have V := Lib.hid (hv.below B0.out)
  have V00 := Lib.hid hv
  clear hv hr hN hn b1 b2 z1
  unfold refT
  go_enter Tryd.func69, Tryd.ntmps69
  go_wp2_with fail
  rw [← hW]
  refine (rf_why n _ us L x _ V.out H.out LL.out.2).mono ?_
  rintro ev w1 ⟨rfl, hs⟩
  have B1 := Lib.hid (B0.out.trans (hs.mono B0.out.size))
  have K2 := Lib.hid (blk_step K0.out hs)
  have K3 := Lib.hid (blk_step K1.out hs)
  have V1 := Lib.hid (V.out.below hs)
  have t0 : w1.cell? ⟨w.heap.size, 0, none⟩ = some (.int .i64 n) := blk_cell K2.out 0
  have t1 : w1.cell? ⟨w.heap.size, 1, none⟩ = some (.slice va N vc) := blk_cell K2.out 1
  clear hs hW
  by_cases hc : codeT L x = 0
  · have HC := Lib.hid hc
    obtain ⟨i, s, g, rfl, hg, hh⟩ : ∃ (i : Nat) (s g : Int), x = i ∧ L[i]? = some (some (s, g)) ∧ headT L x = (s, g) := by
      rcases page_cases L x with ⟨h, -⟩ | ⟨i, -, -, h⟩ | ⟨i, ⟨s, g⟩, h1, h2, -, h4⟩
      · rw [hc] at h; cases h
      · rw [hc] at h; cases h
      · exact ⟨i, s, g, h1, h2, h4⟩
    obtain ⟨j, hu, hj⟩ := H.out.here hg
    have HH := Lib.hid hh
    have U := Lib.hid (show upIx us i = (j : Int) by unfold upIx; rw [hu]; rfl)
    have HJ := Lib.hid hj
    have hlt : j < N := by rw [← LL.out.1]; exact (List.getElem?_eq_some_iff.1 hj).1
    obtain ⟨b, off, ha⟩ := V1.out.addr (by rw [LL.out.1]; omega)
    subst ha
    have nb : ¬ b = w.heap.size + 1 := by have := lt_of_cell (V00.out.cellAt (j := 0) hj rfl); omega
    have nc : ¬ w.heap.size + 1 = b := fun e => nb e.symm
    have x1 := V1.out.cellAt (j := 1) hj rfl
    have x2 := V1.out.cellAt (j := 2) hj rfl
    simp only [lUp] at x1 x2
    have j3 : (0 : Int) ≤ (j : Int) := by omega
    have j4 : (j : Int) < (N : Int) := by omega
    rw [hc]
    clear hc hg hh hu hj hlt
    go_wp2_with fail
    have fc := fun w h => mp_rf_find n (.slice (some ⟨b, off, none⟩) N vc) us i w h
    unfold refT at fc
    go_region_held3 (fun w' => w'.cell? ⟨w.heap.size, 0, none⟩ = some (.int .i64 n) ∧ w'.cell? ⟨w.heap.size, 1, none⟩ = some (.slice (some ⟨b, off, none⟩) N vc) ∧ w'.cell? ⟨b, off + j * 3 + 1, none⟩ = some (.int .i64 s) ∧ w'.cell? ⟨b, off + j * 3 + 1 + 1, none⟩ = some (.int .i64 g)) (first | exact ⟨by assumption, by assumption, by assumption, by assumption⟩ | go_keep)
      (first
        | (go_at_call 66; (with_reducible refine (fc _ ?_).mono ?_); exact V1.out.below (Below.refl _ _).drew; rintro e w5 ⟨rfl, hs⟩; have B5 := Lib.hid ((B1.out.drew).trans (hs.mono B1.out.size)); have V5 := (V1.out.below (Below.refl _ _).drew).below hs; have y1 := V5.cellAt (j := 1) HJ.out rfl; have y2 := V5.cellAt (j := 2) HJ.out rfl; simp only [lUp] at y1 y2; have u0 := cell_step t0 ((Below.refl _ w1).drew.trans hs); have u1 := cell_step t1 ((Below.refl _ w1).drew.trans hs); obtain ⟨q0, q1, q2, q3, q4⟩ := two_facts (blk_step K3.out ((Below.refl _ w1).drew.trans hs)) (.int .i64 s) (.int .i64 g); have Q4 := Lib.hid q4; rw [U.out]; clear hs V5 q4))
    go_wp2
    refine bodyPost_ret (v := .tuple #[.agg #[.int .i64 s, .int .i64 g], .int .i64 0]) (results_cellT rfl _ _ (w.heap.size + 1) [.int .i64 s, .int .i64 g] _ (.int .i64 0) rfl rfl (rng2 Q4.out) Tryd.underlying30 rfl (by kernel_rfl)) rfl ⟨by rw [HH.out, HC.out]; rfl, below_set (below_set B5.out (by omega) _ _) (by omega) _ _⟩
  · have q : (codeT L x == 0) = false := by rw [beq_eq_false_iff_ne]; exact hc
    have HH := Lib.hid (headT_none hc)
    clear hc
    go_wp2_with fail
    refine (rf_why n _ us L x _ V1.out H.out LL.out.2).mono ?_
    rintro ev w2 ⟨rfl, hs⟩
    have B2 := Lib.hid (B1.out.trans (hs.mono B1.out.size))
    obtain ⟨q0, q1, q2, q3, q4⟩ := two_facts (blk_step K3.out hs) (.int .i64 0) (.int .i64 0)
    have Q4 := Lib.hid q4
    clear hs q4
    go_wp2_with fail
    refine bodyPost_ret (v := .tuple #[.agg #[.int .i64 0, .int .i64 0], .int .i64 (codeT L x)]) (results_cellT rfl _ _ (w.heap.size + 1) [.int .i64 0, .int .i64 0] _ (.int .i64 (codeT L x)) rfl rfl (rng2 Q4.out) Tryd.underlying30 rfl (by kernel_rfl)) rfl ⟨by rw [HH.out]; rfl, below_set (below_set B2.out (by omega) _ _) (by omega) _ _⟩
open Go.RowKit

theorem results_cell3 {fn : Func} {p u1 u2 : Tmp} {ty : TypeId} (h : fn.results = #[.cell p ty, .tmp u1, .tmp u2]) (tmps : Array Value) (w : World) (b : Nat) (cs : List Value) (d : TypeDesc) (e1 e2 : Value) (hp : tmps.getD p undef = .pointer (some ⟨b, 0, none⟩)) (h1 : tmps.getD u1 undef = e1) (h2 : tmps.getD u2 undef = e2) (hc : w.rangeAt b 0 cs)
    (hu : Tryd.prog.underlying ty = some d) (hd : d.isRow = true) (hi : (Tryd.prog.info? ty).map (·.size) = some cs.length) : (results fn tmps).run Tryd.prog w = .ok (.tuple #[.agg cs.toArray, e1, e2]) w := by
  have hl := run_loadVar_mid w b 0 ty cs d hc hu hd hi
  have hp' : tmps[p]?.getD undef = .pointer (some ⟨b, 0, none⟩) := by simpa using hp
  have h1' : tmps[u1]?.getD undef = e1 := by simpa using h1
  have h2' : tmps[u2]?.getD undef = e2 := by simpa using h2
  simp only [results, h]
  simp [hp', h1', h2', asAddr, hl, Result.andThen]
/-- what Take leaves -/
theorem RefOk.take {us : List Up} {L : List Pg} (h : RefOk us L) {k : Nat} (hk : L[k]? = some none) : RefOk (us ++ [((k : Int), 0, 0)]) (L.set k (some (0, 0))) := by
  have hlt := (List.getElem?_eq_some_iff.1 hk).1
  refine ⟨fun u hu => ?_, fun i r hi => ?_, ?_⟩
  · rcases List.mem_append.1 hu with hu | hu
    · obtain ⟨i, h1, h2⟩ := h.sound u hu
      refine ⟨i, h1, ?_⟩
      rw [List.getElem?_set, if_neg (fun e => by subst e; rw [hk] at h2; cases h2)]
      exact h2
    · obtain rfl := List.mem_singleton.1 hu
      exact ⟨k, rfl, by rw [List.getElem?_set, if_pos rfl, if_pos hlt]⟩
  · by_cases e : k = i
    · subst e
      exact ⟨_, List.mem_append_right _ (List.mem_singleton.2 rfl), rfl⟩
    · rw [List.getElem?_set, if_neg e] at hi
      obtain ⟨u, hu, he⟩ := h.full i r hi
      exact ⟨u, List.mem_append_left _ hu, he⟩
  · rw [List.pairwise_append]
    refine ⟨h.apart, List.pairwise_singleton _ _, fun a ha b hb => ?_⟩
    obtain rfl := List.mem_singleton.1 hb
    obtain ⟨i, h1, h2⟩ := h.sound a ha
    intro e
    rw [h1] at e
    have : i = k := Int.ofNat.inj e
    subst this
    rw [hk] at h2; cases h2
theorem takeL_hit {L : List Pg} {k : Nat} (h : ∀ j, j < k → (pageAt L (j : Int)).isSome = true) (hk : L[k]? = some none) : takeN L = k ∧ takeE L = 0 ∧ takeL L = L.set k (some (0, 0)) := by
  unfold takeN takeE takeL; rw [firstFree_hit h hk]; exact ⟨rfl, rfl, rfl⟩
theorem takeL_none {L : List Pg} (h : ∀ j, j < L.length → (pageAt L (j : Int)).isSome = true) : takeN L = 0 ∧ takeE L = 3 ∧ takeL L = L := by
  unfold takeN takeE takeL; rw [firstFree_none h]; exact ⟨rfl, rfl, rfl⟩
set_option maxRecDepth 100000 in
set_option maxHeartbeats 4000000 in
theorem rf_take (n : Nat) (v : Value) (us : List Up) (L : List Pg) (w : World) (hv : OwnS lUp 0 w v us) (hr : RefOk us L) (hn : L.length = n) (hn2 : n ≤ 256) (hl : us.length ≤ 1000) :
    Calls Tryd.prog 63 #[refT n v] w fun ev w' => ∃ v' us', ev = .returned (.tuple #[refT n v', .int .i64 (takeN L : Int), .int .i64 (takeE L)]) ∧ OwnS lUp 0 w' v' us' ∧ RefOk us' (takeL L) ∧ us'.length ≤ us.length + 1 ∧ Below w.heap.size w w' := by
  obtain ⟨va, vc, rfl, hlc, hcm⟩ := hv.sv.lenform
  obtain ⟨N, hN⟩ : ∃ N, us.length = N := ⟨_, rfl⟩
  have H := Lib.hid hr
  have HL := Lib.hid (show L.length = n from hn)
  have LN := Lib.hid hN
  rw [hN] at hlc hv hl ⊢
  obtain ⟨W, hW⟩ : ∃ W, W = (w.alloc (.cells #[.int .i64 n, .slice va N vc] 85)).alloc (.cells #[.int .i64 0, .slice none 0 0] 85) := ⟨_, rfl⟩
  have z1 : (w.alloc (.cells #[.int .i64 n, .slice va N vc] 85)).heap.size = w.heap.size + 1 := by simp
  have b1 := alloc_below0 w (.cells #[.int .i64 n, .slice va N vc] 85)
  have b2 := alloc_below0 (w.alloc (.cells #[.int .i64 n, .slice va N vc] 85)) (.cells #[.int .i64 0, .slice none 0 0] 85)
  have B0 := Lib.hid (show Below w.heap.size w W by rw [hW]; exact b1.trans (b2.mono b1.size))
  have K0 := Lib.hid (show W.heap[w.heap.size]? = some (.cells #[.int .i64 n, .slice va N vc] 85 (0, 0)) by rw [hW]; exact blk_step (blk_new w _) b2)
  have K1 := Lib.hid (show W.heap[w.heap.size + 1]? = some (.cells #[.int .i64 0, .slice none 0 0] 85 (0, 0)) by rw [hW, ← z1]; exact blk_new _ _)
  have V := Lib.hid (hv.below B0.out)
  have V00 := Lib.hid hv
  have hz : W.heap.size = w.heap.size + 2 := by rw [hW]; simp
  have Z := Lib.hid hz
  clear hv hr hN hn b1 b2 z1 hz
  unfold refT
  go_enter Tryd.func63, Tryd.ntmps63
  go_wp2
  rw [← hW]
  go_loopg [5] n (fun r i wr => ∃ k : Nat, k + r = n ∧ i = .int .i64 k ∧ (∀ j, j < k → (pageAt L (j : Int)).isSome = true) ∧ Below W.heap.size W wr)
  case atStart => exact ⟨0, by omega, rfl, fun j hj => absurd hj (by omega), Below.refl _ _⟩
  case round =>
    obtain ⟨k, hk, rfl, hU, hB⟩ := hrel
    have A := Lib.hid hB
    have U := Lib.hid hU
    have V1 := Lib.hid (V.out.below hB)
    have t0 : wr.cell? ⟨w.heap.size, 0, none⟩ = some (.int .i64 n) := blk_cell (blk_step K0.out hB) 0
    have t1 : wr.cell? ⟨w.heap.size, 1, none⟩ = some (.slice va N vc) := blk_cell (blk_step K0.out hB) 1
    clear hB hU
    by_cases hlt : k < n
    · have hL : k < L.length := by rw [HL.out]; exact hlt
      have i1 : IntKind.i64.wrap ((k : Int) + 1) = (k : Int) + 1 := Go.IntWalk.i64_in _ (by omega)
      have j4 : (k : Int) < (n : Int) := by omega
      have hg := List.getElem?_eq_getElem hL
      have HK := Lib.hid hk
      clear hk
      cases hp : L[k] with
      | none =>
        rw [hp] at hg
        have hu := H.out.gone (x := (k : Int)) (by rw [codeT_at hg]; decide)
        have UI := Lib.hid (show upIx us k = -1 by unfold upIx; rw [hu]; rfl)
        have T := Lib.hid (takeL_hit U.out hg)
        have RO := Lib.hid (H.out.take hg)
        clear hg hu hp
        go_wp2_with fail
        refine (mp_rf_find n _ us k _ V1.out.sv).mono ?_
        rintro ev w3 ⟨rfl, hs⟩
        rw [UI.out]
        have B3 := Lib.hid (A.out.trans (hs.mono A.out.size))
        have bz := alloc_below0 w3 (.cells #[] 147)
        have V4 := Lib.hid ((V1.out.below hs).below bz)
        have O0 := Lib.hid (OwnS.lit lUp w3.heap.size w3 w3.heap.size rfl [] (Nat.le_refl _) (by simp))
        have BZ := Lib.hid bz
        have K3 := Lib.hid (blk_step K0.out B3.out)
        have K4 := Lib.hid (blk_step K1.out B3.out)
        have c0 : (w3.alloc (.cells #[] 147)).cell? ⟨w.heap.size, 1, none⟩ = some (.slice va N vc) := blk_cell (blk_step K3.out bz) 1
        clear hs bz
        go_wp2_with (first
          | (refine wpList_appS lUp 83 Tryd.underlying83 lUp_known (by decide) (by decide) rfl (.tmp 16) (.tmp 18) rfl w3.heap.size rfl rfl O0.out V4.out.sv (by have := LN.out; simp; omega) BZ.out.size ?_
             intro v5 w5 ho5 hg5
             rw [List.nil_append] at ho5
             have B5 := Lib.hid (BZ.out.trans ((Kept.of_grown hg5).below (n := w3.heap.size) (fun j hj => (O0.out.bounds j hj.symm).1) BZ.out.size))
             have bx := alloc_below0 w5 (.cells #[.int .i64 (k : Int), .int .i64 0, .int .i64 0] 147)
             have SR := Lib.hid (OwnS.lit lUp w3.heap.size w5 w5.heap.size rfl [((k : Int), 0, 0)] B5.out.size (by simp [maxLen])).sv
             have O5 := Lib.hid (ho5.below bx)
             have B6 := Lib.hid (B5.out.trans (bx.mono B5.out.size))
             clear ho5 hg5 bx)
          | (refine wpList_appS lUp 83 Tryd.underlying83 lUp_known (by decide) (by decide) rfl (.tmp 19) (.tmp 22) rfl w3.heap.size rfl rfl O5.out SR.out (by have := LN.out; simp; omega) B6.out.size ?_
             intro v7 w7 ho7 hg7
             have B7 := Lib.hid (B6.out.trans ((Kept.of_grown hg7).below (n := w3.heap.size) (fun j hj => (O5.out.bounds j hj.symm).1) B6.out.size))
             obtain ⟨a7, q7, rfl, -, -⟩ := ho7.lenN (n := N + 1) (by rw [List.length_append, LN.out]; rfl)
             have O7 := Lib.hid ho7
             have K5 := blk_step K3.out B7.out
             have K6 := blk_step K4.out B7.out
             have e0 := blk_cell K5 1
             have e1 := blk_free K5 1
             have K7 := blk_set K5 1 (.slice a7 (N + 1) q7)
             have K8 := blk_off K6 (b := w.heap.size) (by omega) 1 (.slice a7 (N + 1) q7)
             have d0 := blk_cell K7 0
             have d1 := blk_cell K7 1
             obtain ⟨q0, q1, q2, q3, q4⟩ := two_facts K8 (.int .i64 n) (.slice a7 (N + 1) q7)
             have Q4 := Lib.hid q4
             clear ho7 hg7 K5 K6 K7 K8 q4))
        have BW := B0.out.trans (B3.out.mono B0.out.size)
        have BE := below_set (below_set (below_set (BW.trans (B7.out.mono BW.size)) (b := w.heap.size) (Nat.le_refl _) 1 (.slice a7 (N + 1) q7)) (b := w.heap.size + 1) (by omega) 0 (.int .i64 n)) (b := w.heap.size + 1) (by omega) 1 (.slice a7 (N + 1) q7)
        have sz : w.heap.size + 2 ≤ w3.heap.size := by have := B3.out.size; rw [Z.out] at this; exact this
        have OE := ((O7.out.setOther (b := w.heap.size) (o := 1) (x := .slice a7 (N + 1) q7) (fun k hk => by have := (O7.out.bounds k hk).1; omega)).setOther (b := w.heap.size + 1) (o := 0) (x := .int .i64 n) (fun k hk => by have := (O7.out.bounds k hk).1; omega)).setOther (b := w.heap.size + 1) (o := 1) (x := .slice a7 (N + 1) q7) (fun k hk => by have := (O7.out.bounds k hk).1; omega)
        refine bodyPost_ret (v := .tuple #[.agg #[.int .i64 n, .slice a7 (N + 1) q7], .int .i64 k, .int .i64 0]) (results_cell3 rfl _ _ (w.heap.size + 1) [.int .i64 n, .slice a7 (N + 1) q7] _ (.int .i64 k) (.int .i64 0) rfl rfl rfl (rng2 Q4.out) Tryd.underlying85 rfl (by kernel_rfl)) rfl ?_
        rw [T.out.1, T.out.2.1, T.out.2.2]
        exact ⟨_, us ++ [((k : Int), 0, 0)], rfl, OE.mono (Nat.zero_le _), RO.out, by rw [List.length_append, LN.out]; exact Nat.le_refl _, BE⟩
      | some r =>
        rw [hp] at hg
        obtain ⟨j, hu, -⟩ := H.out.here hg
        have UI := Lib.hid (show upIx us k = (j : Int) by unfold upIx; rw [hu]; rfl)
        have U2 := Lib.hid (show ∀ j, j < k + 1 → (pageAt L (j : Int)).isSome = true from fun j hj => by
          by_cases e : j = k
          · subst e; rw [pageAt_get hg]; rfl
          · exact U.out j (by omega))
        have j5 : ¬ (j : Int) < 0 := by omega
        clear hg hu hp
        go_wp2_with fail
        refine (mp_rf_find n _ us k _ V1.out.sv).mono ?_
        rintro ev w3 ⟨rfl, hs⟩
        rw [UI.out]
        have B3 := Lib.hid (A.out.trans (hs.mono A.out.size))
        clear hs
        go_wp2
        go_roundg (n - (k + 1))
        case measure => have := HK.out; omega
        case rel => exact ⟨k + 1, by omega, by go_num, U2.out, B3.out⟩
    · obtain rfl : k = n := by omega
      have T := Lib.hid (takeL_none (L := L) (fun j hj => U.out j (by rw [HL.out] at hj; exact hj)))
      obtain ⟨q0, q1, q2, q3, q4⟩ := two_facts (blk_step K1.out A.out) (.int .i64 k) (.slice va N vc)
      have Q4 := Lib.hid q4
      clear q4
      go_wp2
      refine bodyPost_ret (v := .tuple #[.agg #[.int .i64 k, .slice va N vc], .int .i64 0, .int .i64 3]) (results_cell3 rfl _ _ (w.heap.size + 1) [.int .i64 k, .slice va N vc] _ (.int .i64 0) (.int .i64 3) rfl rfl rfl (rng2 Q4.out) Tryd.underlying85 rfl (by kernel_rfl)) rfl ?_
      have BE := below_set (below_set (B0.out.trans (A.out.mono B0.out.size)) (b := w.heap.size + 1) (by omega) 0 (.int .i64 k)) (b := w.heap.size + 1) (by omega) 1 (.slice va N vc)
      rw [T.out.1, T.out.2.1, T.out.2.2]
      exact ⟨_, us, rfl, V00.out.below BE, H.out, by rw [LN.out]; omega, BE⟩
end Go.Proofs.YtkkmfacngmginaaDoor
