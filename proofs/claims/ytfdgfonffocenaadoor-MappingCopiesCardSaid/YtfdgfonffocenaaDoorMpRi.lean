/- The document's own table: its Give, by a contract. -/
import Derived.Test.YtfdgfonffocenaaDoorMpRh
import Derived.Test.YtfdgfonffocenaaDoorArLast
namespace Go.Proofs.YtfdgfonffocenaaDoor
open Go.RowKit

theorem Lay.flat_drop {α : Type} (E : Lay α) : ∀ (xs : List α) (k : Nat), (E.flat xs).drop (k * E.sz) = E.flat (xs.drop k)
  | [], _ => by simp [Lay.flat]
  | _ :: _, 0 => by simp
  | x :: xs, k + 1 => by
    simp only [Lay.flat, List.drop_succ_cons]
    rw [List.drop_append, List.drop_of_length_le (by rw [E.len, Nat.add_mul]; omega), E.len, Nat.add_mul, show k * E.sz + 1 * E.sz - E.sz = k * E.sz by omega, E.flat_drop xs k, List.nil_append]
theorem SV.dropV {α : Type} {E : Lay α} {w : World} {b off n cap k : Nat} {xs : List α} (h : SV E w (.slice (some ⟨b, off, none⟩) n cap) xs) (hk : k ≤ xs.length) (hc : k < cap) : SV E w (.slice (some ⟨b, off + k * E.sz, none⟩) (n - k) (cap - k)) (xs.drop k) := by
  obtain ⟨a', cap', h1, h2, h3, h4, b', off', h5, h6⟩ := h
  obtain ⟨e, rfl, rfl⟩ := Value.slice.inj h1
  refine ⟨_, cap - k, by rw [List.length_drop], by rw [List.length_drop]; omega, by omega, fun h => (by cases h), b, off + k * E.sz, fun _ x hx => (Option.some.inj hx).symm, fun j u hu => ?_⟩
  have hlt : j < (xs.length - k) * E.sz := by
    have := (List.getElem?_eq_some_iff.1 hu).1
    rw [E.flat_len, List.length_drop] at this; exact this
  have hne : ¬ xs.length = 0 := fun h0 => by rw [h0] at hlt; simp at hlt
  have e2 := h5 hne _ e.symm
  obtain ⟨rfl, rfl⟩ : b = b' ∧ off = off' := by simpa using e2
  rw [← E.flat_drop, List.getElem?_drop] at hu
  rw [Nat.add_assoc]
  exact h6 _ u hu
theorem SV.dropE {α : Type} {E : Lay α} {w : World} (a : Addr) {k : Nat} {xs : List α} (hk : xs.length ≤ k) : SV E w (.slice (some a) 0 0) (xs.drop k) := by
  have e : xs.drop k = [] := List.drop_of_length_le hk
  rw [e]
  exact ⟨some a, 0, rfl, Nat.le_refl _, Nat.zero_le _, fun h => (by cases h), 0, 0, fun h => absurd rfl h, fun j u hu => by simp [Lay.flat] at hu⟩
theorem grown_below {α : Type} {E : Lay α} {n : Nat} {w0 wx wy : World} {v : Value} {xs : List α} (hb : Below n w0 wx) (ho : OwnS E n wx v xs) (hg : wx.grownBy wy v.ownBlock) (hn : n ≤ wx.heap.size) : Below n w0 wy ∧ n ≤ wy.heap.size :=
  ⟨hb.trans ((Kept.of_grown hg).below (fun j hj => (ho.bounds j hj.symm).1) hn), Nat.le_trans hn (Kept.of_grown hg).size⟩
theorem below_drew {n : Nat} {w w' : World} (h : Below n w w') : Below n w w'.drew := h.drew
/-- what Give leaves -/
theorem RefOk.give {us : List Up} {L : List Pg} (h : RefOk us L) {i j : Nat} {r : Rf} (hj : us[j]? = Option.some ((i : Int), r)) : RefOk (us.take j ++ us.drop (j + 1)) (L.set i Option.none) := by
  have hlt : j < us.length := (List.getElem?_eq_some_iff.1 hj).1
  have hsplit : us = us.take j ++ ((i : Int), r) :: us.drop (j + 1) := by
    conv => lhs; rw [← List.take_append_drop j us, List.drop_eq_getElem_cons hlt]
    rw [show us[j] = ((i : Int), r) from (List.getElem?_eq_some_iff.1 hj).2]
  have hap := h.apart
  rw [hsplit, List.pairwise_append] at hap
  obtain ⟨p1, p2, p3⟩ := hap
  have ne : ∀ u ∈ us.take j ++ us.drop (j + 1), u.1 ≠ (i : Int) := fun u hu => by
    rcases List.mem_append.1 hu with hu | hu
    · exact p3 u hu _ List.mem_cons_self
    · exact fun e => (List.pairwise_cons.1 p2).1 u hu e.symm
  have hin : ∀ u ∈ us.take j ++ us.drop (j + 1), u ∈ us := fun u hu => by
    rcases List.mem_append.1 hu with hu | hu
    · exact List.mem_of_mem_take hu
    · exact List.mem_of_mem_drop hu
  refine ⟨fun u hu => ?_, fun i' r' hi => ?_, ?_⟩
  · obtain ⟨i', h1, h2⟩ := h.sound u (hin u hu)
    refine ⟨i', h1, ?_⟩
    rw [List.getElem?_set, if_neg (fun e => ne u hu (by rw [h1, e]))]
    exact h2
  · rw [List.getElem?_set] at hi
    by_cases e : i = i'
    · rw [if_pos e] at hi
      split at hi <;> cases hi
    · rw [if_neg e] at hi
      obtain ⟨u, hu, he⟩ := h.full i' r' hi
      refine ⟨u, ?_, he⟩
      rw [hsplit] at hu
      rcases List.mem_append.1 hu with hu | hu
      · exact List.mem_append_left _ hu
      · rcases List.mem_cons.1 hu with rfl | hu
        · exact absurd (Int.ofNat.inj he) e
        · exact List.mem_append_right _ hu
  · rw [List.pairwise_append]
    exact ⟨p1, (List.pairwise_cons.1 p2).2, fun a ha b hb => p3 a ha b (List.mem_cons_of_mem _ hb)⟩
set_option maxRecDepth 100000 in
set_option maxHeartbeats 4000000 in
theorem rf_give (n : Nat) (v : Value) (us : List Up) (L : List Pg) (x : Int) (w : World) (hv : OwnS lUp 0 w v us) (hr : RefOk us L) (hn : L.length = n) (hl : us.length ≤ 1000) :
    Calls Tryd.prog 21 #[refT n v, .int .i64 x] w fun ev w' => ∃ v' us', ev = .returned (.tuple #[refT n v', .int .i64 (codeT L x)]) ∧ OwnS lUp 0 w' v' us' ∧ RefOk us' (giveL L x) ∧ us'.length ≤ us.length ∧ Below w.heap.size w w' := by
  obtain ⟨va, vc, rfl, hlc, hcm⟩ := hv.sv.lenform
  obtain ⟨N, hN⟩ : ∃ N, us.length = N := ⟨_, rfl⟩
  have H := Lib.hid hr
  have HL := Lib.hid (show L.length = n from hn)
  have LN := Lib.hid hN
  rw [hN] at hlc hv hl ⊢
  obtain ⟨W, hW⟩ : ∃ W, W = (w.alloc (.cells #[.int .i64 n, .slice va N vc] 28)).alloc (.cells #[.int .i64 0, .slice none 0 0] 28) := ⟨_, rfl⟩
  have z1 : (w.alloc (.cells #[.int .i64 n, .slice va N vc] 28)).heap.size = w.heap.size + 1 := by simp
  have b1 := alloc_below0 w (.cells #[.int .i64 n, .slice va N vc] 28)
  have b2 := alloc_below0 (w.alloc (.cells #[.int .i64 n, .slice va N vc] 28)) (.cells #[.int .i64 0, .slice none 0 0] 28)
  have B0 := Lib.hid (show Below w.heap.size w W by rw [hW]; exact b1.trans (b2.mono b1.size))
  have K0 := Lib.hid (show W.heap[w.heap.size]? = some (.cells #[.int .i64 n, .slice va N vc] 28 (0, 0)) by rw [hW]; exact blk_step (blk_new w _) b2)
  have K1 := Lib.hid (show W.heap[w.heap.size + 1]? = some (.cells #[.int .i64 0, .slice none 0 0] 28 (0, 0)) by rw [hW, ← z1]; exact blk_new _ _)
  have V := Lib.hid (hv.below B0.out)
  have V00 := Lib.hid hv
  have hz : W.heap.size = w.heap.size + 2 := by rw [hW]; simp
  have Z := Lib.hid hz
  clear hv hr hN hn b1 b2 z1 hz
  unfold refT
  go_enter Tryd.func21, Tryd.ntmps21
  go_wp2_with fail
  rw [← hW]
  refine (rf_why n _ us L x _ V.out.sv H.out HL.out).mono ?_
  rintro ev w1 ⟨rfl, hs⟩
  have B1 := Lib.hid (B0.out.trans (hs.mono B0.out.size))
  have B1W := Lib.hid hs
  have K2 := Lib.hid (blk_step K0.out hs)
  have K3 := Lib.hid (blk_step K1.out hs)
  have V1 := Lib.hid (V.out.below hs)
  have t0 : w1.cell? ⟨w.heap.size, 0, none⟩ = some (.int .i64 n) := blk_cell K2.out 0
  have t1 : w1.cell? ⟨w.heap.size, 1, none⟩ = some (.slice va N vc) := blk_cell K2.out 1
  clear hs hW
  by_cases hc : codeT L x = 0
  · have HC := Lib.hid hc
    obtain ⟨i, s, g, rfl, hg⟩ : ∃ (i : Nat) (s g : Int), x = i ∧ L[i]? = some (some (s, g)) := by
      rcases page_cases L x with ⟨h, -⟩ | ⟨i, -, -, h⟩ | ⟨i, ⟨s, g⟩, h1, h2, -, h4⟩
      · rw [hc] at h; cases h
      · rw [hc] at h; cases h
      · exact ⟨i, s, g, h1, h2⟩
    obtain ⟨j, hu, hj⟩ := H.out.here hg
    have U := Lib.hid (show upIx us i = (j : Int) by unfold upIx; rw [hu]; rfl)
    have HJ := Lib.hid hj
    have GL := Lib.hid (show giveL L i = L.set i none by unfold giveL; rw [if_pos hc]; rfl)
    have RO := Lib.hid (H.out.give hj)
    have hlt : j < N := by rw [← LN.out]; exact (List.getElem?_eq_some_iff.1 hj).1
    obtain ⟨b, off, ha⟩ := V1.out.sv.addr (by rw [LN.out]; omega)
    subst ha
    have j3 : (0 : Int) ≤ (j : Int) := by omega
    have j4 : (j : Int) < (N : Int) := by omega
    rw [hc]
    clear hc hg hu hj
    go_wp2_with fail
    refine (rf_find n _ us i _ V1.out.sv).mono ?_
    rintro ev w3 ⟨rfl, hs⟩
    rw [U.out]
    have t0 := cell_step t0 hs
    have t1 := cell_step t1 hs
    have V3 := Lib.hid (V1.out.below hs)
    have B3 := Lib.hid (B1.out.trans (hs.mono B1.out.size))
    have K5 := Lib.hid (blk_step K2.out hs)
    have KR5 := Lib.hid (blk_step K3.out hs)
    have SZ := Lib.hid (show w.heap.size + 2 ≤ w3.heap.size by have := B1W.out.size; rw [Z.out] at this; exact Nat.le_trans this hs.size)
    have BD := Lib.hid (below_drew (Below.refl w3.heap.size w3))
    have BZ := Lib.hid (BD.out.trans (alloc_below0 w3.drew (.cells #[] 73)))
    have V4 := Lib.hid (V3.out.below BZ.out)
    have O0 := Lib.hid (show OwnS lUp w3.heap.size (w3.drew.alloc (.cells #[] 73)) (.slice (some ⟨w3.heap.size, 0, none⟩) 0 0) [] from OwnS.lit lUp w3.heap.size w3.drew w3.heap.size rfl [] (Nat.le_refl _) (by simp))
    have HS := Lib.hid (show ∀ w', Below w3.heap.size w3 w' → w'.cell? ⟨w.heap.size, 1, none⟩ = some (.slice (some ⟨b, off, none⟩) N vc) from fun w' h => cell_step t1 h)
    have i1 : IntKind.i64.wrap ((j : Int) + 1) = (j : Int) + 1 := Go.IntWalk.i64_in _ (by omega)
    have JL := Lib.hid hlt
    clear hs
    go_wp2_with fail
    have jv : j ≤ vc := by omega
    have jn : j + 1 ≤ N := by omega
    have jw : j + 1 ≤ vc := by omega
    by_cases hvc : vc = j + 1
    · obtain rfl : N = j + 1 := by omega
      subst hvc
      have je : (j : Int) ≤ (j : Int) + 1 := by omega
      have je0 : (0 : Int) ≤ (j : Int) + 1 := by omega
      refine AnyBut.region (fun w' => w'.cell? ⟨w.heap.size, 1, none⟩ = some (.slice (some ⟨b, off, none⟩) (j + 1) (j + 1))) 13 (by kernel_rfl) ?_
      refine AnyBut.take (i := 1) (oi := ⟨some 19, _, _, _, _, none⟩) (v := ?ve1) rfl (by kernel_rfl) (by kernel_rfl) (by kernel_rfl) (by kernel_rfl) (fun _ _ _ h => h) (Or.inl ⟨by rfl, ?hye1⟩) (HS.out _ BD.out) ?reste1
      case hye1 => (intro w hSw; go_simp; try (with_reducible rfl))
      simp only [Act.put, List.setIfInBounds_toArray, List.set_cons_zero, List.set_cons_succ]
      refine AnyBut.take (i := 2) (oi := ⟨some 20, _, _, _, _, none⟩) (v := ?ve2) rfl (by kernel_rfl) (by kernel_rfl) (by kernel_rfl) (by kernel_rfl) (fun _ _ _ h => h) (Or.inl ⟨by rfl, ?hye2⟩) (HS.out _ BD.out) ?reste2
      case hye2 => (intro w hSw; go_simp; try (with_reducible rfl))
      simp only [Act.put, List.setIfInBounds_toArray, List.set_cons_zero, List.set_cons_succ]
      refine AnyBut.take (i := 3) (oi := ⟨some 21, _, _, _, _, none⟩) (v := ?ve3) rfl (by kernel_rfl) (by kernel_rfl) (by kernel_rfl) (by kernel_rfl) (fun _ _ _ h => h) (Or.inl ⟨by rfl, ?hye3⟩) (HS.out _ BD.out) ?reste3
      case hye3 => (intro w hSw; go_simp; try (with_reducible rfl))
      simp only [Act.put, List.setIfInBounds_toArray, List.set_cons_zero, List.set_cons_succ]
      refine AnyBut.take (i := 4) (oi := ⟨some 22, _, _, _, _, none⟩) (v := ?ve4) rfl (by kernel_rfl) (by kernel_rfl) (by kernel_rfl) (by kernel_rfl) (fun _ _ _ h => h) (Or.inl ⟨by rfl, ?hye4⟩) (HS.out _ BD.out) ?reste4
      case hye4 => (intro w hSw; go_simp; try (with_reducible rfl))
      simp only [Act.put, List.setIfInBounds_toArray, List.set_cons_zero, List.set_cons_succ]
      refine AnyBut.take (i := 6) (oi := ⟨some 24, _, _, _, _, none⟩) (v := ?ve6) rfl (by kernel_rfl) (by kernel_rfl) (by kernel_rfl) (by kernel_rfl) (fun _ _ _ h => h) (Or.inl ⟨by rfl, ?hye6⟩) (HS.out _ BD.out) ?reste6
      case hye6 => (intro w hSw; go_simp; try (with_reducible rfl))
      simp only [Act.put, List.setIfInBounds_toArray, List.set_cons_zero, List.set_cons_succ]
      refine AnyBut.take (i := 7) (oi := ⟨some 25, _, _, _, _, none⟩) (v := ?ve7) rfl (by kernel_rfl) (by kernel_rfl) (by kernel_rfl) (by kernel_rfl) (fun _ _ _ h => h) (Or.inl ⟨by rfl, ?hye7⟩) (HS.out _ BD.out) ?reste7
      case hye7 => (intro w hSw; go_simp; try (with_reducible rfl))
      simp only [Act.put, List.setIfInBounds_toArray, List.set_cons_zero, List.set_cons_succ]
      refine AnyBut.take (i := 8) (oi := ⟨some 26, _, _, _, _, none⟩) (v := ?ve8) rfl (by kernel_rfl) (by kernel_rfl) (by kernel_rfl) (by kernel_rfl) (fun _ _ _ h => h) (Or.inl ⟨by rfl, ?hye8⟩) (HS.out _ BD.out) ?reste8
      case hye8 => (intro w hSw; go_simp; try (with_reducible rfl))
      simp only [Act.put, List.setIfInBounds_toArray, List.set_cons_zero, List.set_cons_succ]
      refine AnyBut.take (i := 9) (oi := ⟨some 27, _, _, _, _, none⟩) (v := ?ve9) rfl (by kernel_rfl) (by kernel_rfl) (by kernel_rfl) (by kernel_rfl) (fun _ _ _ h => h) (Or.inl ⟨by rfl, ?hye9⟩) (HS.out _ BD.out) ?reste9
      case hye9 => (intro w hSw; go_simp; try (with_reducible rfl))
      simp only [Act.put, List.setIfInBounds_toArray, List.set_cons_zero, List.set_cons_succ]
      refine AnyBut.take (i := 10) (oi := ⟨some 28, _, _, _, _, none⟩) (v := ?ve10) rfl (by kernel_rfl) (by kernel_rfl) (by kernel_rfl) (by kernel_rfl) (fun _ _ _ h => h) (Or.inl ⟨by rfl, ?hye10⟩) (HS.out _ BD.out) ?reste10
      case hye10 => (intro w hSw; go_simp; try (with_reducible rfl))
      simp only [Act.put, List.setIfInBounds_toArray, List.set_cons_zero, List.set_cons_succ]
      refine AnyBut.one (i := 0) (o := ⟨some 18, _, _, _, _, none⟩) (by kernel_rfl) rfl (fun K hK => ?_)
      go_simp
      refine hK.out _ _ (fun _ => HS.out _ BZ.out) ?_
      clear hK K
      try simp only [Act.put, List.setIfInBounds_toArray, List.set_cons_zero, List.set_cons_succ]
      refine AnyBut.one (i := 5) (o := ⟨some 23, _, _, _, _, none⟩) (by kernel_rfl) rfl (fun K hK => ?_)
      refine step_appS lUp 26 Tryd.underlying26 lUp_known (by decide) (by decide) rfl (.tmp 18) (.tmp 22) rfl w3.heap.size rfl rfl O0.out (V4.out.sv.takeV (k := j) (by rw [LN.out]; omega)) (by have := LN.out; simp; omega) BZ.out.size ?_
      intro v5 w5 ho hg
      have P5 := Lib.hid (grown_below BZ.out O0.out hg BZ.out.size)
      have V5 := Lib.hid (V3.out.below P5.out.1)
      rw [List.nil_append] at ho
      have O5 := Lib.hid ho
      clear ho hg
      refine hK.out _ _ (fun _ => HS.out _ P5.out.1) ?_
      clear hK K
      try simp only [Act.put, List.setIfInBounds_toArray, List.set_cons_zero, List.set_cons_succ]
      refine AnyBut.one (i := 11) (o := ⟨some 29, _, _, _, _, none⟩) (by kernel_rfl) rfl (fun K hK => ?_)
      refine step_appS lUp 26 Tryd.underlying26 lUp_known (by decide) (by decide) rfl (.tmp 23) (.tmp 28) rfl w3.heap.size rfl rfl O5.out (SV.dropE _ (by rw [LN.out]; omega)) (by have := LN.out; simp; omega) P5.out.1.size ?_
      intro v6 w6 ho hg
      have P6 := Lib.hid (grown_below P5.out.1 O5.out hg P5.out.1.size)
      have O6 := Lib.hid ho
      clear ho hg
      refine hK.out _ _ (fun _ => HS.out _ P6.out.1) ?_
      clear hK K
      try simp only [Act.put, List.setIfInBounds_toArray, List.set_cons_zero, List.set_cons_succ]
      refine AnyBut.one (i := 12) (o := ⟨some 30, _, _, _, _, none⟩) (by kernel_rfl) rfl (fun K hK => ?_)
      go_simp
      refine hK.out _ _ (fun _ => HS.out _ P6.out.1) ?_
      clear hK K
      try simp only [Act.put, List.setIfInBounds_toArray, List.set_cons_zero, List.set_cons_succ]
      obtain ⟨M, hM⟩ : ∃ M, (us.take j ++ us.drop (j + 1)).length = M := ⟨_, rfl⟩
      have ML := Lib.hid hM
      obtain ⟨a6, q6, rfl, -, -⟩ := O6.out.lenN hM
      have K6 := blk_step K5.out P6.out.1
      have c6 := blk_cell K6 1
      have f6 := blk_free K6 1
      simp only [List.getElem?_toArray, List.getElem?_cons_zero, List.getElem?_cons_succ] at c6
      have K7 := blk_set K6 1 (.slice a6 M q6)
      have d0 := blk_cell K7 0
      have d1 := blk_cell K7 1
      have KR := blk_off (blk_step KR5.out P6.out.1) (b := w.heap.size) (by omega) 1 (.slice a6 M q6)
      obtain ⟨q0, q1, q2, q3, q4⟩ := two_facts KR (.int .i64 n) (.slice a6 M q6)
      have Q4 := Lib.hid q4
      clear K6 K7 KR q4 hM
      refine AnyBut.one (i := 13) (o := ⟨none, _, _, _, _, none⟩) (by kernel_rfl) rfl (fun K hK => ?_)
      go_simp
      refine hK.out _ _ (fun h => absurd rfl h) ?_
      clear hK K c6 f6
      try simp only [Act.put, List.setIfInBounds_toArray, List.set_cons_zero, List.set_cons_succ]
      refine AnyBut.done (by kernel_rfl) ?_ _
      go_wp2
      have BW := B3.out.trans (P6.out.1.mono B3.out.size)
      have BE := below_set (below_set (below_set BW (b := w.heap.size) (Nat.le_refl _) 1 (.slice a6 M q6)) (b := w.heap.size + 1) (by omega) 0 (.int .i64 n)) (b := w.heap.size + 1) (by omega) 1 (.slice a6 M q6)
      have OE := ((O6.out.setOther (b := w.heap.size) (o := 1) (x := .slice a6 M q6) (fun k hk => by have := (O6.out.bounds k hk).1; have := SZ.out; omega)).setOther (b := w.heap.size + 1) (o := 0) (x := .int .i64 n) (fun k hk => by have := (O6.out.bounds k hk).1; have := SZ.out; omega)).setOther (b := w.heap.size + 1) (o := 1) (x := .slice a6 M q6) (fun k hk => by have := (O6.out.bounds k hk).1; have := SZ.out; omega)
      refine bodyPost_ret (v := .tuple #[.agg #[.int .i64 n, .slice a6 M q6], .int .i64 0]) (results_cellT rfl _ _ (w.heap.size + 1) [.int .i64 n, .slice a6 M q6] _ (.int .i64 0) rfl rfl (rng2 Q4.out) Tryd.underlying28 rfl (by kernel_rfl)) rfl ?_
      rw [HC.out, GL.out]
      exact ⟨_, _, rfl, OE.mono (Nat.zero_le _), RO.out, by rw [List.length_append, List.length_take, List.length_drop, LN.out]; omega, BE⟩
    · have hvc2 : j + 1 < vc := by omega
      have je0 : (0 : Int) ≤ (j : Int) + 1 := by omega
      have je1 : (j : Int) + 1 ≤ (N : Int) := by omega
      refine AnyBut.region (fun w' => w'.cell? ⟨w.heap.size, 1, none⟩ = some (.slice (some ⟨b, off, none⟩) N vc)) 13 (by kernel_rfl) ?_
      refine AnyBut.take (i := 1) (oi := ⟨some 19, _, _, _, _, none⟩) (v := ?v1) rfl (by kernel_rfl) (by kernel_rfl) (by kernel_rfl) (by kernel_rfl) (fun _ _ _ h => h) (Or.inl ⟨by rfl, ?hy1⟩) (HS.out _ BD.out) ?rest1
      case hy1 => (intro w hSw; go_simp; try (with_reducible rfl))
      simp only [Act.put, List.setIfInBounds_toArray, List.set_cons_zero, List.set_cons_succ]
      refine AnyBut.take (i := 2) (oi := ⟨some 20, _, _, _, _, none⟩) (v := ?v2) rfl (by kernel_rfl) (by kernel_rfl) (by kernel_rfl) (by kernel_rfl) (fun _ _ _ h => h) (Or.inl ⟨by rfl, ?hy2⟩) (HS.out _ BD.out) ?rest2
      case hy2 => (intro w hSw; go_simp; try (with_reducible rfl))
      simp only [Act.put, List.setIfInBounds_toArray, List.set_cons_zero, List.set_cons_succ]
      refine AnyBut.take (i := 3) (oi := ⟨some 21, _, _, _, _, none⟩) (v := ?v3) rfl (by kernel_rfl) (by kernel_rfl) (by kernel_rfl) (by kernel_rfl) (fun _ _ _ h => h) (Or.inl ⟨by rfl, ?hy3⟩) (HS.out _ BD.out) ?rest3
      case hy3 => (intro w hSw; go_simp; try (with_reducible rfl))
      simp only [Act.put, List.setIfInBounds_toArray, List.set_cons_zero, List.set_cons_succ]
      refine AnyBut.take (i := 4) (oi := ⟨some 22, _, _, _, _, none⟩) (v := ?v4) rfl (by kernel_rfl) (by kernel_rfl) (by kernel_rfl) (by kernel_rfl) (fun _ _ _ h => h) (Or.inl ⟨by rfl, ?hy4⟩) (HS.out _ BD.out) ?rest4
      case hy4 => (intro w hSw; go_simp; try (with_reducible rfl))
      simp only [Act.put, List.setIfInBounds_toArray, List.set_cons_zero, List.set_cons_succ]
      refine AnyBut.take (i := 6) (oi := ⟨some 24, _, _, _, _, none⟩) (v := ?v6) rfl (by kernel_rfl) (by kernel_rfl) (by kernel_rfl) (by kernel_rfl) (fun _ _ _ h => h) (Or.inl ⟨by rfl, ?hy6⟩) (HS.out _ BD.out) ?rest6
      case hy6 => (intro w hSw; go_simp; try (with_reducible rfl))
      simp only [Act.put, List.setIfInBounds_toArray, List.set_cons_zero, List.set_cons_succ]
      refine AnyBut.take (i := 7) (oi := ⟨some 25, _, _, _, _, none⟩) (v := ?v7) rfl (by kernel_rfl) (by kernel_rfl) (by kernel_rfl) (by kernel_rfl) (fun _ _ _ h => h) (Or.inl ⟨by rfl, ?hy7⟩) (HS.out _ BD.out) ?rest7
      case hy7 => (intro w hSw; go_simp; try (with_reducible rfl))
      simp only [Act.put, List.setIfInBounds_toArray, List.set_cons_zero, List.set_cons_succ]
      refine AnyBut.take (i := 8) (oi := ⟨some 26, _, _, _, _, none⟩) (v := ?v8) rfl (by kernel_rfl) (by kernel_rfl) (by kernel_rfl) (by kernel_rfl) (fun _ _ _ h => h) (Or.inl ⟨by rfl, ?hy8⟩) (HS.out _ BD.out) ?rest8
      case hy8 => (intro w hSw; go_simp; try (with_reducible rfl))
      simp only [Act.put, List.setIfInBounds_toArray, List.set_cons_zero, List.set_cons_succ]
      refine AnyBut.take (i := 9) (oi := ⟨some 27, _, _, _, _, none⟩) (v := ?v9) rfl (by kernel_rfl) (by kernel_rfl) (by kernel_rfl) (by kernel_rfl) (fun _ _ _ h => h) (Or.inl ⟨by rfl, ?hy9⟩) (HS.out _ BD.out) ?rest9
      case hy9 => (intro w hSw; go_simp; try (with_reducible rfl))
      simp only [Act.put, List.setIfInBounds_toArray, List.set_cons_zero, List.set_cons_succ]
      refine AnyBut.take (i := 10) (oi := ⟨some 28, _, _, _, _, none⟩) (v := ?v10) rfl (by kernel_rfl) (by kernel_rfl) (by kernel_rfl) (by kernel_rfl) (fun _ _ _ h => h) (Or.inl ⟨by rfl, ?hy10⟩) (HS.out _ BD.out) ?rest10
      case hy10 => (intro w hSw; go_simp; try (with_reducible rfl))
      simp only [Act.put, List.setIfInBounds_toArray, List.set_cons_zero, List.set_cons_succ]
      refine AnyBut.one (i := 0) (o := ⟨some 18, _, _, _, _, none⟩) (by kernel_rfl) rfl (fun K hK => ?_)
      go_simp
      refine hK.out _ _ (fun _ => HS.out _ BZ.out) ?_
      clear hK K
      try simp only [Act.put, List.setIfInBounds_toArray, List.set_cons_zero, List.set_cons_succ]
      refine AnyBut.one (i := 5) (o := ⟨some 23, _, _, _, _, none⟩) (by kernel_rfl) rfl (fun K hK => ?_)
      refine step_appS lUp 26 Tryd.underlying26 lUp_known (by decide) (by decide) rfl (.tmp 18) (.tmp 22) rfl w3.heap.size rfl rfl O0.out (V4.out.sv.takeV (k := j) (by rw [LN.out]; omega)) (by have := LN.out; simp; omega) BZ.out.size ?_
      intro v5 w5 ho hg
      have P5 := Lib.hid (grown_below BZ.out O0.out hg BZ.out.size)
      have V5 := Lib.hid (V3.out.below P5.out.1)
      rw [List.nil_append] at ho
      have O5 := Lib.hid ho
      clear ho hg
      refine hK.out _ _ (fun _ => HS.out _ P5.out.1) ?_
      clear hK K
      try simp only [Act.put, List.setIfInBounds_toArray, List.set_cons_zero, List.set_cons_succ]
      refine AnyBut.one (i := 11) (o := ⟨some 29, _, _, _, _, none⟩) (by kernel_rfl) rfl (fun K hK => ?_)
      refine step_appS lUp 26 Tryd.underlying26 lUp_known (by decide) (by decide) rfl (.tmp 23) (.tmp 28) rfl w3.heap.size rfl rfl O5.out (V5.out.sv.dropV (k := j + 1) (by rw [LN.out]; omega) hvc2) (by have := LN.out; simp; omega) P5.out.1.size ?_
      intro v6 w6 ho hg
      have P6 := Lib.hid (grown_below P5.out.1 O5.out hg P5.out.1.size)
      have O6 := Lib.hid ho
      clear ho hg
      refine hK.out _ _ (fun _ => HS.out _ P6.out.1) ?_
      clear hK K
      try simp only [Act.put, List.setIfInBounds_toArray, List.set_cons_zero, List.set_cons_succ]
      refine AnyBut.one (i := 12) (o := ⟨some 30, _, _, _, _, none⟩) (by kernel_rfl) rfl (fun K hK => ?_)
      go_simp
      refine hK.out _ _ (fun _ => HS.out _ P6.out.1) ?_
      clear hK K
      try simp only [Act.put, List.setIfInBounds_toArray, List.set_cons_zero, List.set_cons_succ]
      obtain ⟨M, hM⟩ : ∃ M, (us.take j ++ us.drop (j + 1)).length = M := ⟨_, rfl⟩
      have ML := Lib.hid hM
      obtain ⟨a6, q6, rfl, -, -⟩ := O6.out.lenN hM
      have K6 := blk_step K5.out P6.out.1
      have c6 := blk_cell K6 1
      have f6 := blk_free K6 1
      simp only [List.getElem?_toArray, List.getElem?_cons_zero, List.getElem?_cons_succ] at c6
      have K7 := blk_set K6 1 (.slice a6 M q6)
      have d0 := blk_cell K7 0
      have d1 := blk_cell K7 1
      have KR := blk_off (blk_step KR5.out P6.out.1) (b := w.heap.size) (by omega) 1 (.slice a6 M q6)
      obtain ⟨q0, q1, q2, q3, q4⟩ := two_facts KR (.int .i64 n) (.slice a6 M q6)
      have Q4 := Lib.hid q4
      clear K6 K7 KR q4 hM
      refine AnyBut.one (i := 13) (o := ⟨none, _, _, _, _, none⟩) (by kernel_rfl) rfl (fun K hK => ?_)
      go_simp
      refine hK.out _ _ (fun h => absurd rfl h) ?_
      clear hK K c6 f6
      try simp only [Act.put, List.setIfInBounds_toArray, List.set_cons_zero, List.set_cons_succ]
      refine AnyBut.done (by kernel_rfl) ?_ _
      go_wp2
      have BW := B3.out.trans (P6.out.1.mono B3.out.size)
      have BE := below_set (below_set (below_set BW (b := w.heap.size) (Nat.le_refl _) 1 (.slice a6 M q6)) (b := w.heap.size + 1) (by omega) 0 (.int .i64 n)) (b := w.heap.size + 1) (by omega) 1 (.slice a6 M q6)
      have OE := ((O6.out.setOther (b := w.heap.size) (o := 1) (x := .slice a6 M q6) (fun k hk => by have := (O6.out.bounds k hk).1; have := SZ.out; omega)).setOther (b := w.heap.size + 1) (o := 0) (x := .int .i64 n) (fun k hk => by have := (O6.out.bounds k hk).1; have := SZ.out; omega)).setOther (b := w.heap.size + 1) (o := 1) (x := .slice a6 M q6) (fun k hk => by have := (O6.out.bounds k hk).1; have := SZ.out; omega)
      refine bodyPost_ret (v := .tuple #[.agg #[.int .i64 n, .slice a6 M q6], .int .i64 0]) (results_cellT rfl _ _ (w.heap.size + 1) [.int .i64 n, .slice a6 M q6] _ (.int .i64 0) rfl rfl (rng2 Q4.out) Tryd.underlying28 rfl (by kernel_rfl)) rfl ?_
      rw [HC.out, GL.out]
      exact ⟨_, _, rfl, OE.mono (Nat.zero_le _), RO.out, by rw [List.length_append, List.length_take, List.length_drop, LN.out]; omega, BE⟩
  · have q : (codeT L x == 0) = false := by rw [beq_eq_false_iff_ne]; exact hc
    have GL := Lib.hid (show giveL L x = L by unfold giveL; rw [if_neg hc])
    obtain ⟨q0, q1, q2, q3, q4⟩ := two_facts K3.out (.int .i64 n) (.slice va N vc)
    have Q4 := Lib.hid q4
    have fw := fun w h => rf_why n (.slice va N vc) us L x w h H.out HL.out
    unfold refT at fw
    clear hc q4 q0 q1 q2 q3
    go_wp2_with fail
    go_region_held3 (fun w' => w'.cell? ⟨w.heap.size, 0, none⟩ = some (.int .i64 n) ∧ w'.cell? ⟨w.heap.size, 1, none⟩ = some (.slice va N vc)) (first | exact ⟨by assumption, by assumption⟩ | go_keep)
      (first
        | (go_at_call 26; (with_reducible refine (fw _ ?_).mono ?_); exact V1.out.sv.below (Below.refl _ _).drew; rintro e w5 ⟨rfl, hs⟩; have B5 := Lib.hid ((B1.out.drew).trans (hs.mono B1.out.size)); have u0 := cell_step t0 ((Below.refl _ w1).drew.trans hs); have u1 := cell_step t1 ((Below.refl _ w1).drew.trans hs); obtain ⟨q0, q1, q2, q3, q4⟩ := two_facts (blk_step K3.out ((Below.refl _ w1).drew.trans hs)) (.int .i64 n) (.slice va N vc); have Q4 := Lib.hid q4; clear hs q4))
    go_wp2
    have BE := below_set (below_set B5.out (b := w.heap.size + 1) (by omega) 0 (.int .i64 n)) (b := w.heap.size + 1) (by omega) 1 (.slice va N vc)
    refine bodyPost_ret (v := .tuple #[.agg #[.int .i64 n, .slice va N vc], .int .i64 (codeT L x)]) (results_cellT rfl _ _ (w.heap.size + 1) [.int .i64 n, .slice va N vc] _ (.int .i64 (codeT L x)) rfl rfl (rng2 Q4.out) Tryd.underlying28 rfl (by kernel_rfl)) rfl ?_
    rw [GL.out]
    exact ⟨_, us, rfl, V00.out.below BE, H.out, by rw [LN.out]; exact Nat.le_refl _, BE⟩
end Go.Proofs.YtfdgfonffocenaaDoor
