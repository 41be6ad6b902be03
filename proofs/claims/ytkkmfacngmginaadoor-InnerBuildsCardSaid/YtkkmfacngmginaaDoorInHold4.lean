/- Package inner's own functions (layer 8), by contracts: Hold4. -/
import Derived.Test.YtkkmfacngmginaaDoorInHold
import Derived.WalkMore
namespace Go.Proofs.YtkkmfacngmginaaDoor
open Go.RowKit

theorem pageE_at : ∀ (l : List En) (p : Int) (k : Nat), k + 1 < l.length → (l.getD (k + 1) e0).2 = p → (∀ j, 1 ≤ j → j < k + 1 → (l.getD j e0).2 ≠ p) → pageE l p = some k
  | [], _, _, h, _, _ => by simp at h
  | [_], _, _, h, _, _ => by simp at h
  | x :: e :: l, p, 0, _, hk, _ => by
    unfold pageE
    rw [if_pos (by simpa using hk)]
  | x :: e :: l, p, k + 1, h, hk, hj => by
    unfold pageE
    rw [if_neg (by have := hj 1 (by omega) (by omega); simpa using this), pageE_at (e :: l) p k (by simpa using h) (by simpa using hk) (fun j h1 h2 => by have := hj (j + 1) (by omega) (by omega); simpa using this)]
    rfl
theorem pageE_no : ∀ (l : List En) (p : Int), (∀ j, 1 ≤ j → j < l.length → (l.getD j e0).2 ≠ p) → pageE l p = none
  | [], _, _ => rfl
  | [_], _, _ => rfl
  | x :: e :: l, p, hj => by
    unfold pageE
    rw [if_neg (by have := hj 1 (by omega) (by simp); simpa using this), pageE_no (e :: l) p (fun j h1 h2 => by have := hj (j + 1) (by omega) (by simpa using h2); simpa using this)]
    rfl
set_option maxRecDepth 100000 in
set_option maxHeartbeats 4000000 in
theorem hold4I_any (v : IvD) (en : Value) (page : Int) (w : World) (hv : SV lEnt w en v.ents) (hl : v.ents.length ≤ 2000) :
    Calls Tryd.prog 13 #[ivVal v en, .int .i64 page] w fun ev w' => ev = .returned (.tuple #[(holdE v page).1, errV (holdE v page).2]) ∧ Below w.heap.size w w' := by
  obtain ⟨a, c, rfl, hlc, hcm⟩ := hv.lenform
  obtain ⟨n, hn⟩ : ∃ n, v.ents.length = n := ⟨_, rfl⟩
  have LN := Lib.hid hn
  have HL := Lib.hid hl
  rw [hn] at hv hlc hl ⊢
  unfold maxLen at hcm
  obtain ⟨W0, hW0⟩ : ∃ W, W = (w.alloc (ivObj v (.slice a n c))).alloc hdZ := ⟨_, rfl⟩
  have B0 := Lib.hid (show Below w.heap.size w W0 by rw [hW0]; exact alloc2_below _ _ _)
  have K0 := Lib.hid (show HB w.heap.size (ivObj v (.slice a n c)) W0 by rw [hW0]; exact HB.fst _ _ _)
  have R0 := Lib.hid (show HB (w.heap.size + 1) hdZ W0 by rw [hW0]; exact HB.snd _ _ _)
  have E0 := Lib.hid (hv.below B0.out)
  have v_4 := K0.out.vb.c4
  unfold ivObj hdZ at hW0
  clear hv hn
  unfold ivVal
  go_enter Tryd.func13, Tryd.ntmps13
  go_wp2
  rw [← hW0]
  clear hW0
  go_step3
  go_wp2
  go_step3
  go_wp2
  go_loopg [6, 12] n (fun m va vi wr => ∃ k : Nat, k + m = n ∧ va = .int .i64 0 ∧ vi = .int .i64 k ∧ (∀ j, 1 ≤ j → j < k → (v.ents.getD j e0).2 ≠ page) ∧ Below W0.heap.size W0 wr)
  case atStart => exact ⟨0, by omega, rfl, rfl, fun j h1 h2 => by omega, Below.refl _ _⟩
  case round =>
    obtain ⟨k, hk, rfl, rfl, hf, hB⟩ := hrel
    have A := Lib.hid (show (∀ j, 1 ≤ j → j < k → (v.ents.getD j e0).2 ≠ page) ∧ Below W0.heap.size W0 wr ∧ k + gk = n from ⟨hf, hB, hk⟩)
    clear hf hB v_4
    by_cases hlt : k < n
    · obtain ⟨b, off, ha⟩ := E0.out.addr (by rw [LN.out]; omega)
      subst ha
      have hx := mem_at (es := v.ents) (i := k) (by rw [LN.out]; exact hlt)
      obtain ⟨⟨x, y⟩, he⟩ : ∃ e, v.ents.getD k e0 = e := ⟨_, rfl⟩
      rw [he] at hx
      have HE := Lib.hid he
      have x0 := cell_step (E0.out.cellAt (j := 0) hx rfl) A.out.2.1
      have x1 := cell_step (E0.out.cellAt (j := 1) hx rfl) A.out.2.1
      simp only [lEnt, Nat.add_zero] at x0 x1
      have B2 := Lib.hid (A.out.2.1.trans ((alloc_below0 wr (.cells #[.string x, .int .i64 y] 40)).mono A.out.2.1.size))
      have X2 := Lib.hid (HB.new (.cells #[.string x, .int .i64 y] 40) wr)
      have q0 := X2.out.cell 0
      have q1 := X2.out.cell 1
      simp at q0 q1
      clear hx he
      cases k with
      | zero =>
        simp only [Nat.zero_mul, Nat.add_zero] at x0 x1
        go_wp2
        go_roundg (n - (0 + 1))
        case measure => have := A.out.2.2; omega
        case rel => exact ⟨0 + 1, by omega, rfl, by go_num, fun j h1 h2 => by omega, B2.out⟩
      | succ j =>
        have e1 : (((j + 1 : Nat) : Int)) = (j : Int) + 1 := rfl
        have g0 : ((j : Int) + 1 == 0) = false := by rw [beq_eq_false_iff_ne]; omega
        rw [e1]
        clear e1
        by_cases hy : y = page
        · have hyb : (y == page) = true := by rw [hy]; simp
          have PE := Lib.hid (show pageE v.ents page = some j from pageE_at v.ents page j (by rw [LN.out]; exact hlt) (by rw [HE.out]; exact hy) A.out.1)
          have HH := Lib.hid (show holdE v page = (hdVal page (v.ents.getD j e0).2 (v.ents.getD (j + 1) e0).1, 0) by unfold holdE; rw [PE.out])
          have K2 := Lib.hid (K0.out.below B2.out)
          have R2 := Lib.hid (R0.out.below B2.out)
          have E2 := Lib.hid (E0.out.below B2.out)
          have hcl := fun w h => hold_any v (.slice (some ⟨b, off, none⟩) n c) (j + 1) j w h rfl (by rw [LN.out]; exact hlt) HL.out
          rw [HE.out] at hcl HH
          simp only at hcl HH
          rw [hy] at hcl
          obtain ⟨l, hl2⟩ : ∃ l, (v.ents.getD j e0).2 = l := ⟨_, rfl⟩
          rw [hl2] at hcl HH
          simp only [ivVal, hdVal] at hcl
          have e1 : (((j + 1 : Nat) : Int)) = (j : Int) + 1 := rfl
          rw [e1] at hcl
          clear e1 hl2 hy
          have v_0 := K2.out.vb.c0
          have v_1 := K2.out.vb.c1
          have v_2 := K2.out.vb.c2
          have v_3 := K2.out.vb.c3
          have v_4 := K2.out.vb.c4
          have v_5 := K2.out.vb.c5
          have v_6 := K2.out.vb.c6
          have v_7 := K2.out.vb.c7
          have v_8 := K2.out.vb.c8
          go_wp2_with fail
          refine (hcl _ E2.out).mono ?_
          rintro ev w3 ⟨rfl, hs⟩
          have R3 := Lib.hid (R2.out.below hs)
          have B3 := Lib.hid (B0.out.trans ((B2.out.trans (hs.mono B2.out.size)).mono B0.out.size))
          clear hs hcl q0 q1 x0 x1 v_0 v_1 v_2 v_3 v_4 v_5 v_6 v_7 v_8
          go_wp2_with (refine wpList_store_mid rfl 24 (.tmp 4) (.tmp 33) rfl (w.heap.size + 1) 0 ([.int .i64 page, .int .i64 l, .string x] : List Value).toArray rfl rfl ?_ hdInfoS (by kernel_rfl) ?_; exact R3.out.there 3 (Nat.le_refl _))
          have B6 := below_setCells (b := w.heap.size + 1) (Nat.le_succ w.heap.size) [.int .i64 page, .int .i64 l, .string x] 0 _ B3.out
          try rw [Exit.noGoto_ret]
          refine bodyPost_ret (v := .tuple #[.agg ([.int .i64 page, .int .i64 l, .string x] : List Value).toArray, .nilIface]) (results_cellT rfl _ _ (w.heap.size + 1) _ _ _ rfl rfl (World.rangeAt_setCells_same _ _ 0 _ (R3.out.there 3 (Nat.le_refl _))) Tryd.underlying24 rfl hdInfoS) rfl ?_
          exact ⟨by rw [HH.out]; rfl, B6⟩
        · have hyb : (y == page) = false := by rw [beq_eq_false_iff_ne]; exact hy
          have G := Lib.hid (show ∀ i, 1 ≤ i → i < j + 1 + 1 → (v.ents.getD i e0).2 ≠ page from fun i h1 h2 => by
            rcases Nat.lt_or_eq_of_le (Nat.lt_succ_iff.1 h2) with h | h
            · exact A.out.1 i h1 h
            · rw [h, HE.out]; exact hy)
          clear hy
          go_wp2
          go_roundg (n - (j + 1 + 1))
          case measure => have := A.out.2.2; omega
          case rel => exact ⟨j + 1 + 1, by omega, rfl, by go_num, G.out, B2.out⟩
    · have PE := Lib.hid (show pageE v.ents page = none from pageE_no v.ents page (fun j h1 h2 => A.out.1 j h1 (by have := LN.out; omega)))
      have HH := Lib.hid (show holdE v page = (hdVal 0 0 ⟨#[]⟩, 6) by unfold holdE; rw [PE.out])
      have R2 := Lib.hid (R0.out.below A.out.2.1)
      have B3 := Lib.hid (B0.out.trans (A.out.2.1.mono B0.out.size))
      go_wp2_with (refine wpList_store_mid rfl 24 (.tmp 4) (.tmp 29) rfl (w.heap.size + 1) 0 ([.int .i64 0, .int .i64 0, .string ⟨#[]⟩] : List Value).toArray rfl rfl ?_ hdInfoS (by kernel_rfl) ?_; exact R2.out.there 3 (Nat.le_refl _))
      have B6 := below_setCells (b := w.heap.size + 1) (Nat.le_succ w.heap.size) [.int .i64 0, .int .i64 0, .string ⟨#[]⟩] 0 _ B3.out
      try rw [Exit.noGoto_ret]
      refine bodyPost_ret (v := .tuple #[.agg ([.int .i64 0, .int .i64 0, .string ⟨#[]⟩] : List Value).toArray, .iface 45 (.int .i64 6)]) (results_cellT rfl _ _ (w.heap.size + 1) _ _ _ rfl rfl (World.rangeAt_setCells_same _ _ 0 _ (R2.out.there 3 (Nat.le_refl _))) Tryd.underlying24 rfl hdInfoS) rfl ?_
      exact ⟨by rw [HH.out]; rfl, B6⟩
end Go.Proofs.YtkkmfacngmginaaDoor
