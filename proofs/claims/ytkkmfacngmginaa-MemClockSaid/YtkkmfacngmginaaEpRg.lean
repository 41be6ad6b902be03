/- The document's own clock: its set, Enter, Leave and Oldest, by contracts. -/
import Derived.Test.YtkkmfacngmginaaMm
import Derived.Test.YtkkmfacngmginaaEpRf
import Derived.Test.YtkkmfacngmginaaEpLies
namespace Go.Proofs.Ytkkmfacngmginaa
open Go.RowKit

set_option maxRecDepth 100000 in
set_option maxHeartbeats 4000000 in
theorem rf_set (n l : Int) (L : List Int) (v : Value) (i : Nat) (a : Int) (w : World) (hi : i < L.length) (hl : L.length ≤ 64) (hv : OwnS lInt 0 w v L) :
    Calls Try.prog 78 #[refC ⟨n, l, L⟩ v, .int .i64 (i : Int), .int .i64 a] w fun ev w' => ∃ v', ev = .returned (refC ⟨n, l, L⟩ v') ∧ OwnS lInt 0 w' v' (L.set i a) ∧ Below w.heap.size w w' := by
  obtain ⟨N, hN⟩ : ∃ N, L.length = N := ⟨_, rfl⟩
  obtain ⟨va, vc, rfl, -, -⟩ := hv.lenN hN
  have V := Lib.hid hv
  have LN := Lib.hid (show L.length = N ∧ i < N ∧ N ≤ 64 from ⟨hN, hN ▸ hi, hN ▸ hl⟩)
  obtain ⟨W1, hW1⟩ : ∃ W, W = (w.alloc (refO n l (.slice va N vc))).alloc (refO 0 0 (.slice none 0 0)) := ⟨_, rfl⟩
  have b1 := alloc_below0 w (refO n l (.slice va N vc))
  have b2 := alloc_below0 (w.alloc (refO n l (.slice va N vc))) (refO 0 0 (.slice none 0 0))
  have z1 : (w.alloc (refO n l (.slice va N vc))).heap.size = w.heap.size + 1 := by simp
  have Z1 := Lib.hid (show W1.heap.size = w.heap.size + 1 + 1 by rw [hW1]; simp)
  have k1 : W1.heap[w.heap.size]? = some (refO n l (.slice va N vc)) := by rw [hW1]; exact blk_step (blk_new w _) b2
  have k2 : W1.heap[w.heap.size + 1]? = some (refO 0 0 (.slice none 0 0)) := by rw [hW1, ← z1]; exact blk_new _ _
  have B1 := Lib.hid (show Below w.heap.size w W1 by rw [hW1]; exact b1.trans (b2.mono b1.size))
  have b3 := alloc_below0 W1 (.cells #[] 3)
  have K1 := Lib.hid (blk_step k1 b3)
  have K2 := Lib.hid (blk_step k2 b3)
  have B3 := Lib.hid (B1.out.trans (b3.mono B1.out.size))
  have V3 := Lib.hid ((V.out.below B1.out).below b3)
  have o3 : OwnS lInt (w.heap.size + 1 + 1) (W1.alloc (.cells #[] 3)) (.slice (some ⟨W1.heap.size, 0, none⟩) 0 0) [] := OwnS.lit lInt (w.heap.size + 1 + 1) W1 W1.heap.size rfl [] (by rw [Z1.out]; exact Nat.le_refl _) (by simp [maxLen])
  rw [Z1.out] at o3
  have O3 := Lib.hid o3
  have Z3 := Lib.hid (show w.heap.size + 1 + 1 ≤ (W1.alloc (.cells #[] 3)).heap.size by rw [← Z1.out]; exact b3.size)
  rw [hW1] at O3 V3 K1 K2 B3 Z3
  unfold refO at O3 V3 K1 K2 B3 Z3
  unfold refC
  clear hv hi hl hN b1 b2 b3 z1 k1 k2 o3 hW1
  go_enter Try.func78, Try.ntmps78
  go_wp2_with (refine wpList_appL lInt 76 Try.underlying76 lInt_known (by decide) (by decide) rfl (.tmp 8) (.tmp 10) rfl (w.heap.size + 1 + 1) rfl rfl O3.out V3.out.sv (by have := LN.out; simp; omega) Z3.out ?_)
  intro v4 w4 ho4 hg4 hl4
  obtain ⟨g, c4, rfl, hb4, hlt4, -, -⟩ := ho4.form (by have := LN.out; omega)
  rw [LN.out.1] at ho4 ⊢
  have B4 := Lib.hid (grown_below (Below.refl (w.heap.size + 1 + 1) _) O3.out hg4 Z3.out)
  have k4 := (B4.out.block w.heap.size (by omega)).trans K1.out
  have k5 := (B4.out.block (w.heap.size + 1) (by omega)).trans K2.out
  have B5 := Lib.hid (B3.out.trans (B4.out.mono (by omega)))
  obtain ⟨x, hx⟩ : ∃ x, L[i]? = some x := ⟨_, List.getElem?_eq_getElem (by have := LN.out; omega)⟩
  have x0 := ho4.sv.cellAt (j := 0) hx rfl
  simp only [lInt, Nat.mul_one, Nat.add_zero, Nat.zero_add] at x0
  have fg := ho4.free i
  have O5 := Lib.hid (ho4.set (y := a) (u := .int .i64 a) hx (j := 0) (by decide) rfl)
  have n1 : w.heap.size ≠ g := by omega
  have n2 : w.heap.size + 1 ≠ g := by omega
  have k6 := blk_off k4 n1 i (.int .i64 a)
  have k7 := blk_off k5 n2 i (.int .i64 a)
  have k8 := blk_set k6 2 (.slice (some ⟨g, 0, none⟩) N c4)
  have k9 := blk_off k7 (show w.heap.size + 1 ≠ w.heap.size by omega) 2 (.slice (some ⟨g, 0, none⟩) N c4)
  have f6 := blk_cell k6 2
  have f7 := blk_free k6 2
  have f8 := blk_cell k8 0
  have f9 := blk_cell k8 1
  have fa := blk_cell k8 2
  obtain ⟨q0, q1, q2, q3, q4, q5, q6⟩ := three_facts k9 (.int .i64 n) (.int .i64 l) (.slice (some ⟨g, 0, none⟩) N c4)
  have Q6 := Lib.hid q6
  have NG := Lib.hid (show w.heap.size + 1 + 1 ≤ g from hb4)
  have j3 : (0 : Int) ≤ (i : Int) := by omega
  have j4 : (i : Int) < (N : Int) := by have := LN.out; omega
  clear ho4 hg4 hl4 hx n1 n2 k4 k5 k6 k7 k8 k9 q6 hb4 hlt4
  go_wp2
  have hne : ∀ b, b < w.heap.size + 1 + 1 → ∀ k, (Value.slice (some ⟨g, 0, none⟩) N c4).ownBlock = some k → k ≠ b := fun b hb k hk e => by
    have h1 : g = k := Option.some.inj hk
    have := NG.out
    omega
  have o5 : OwnS lInt (w.heap.size + 1 + 1) (w4.setCell ⟨g, i, none⟩ (.int .i64 a)) (.slice (some ⟨g, 0, none⟩) N c4) (L.set i a) := by
    have e := O5.out
    simp only [lInt, Nat.mul_one, Nat.add_zero] at e
    exact e
  have o6 := (((o5.setOther (o := 2) (x := .slice (some ⟨g, 0, none⟩) N c4) (hne w.heap.size (by omega))).setOther (o := 0) (x := .int .i64 n) (hne (w.heap.size + 1) (by omega))).setOther (o := 1) (x := .int .i64 l) (hne (w.heap.size + 1) (by omega))).setOther (o := 2) (x := .slice (some ⟨g, 0, none⟩) N c4) (hne (w.heap.size + 1) (by omega))
  have hg : w.heap.size ≤ g := by have := NG.out; omega
  have b6 := below_set (below_set (below_set (below_set (below_set B5.out hg i (.int .i64 a)) (Nat.le_refl _) 2 (.slice (some ⟨g, 0, none⟩) N c4)) (show w.heap.size ≤ w.heap.size + 1 by omega) 0 (.int .i64 n)) (show w.heap.size ≤ w.heap.size + 1 by omega) 1 (.int .i64 l)) (show w.heap.size ≤ w.heap.size + 1 by omega) 2 (.slice (some ⟨g, 0, none⟩) N c4)
  exact bodyPost_ret (v := .agg #[.int .i64 n, .int .i64 l, .slice (some ⟨g, 0, none⟩) N c4]) (results_cell1 rfl _ _ (w.heap.size + 1) [.int .i64 n, .int .i64 l, .slice (some ⟨g, 0, none⟩) N c4] _ rfl (rng3 Q6.out) Try.underlying89 rfl (by kernel_rfl)) rfl ⟨_, rfl, o6.mono (Nat.zero_le _), b6⟩
theorem OwnS.neBlk {α : Type} {E : Lay α} {b : Nat} {w : World} {v : Value} {xs : List α} (h : OwnS E b w v xs) {g : Nat} {cs : Array Value} {T : TypeId} (hg : w.heap[g]? = some (.cells cs T (0, 0))) (hne : E.ty ≠ T) : ∀ k, v.ownBlock = some k → k ≠ g := by
  intro k hk e
  obtain ⟨_, h⟩ := h
  rcases h with ⟨rfl, -⟩ | ⟨g1, c1, u1, rfl, -, h1, -⟩
  · cases hk
  · obtain rfl : g1 = k := Option.some.inj hk
    subst e
    rw [hg] at h1
    simp only [Option.some.injEq, Obj.cells.injEq] at h1
    exact hne h1.2.1.symm
set_option maxRecDepth 100000 in
set_option maxHeartbeats 4000000 in
theorem rf_enter (c : Ck) (v : Value) (x a : Int) (w : World) (hok : c.ok) (hv : OwnS lInt 0 w v c.L) :
    Calls Try.prog 40 #[refC c v, .int .i64 x, .int .i64 a] w fun ev w' => ∃ v', ev = .returned (.tuple #[refC (c.enter x a) v', .int .i64 (c.enterE x a)]) ∧ OwnS lInt 0 w' v' (c.enter x a).L ∧ Below w.heap.size w w' := by
  obtain ⟨N, hN⟩ : ∃ N, c.L.length = N := ⟨_, rfl⟩
  obtain ⟨va, vc, rfl, -, -⟩ := hv.lenN hN
  have b1 := alloc_below0 w (refO c.n c.l (.slice va N vc))
  have b2 := alloc_below0 (w.alloc (refO c.n c.l (.slice va N vc))) (refO 0 0 (.slice none 0 0))
  have b3 := alloc_below0 (w.alloc (refO c.n c.l (.slice va N vc))) (refO c.n c.l (.slice va N vc))
  have z1 : (w.alloc (refO c.n c.l (.slice va N vc))).heap.size = w.heap.size + 1 := by simp
  have K3 := Lib.hid (show ((w.alloc (refO c.n c.l (.slice va N vc))).alloc (refO c.n c.l (.slice va N vc))).heap[w.heap.size + 1]? = some (refO c.n c.l (.slice va N vc)) by rw [← z1]; exact blk_new _ _)
  have B3 := Lib.hid (b1.trans (b3.mono b1.size))
  have V3 := Lib.hid (hv.below B3.out)
  have K2 := Lib.hid (show ((w.alloc (refO c.n c.l (.slice va N vc))).alloc (refO 0 0 (.slice none 0 0))).heap[w.heap.size + 1]? = some (refO 0 0 (.slice none 0 0)) by rw [← z1]; exact blk_new _ _)
  have B2 := Lib.hid (b1.trans (b2.mono b1.size))
  have V2 := Lib.hid (hv.below B2.out)
  have LN := Lib.hid (show c.L.length = N ∧ N ≤ 64 from ⟨hN, hN ▸ hok.tm⟩)
  have KO : c.enterE x a ≠ 0 → c.enter x a = c := fun he => by unfold Ck.enter; rw [if_neg he]
  unfold refO at K3 B3 V3 K2 B2 V2
  unfold refC
  clear b1 b2 b3 z1 hv hN
  rcases enter_cases c x a with ⟨ho, he⟩ | ⟨i, rfl, hi, ho, hc⟩ | hneg
  · have E := Lib.hid (show c.enterE x a = 1 ∧ c.enter x a = c from ⟨he, KO (by rw [he]; decide)⟩)
    clear he KO
    by_cases h1 : x < 0
    · clear ho
      go_enter Try.func40, Try.ntmps40
      go_wp2
      rw [E.out.1, E.out.2]
      exact bodyPost_ret (v := .tuple #[.agg #[.int .i64 c.n, .int .i64 c.l, .slice va N vc], .int .i64 1]) (results_cellT rfl _ _ (w.heap.size + 1) [.int .i64 c.n, .int .i64 c.l, .slice va N vc] _ (.int .i64 1) rfl rfl (rng3 K3.out) Try.underlying89 rfl (by kernel_rfl)) rfl ⟨_, rfl, V3.out, B3.out⟩
    · have h2 : (N : Int) ≤ x := by have := LN.out.1; unfold Ck.out at ho; omega
      have h3 : 0 ≤ x := by omega
      clear ho h1
      go_enter Try.func40, Try.ntmps40
      go_wp2
      rw [E.out.1, E.out.2]
      exact bodyPost_ret (v := .tuple #[.agg #[.int .i64 c.n, .int .i64 c.l, .slice va N vc], .int .i64 1]) (results_cellT rfl _ _ (w.heap.size + 1) [.int .i64 c.n, .int .i64 c.l, .slice va N vc] _ (.int .i64 1) rfl rfl (rng3 K3.out) Try.underlying89 rfl (by kernel_rfl)) rfl ⟨_, rfl, V3.out, B3.out⟩
  · have hlt : i < N := by have := LN.out.1; omega
    obtain ⟨g, ha⟩ := V2.out.addrN (by omega)
    subst ha
    obtain ⟨x, hx⟩ : ∃ x, c.L[i]? = some x := ⟨_, List.getElem?_eq_getElem hi⟩
    rw [atL_get hx] at hc
    have x0 := V2.out.sv.cellAt (j := 0) hx rfl
    simp only [lInt, Nat.mul_one, Nat.add_zero, Nat.zero_add] at x0
    have j1 : ¬ (i : Int) < 0 := by omega
    have j2 : ¬ (N : Int) ≤ (i : Int) := by omega
    have j3 : (0 : Int) ≤ (i : Int) := by omega
    have j4 : (i : Int) < (N : Int) := by omega
    rcases hc with ⟨hp, he⟩ | ⟨hz, ha, he⟩ | ⟨hz, ha1, ha2, he⟩
    · have E := Lib.hid (show c.enterE i a = 13 ∧ c.enter i a = c from ⟨he, KO (by rw [he]; decide)⟩)
      clear he KO hx hi ho
      go_enter Try.func40, Try.ntmps40
      go_wp2
      rw [E.out.1, E.out.2]
      exact bodyPost_ret (v := .tuple #[.agg #[.int .i64 c.n, .int .i64 c.l, .slice (some ⟨g, 0, none⟩) N vc], .int .i64 13]) (results_cellT rfl _ _ (w.heap.size + 1) [.int .i64 c.n, .int .i64 c.l, .slice (some ⟨g, 0, none⟩) N vc] _ (.int .i64 13) rfl rfl (rng3 K3.out) Try.underlying89 rfl (by kernel_rfl)) rfl ⟨_, rfl, V3.out, B3.out⟩
    · subst hz
      have E := Lib.hid (show c.enterE i a = 2 ∧ c.enter i a = c from ⟨he, KO (by rw [he]; decide)⟩)
      by_cases h1 : a < 1
      · clear ha he KO hx hi ho
        go_enter Try.func40, Try.ntmps40
        go_wp2
        rw [E.out.1, E.out.2]
        exact bodyPost_ret (v := .tuple #[.agg #[.int .i64 c.n, .int .i64 c.l, .slice (some ⟨g, 0, none⟩) N vc], .int .i64 2]) (results_cellT rfl _ _ (w.heap.size + 1) [.int .i64 c.n, .int .i64 c.l, .slice (some ⟨g, 0, none⟩) N vc] _ (.int .i64 2) rfl rfl (rng3 K3.out) Try.underlying89 rfl (by kernel_rfl)) rfl ⟨_, rfl, V3.out, B3.out⟩
      · have h2 : c.n < a := by omega
        have h3 : 1 ≤ a := by omega
        clear ha he KO hx hi ho h1
        go_enter Try.func40, Try.ntmps40
        go_wp2
        rw [E.out.1, E.out.2]
        exact bodyPost_ret (v := .tuple #[.agg #[.int .i64 c.n, .int .i64 c.l, .slice (some ⟨g, 0, none⟩) N vc], .int .i64 2]) (results_cellT rfl _ _ (w.heap.size + 1) [.int .i64 c.n, .int .i64 c.l, .slice (some ⟨g, 0, none⟩) N vc] _ (.int .i64 2) rfl rfl (rng3 K3.out) Try.underlying89 rfl (by kernel_rfl)) rfl ⟨_, rfl, V3.out, B3.out⟩
    · subst hz
      have E := Lib.hid (show c.enterE i a = 0 ∧ c.enter i a = ⟨c.n, c.l, c.L.set i a⟩ from ⟨he, by unfold Ck.enter; rw [if_pos he]; rfl⟩)
      have fs := rf_set c.n c.l c.L (.slice (some ⟨g, 0, none⟩) N vc) i a _ hi (by have := LN.out; omega) V2.out
      unfold refC at fs
      clear he KO hx hi ho
      go_enter Try.func40, Try.ntmps40
      go_wp2_with fail
      refine fs.mono ?_
      rintro ev w4 ⟨v4, rfl, ho, hs⟩
      obtain ⟨a4, c4, rfl, -, -⟩ := ho.lenN (n := N) (by rw [List.length_set]; exact LN.out.1)
      have k4 := blk_step K2.out hs
      obtain ⟨q0, q1, q2, q3, q4, q5, q6⟩ := three_facts k4 (.int .i64 c.n) (.int .i64 c.l) (.slice a4 N c4)
      have Q6 := Lib.hid q6
      have O4 := Lib.hid ho
      have B4 := Lib.hid (B2.out.trans (hs.mono B2.out.size))
      have K4 := Lib.hid k4
      clear ho hs k4 q6 fs
      simp only
      go_wp2
      rw [E.out.1, E.out.2]
      have hne : ∀ k, (Value.slice a4 N c4).ownBlock = some k → k ≠ w.heap.size + 1 := O4.out.neBlk K4.out (by decide)
      have o5 := ((O4.out.setOther (o := 0) (x := .int .i64 c.n) hne).setOther (o := 1) (x := .int .i64 c.l) hne).setOther (o := 2) (x := .slice a4 N c4) hne
      have b5 := below_set (below_set (below_set B4.out (show w.heap.size ≤ w.heap.size + 1 by omega) 0 (.int .i64 c.n)) (show w.heap.size ≤ w.heap.size + 1 by omega) 1 (.int .i64 c.l)) (show w.heap.size ≤ w.heap.size + 1 by omega) 2 (.slice a4 N c4)
      exact bodyPost_ret (v := .tuple #[.agg #[.int .i64 c.n, .int .i64 c.l, .slice a4 N c4], .int .i64 0]) (results_cellT rfl _ _ (w.heap.size + 1) [.int .i64 c.n, .int .i64 c.l, .slice a4 N c4] _ (.int .i64 0) rfl rfl (rng3 Q6.out) Try.underlying89 rfl (by kernel_rfl)) rfl ⟨_, rfl, o5, b5⟩
  · exact absurd (hok.at x).1 (by omega)
theorem leave_cases (c : Ck) (x : Int) : (c.out x ∧ c.leaveE x = 1) ∨ (∃ i : Nat, x = i ∧ i < c.L.length ∧ ¬ c.out x ∧ ((0 < atL c.L i ∧ c.leaveE x = 0) ∨ (atL c.L i = 0 ∧ c.leaveE x = 13))) ∨ atL c.L x < 0 := by
  by_cases ho : c.out x
  · exact .inl ⟨ho, by unfold Ck.leaveE; rw [if_pos ho]⟩
  · have X : 0 ≤ x ∧ x < (c.L.length : Int) := by unfold Ck.out at ho; omega
    obtain ⟨i, rfl⟩ : ∃ i : Nat, x = i := ⟨x.toNat, by omega⟩
    by_cases hp : 0 < atL c.L i
    · exact .inr (.inl ⟨i, rfl, by omega, ho, .inl ⟨hp, by unfold Ck.leaveE; rw [if_neg ho, if_pos hp]⟩⟩)
    · by_cases hz : atL c.L i = 0
      · exact .inr (.inl ⟨i, rfl, by omega, ho, .inr ⟨hz, by unfold Ck.leaveE; rw [if_neg ho, if_neg hp]⟩⟩)
      · exact .inr (.inr (by omega))
set_option maxRecDepth 100000 in
set_option maxHeartbeats 4000000 in
theorem rf_leave (c : Ck) (v : Value) (x : Int) (w : World) (hok : c.ok) (hv : OwnS lInt 0 w v c.L) :
    Calls Try.prog 41 #[refC c v, .int .i64 x] w fun ev w' => ∃ v', ev = .returned (.tuple #[refC (c.leave x) v', .int .i64 (c.leaveE x)]) ∧ OwnS lInt 0 w' v' (c.leave x).L ∧ Below w.heap.size w w' := by
  obtain ⟨N, hN⟩ : ∃ N, c.L.length = N := ⟨_, rfl⟩
  obtain ⟨va, vc, rfl, -, -⟩ := hv.lenN hN
  have b1 := alloc_below0 w (refO c.n c.l (.slice va N vc))
  have b2 := alloc_below0 (w.alloc (refO c.n c.l (.slice va N vc))) (refO 0 0 (.slice none 0 0))
  have b3 := alloc_below0 (w.alloc (refO c.n c.l (.slice va N vc))) (refO c.n c.l (.slice va N vc))
  have z1 : (w.alloc (refO c.n c.l (.slice va N vc))).heap.size = w.heap.size + 1 := by simp
  have K3 := Lib.hid (show ((w.alloc (refO c.n c.l (.slice va N vc))).alloc (refO c.n c.l (.slice va N vc))).heap[w.heap.size + 1]? = some (refO c.n c.l (.slice va N vc)) by rw [← z1]; exact blk_new _ _)
  have B3 := Lib.hid (b1.trans (b3.mono b1.size))
  have V3 := Lib.hid (hv.below B3.out)
  have K2 := Lib.hid (show ((w.alloc (refO c.n c.l (.slice va N vc))).alloc (refO 0 0 (.slice none 0 0))).heap[w.heap.size + 1]? = some (refO 0 0 (.slice none 0 0)) by rw [← z1]; exact blk_new _ _)
  have B2 := Lib.hid (b1.trans (b2.mono b1.size))
  have V2 := Lib.hid (hv.below B2.out)
  have LN := Lib.hid (show c.L.length = N ∧ N ≤ 64 from ⟨hN, hN ▸ hok.tm⟩)
  have KO : c.leaveE x ≠ 0 → c.leave x = c := fun he => by unfold Ck.leave; rw [if_neg he]
  unfold refO at K3 B3 V3 K2 B2 V2
  unfold refC
  clear b1 b2 b3 z1 hv hN
  rcases leave_cases c x with ⟨ho, he⟩ | ⟨i, rfl, hi, ho, hc⟩ | hneg
  · have E := Lib.hid (show c.leaveE x = 1 ∧ c.leave x = c from ⟨he, KO (by rw [he]; decide)⟩)
    clear he KO
    by_cases h1 : x < 0
    · clear ho
      go_enter Try.func41, Try.ntmps41
      go_wp2
      rw [E.out.1, E.out.2]
      exact bodyPost_ret (v := .tuple #[.agg #[.int .i64 c.n, .int .i64 c.l, .slice va N vc], .int .i64 1]) (results_cellT rfl _ _ (w.heap.size + 1) [.int .i64 c.n, .int .i64 c.l, .slice va N vc] _ (.int .i64 1) rfl rfl (rng3 K3.out) Try.underlying89 rfl (by kernel_rfl)) rfl ⟨_, rfl, V3.out, B3.out⟩
    · have h2 : (N : Int) ≤ x := by have := LN.out.1; unfold Ck.out at ho; omega
      have h3 : 0 ≤ x := by omega
      clear ho h1
      go_enter Try.func41, Try.ntmps41
      go_wp2
      rw [E.out.1, E.out.2]
      exact bodyPost_ret (v := .tuple #[.agg #[.int .i64 c.n, .int .i64 c.l, .slice va N vc], .int .i64 1]) (results_cellT rfl _ _ (w.heap.size + 1) [.int .i64 c.n, .int .i64 c.l, .slice va N vc] _ (.int .i64 1) rfl rfl (rng3 K3.out) Try.underlying89 rfl (by kernel_rfl)) rfl ⟨_, rfl, V3.out, B3.out⟩
  · have hlt : i < N := by have := LN.out.1; omega
    obtain ⟨g, ha⟩ := V2.out.addrN (by omega)
    subst ha
    obtain ⟨x, hx⟩ : ∃ x, c.L[i]? = some x := ⟨_, List.getElem?_eq_getElem hi⟩
    rw [atL_get hx] at hc
    have x0 := V2.out.sv.cellAt (j := 0) hx rfl
    simp only [lInt, Nat.mul_one, Nat.add_zero, Nat.zero_add] at x0
    have j1 : ¬ (i : Int) < 0 := by omega
    have j2 : ¬ (N : Int) ≤ (i : Int) := by omega
    have j3 : (0 : Int) ≤ (i : Int) := by omega
    have j4 : (i : Int) < (N : Int) := by omega
    rcases hc with ⟨hp, he⟩ | ⟨hz, he⟩
    · have hz : (x == 0) = false := by simp; omega
      have E := Lib.hid (show c.leaveE i = 0 ∧ c.leave i = ⟨c.n, c.l, c.L.set i 0⟩ from ⟨he, by unfold Ck.leave; rw [if_pos he]; rfl⟩)
      have fs := rf_set c.n c.l c.L (.slice (some ⟨g, 0, none⟩) N vc) i 0 _ hi (by have := LN.out; omega) V2.out
      unfold refC at fs
      clear he KO hx hi ho
      go_enter Try.func41, Try.ntmps41
      go_wp2_with fail
      refine fs.mono ?_
      rintro ev w4 ⟨v4, rfl, ho, hs⟩
      obtain ⟨a4, c4, rfl, -, -⟩ := ho.lenN (n := N) (by rw [List.length_set]; exact LN.out.1)
      have k4 := blk_step K2.out hs
      obtain ⟨q0, q1, q2, q3, q4, q5, q6⟩ := three_facts k4 (.int .i64 c.n) (.int .i64 c.l) (.slice a4 N c4)
      have Q6 := Lib.hid q6
      have O4 := Lib.hid ho
      have B4 := Lib.hid (B2.out.trans (hs.mono B2.out.size))
      have K4 := Lib.hid k4
      clear ho hs k4 q6 fs
      simp only
      go_wp2
      rw [E.out.1, E.out.2]
      have hne : ∀ k, (Value.slice a4 N c4).ownBlock = some k → k ≠ w.heap.size + 1 := O4.out.neBlk K4.out (by decide)
      have o5 := ((O4.out.setOther (o := 0) (x := .int .i64 c.n) hne).setOther (o := 1) (x := .int .i64 c.l) hne).setOther (o := 2) (x := .slice a4 N c4) hne
      have b5 := below_set (below_set (below_set B4.out (show w.heap.size ≤ w.heap.size + 1 by omega) 0 (.int .i64 c.n)) (show w.heap.size ≤ w.heap.size + 1 by omega) 1 (.int .i64 c.l)) (show w.heap.size ≤ w.heap.size + 1 by omega) 2 (.slice a4 N c4)
      exact bodyPost_ret (v := .tuple #[.agg #[.int .i64 c.n, .int .i64 c.l, .slice a4 N c4], .int .i64 0]) (results_cellT rfl _ _ (w.heap.size + 1) [.int .i64 c.n, .int .i64 c.l, .slice a4 N c4] _ (.int .i64 0) rfl rfl (rng3 Q6.out) Try.underlying89 rfl (by kernel_rfl)) rfl ⟨_, rfl, o5, b5⟩
    · subst hz
      have E := Lib.hid (show c.leaveE i = 13 ∧ c.leave i = c from ⟨he, KO (by rw [he]; decide)⟩)
      clear he KO hx hi ho
      go_enter Try.func41, Try.ntmps41
      go_wp2
      rw [E.out.1, E.out.2]
      exact bodyPost_ret (v := .tuple #[.agg #[.int .i64 c.n, .int .i64 c.l, .slice (some ⟨g, 0, none⟩) N vc], .int .i64 13]) (results_cellT rfl _ _ (w.heap.size + 1) [.int .i64 c.n, .int .i64 c.l, .slice (some ⟨g, 0, none⟩) N vc] _ (.int .i64 13) rfl rfl (rng3 K3.out) Try.underlying89 rfl (by kernel_rfl)) rfl ⟨_, rfl, V3.out, B3.out⟩
  · exact absurd (hok.at x).1 (by omega)
end Go.Proofs.Ytkkmfacngmginaa
