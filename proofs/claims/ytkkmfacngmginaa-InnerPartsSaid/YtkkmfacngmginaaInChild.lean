/- Package inner's own functions (layer 8), by contracts: Has and Child. -/
import Derived.Test.YtkkmfacngmginaaInEnd
namespace Go.Proofs.Ytkkmfacngmginaa
open Go.RowKit

theorem hasI_any (v : IvD) (en : Value) (key : ByteArray) (w : World) (hv : SV lEnt w en v.ents) (hr : risE none v.ents = true) (hl : v.ents.length ≤ 2000) :
    Calls Try.prog 42 #[ivVal v en, .string key] w fun ev w' => ev = .returned (.bool (atE v.ents key).isSome) ∧ Below w.heap.size w w' := by
  obtain ⟨a, c, rfl, -, -⟩ := hv.lenform
  obtain ⟨n, hn⟩ : ∃ n, v.ents.length = n := ⟨_, rfl⟩
  have TH := Lib.hid (there_has (k := key) hr)
  have LN := Lib.hid (show v.ents.length ≤ 2000 from hl)
  have HR := Lib.hid hr
  rw [hn] at hv ⊢
  obtain ⟨W0, hW0⟩ : ∃ W, W = w.alloc (ivObj v (.slice a n c)) := ⟨_, rfl⟩
  have B0 := Lib.hid (show Below w.heap.size w W0 by rw [hW0]; exact alloc_below0 _ _)
  have K0 := Lib.hid (show HB w.heap.size (ivObj v (.slice a n c)) W0 by rw [hW0]; exact HB.new _ _)
  have E0 := Lib.hid (hv.below B0.out)
  have hcl := findI_any v (.slice a n c) key W0 E0.out HR.out LN.out
  simp only [ivVal] at hcl
  have v_0 := K0.out.vb.c0
  have v_1 := K0.out.vb.c1
  have v_2 := K0.out.vb.c2
  have v_3 := K0.out.vb.c3
  have v_4 := K0.out.vb.c4
  have v_5 := K0.out.vb.c5
  have v_6 := K0.out.vb.c6
  have v_7 := K0.out.vb.c7
  have v_8 := K0.out.vb.c8
  unfold ivObj at hW0
  clear hv hn hr hl
  unfold ivVal
  go_enter Try.func42, Try.ntmps42
  go_wp2_with fail
  rw [← hW0]
  refine hcl.mono ?_
  rintro ev w1 ⟨rfl, hs⟩
  unfold findV
  have B1 := Lib.hid (B0.out.trans (hs.mono B0.out.size))
  clear hs hcl hW0 v_0 v_1 v_2 v_3 v_4 v_5 v_6 v_7 v_8
  go_wp2
  go_ret
  exact ⟨by rw [TH.out]; rfl, B1.out⟩
set_option maxRecDepth 100000 in
set_option maxHeartbeats 4000000 in
theorem childI_any (v : IvD) (en : Value) (key : ByteArray) (w : World) (hv : SV lEnt w en v.ents) (hr : risE none v.ents = true) (hl : v.ents.length ≤ 2000) :
    Calls Try.prog 13 #[ivVal v en, .string key] w fun ev w' => ev = .returned (.tuple #[entVal ((childI v key).getD e0), errV (childC v key)]) ∧ Below w.heap.size w w' := by
  have hnot : ∀ (x : Bool) (w : World), (Op.unary .not (.bool x)).run Try.prog w = .ok (.bool (!x)) w := fun _ _ => rfl
  obtain ⟨a, c, rfl, hlc, hcm⟩ := hv.lenform
  obtain ⟨n, hn⟩ : ∃ n, v.ents.length = n := ⟨_, rfl⟩
  obtain ⟨m, hm⟩ : ∃ m, aheadE v.ents key = m := ⟨_, rfl⟩
  obtain ⟨t, ht⟩ : ∃ t, thereE v.ents key = t := ⟨_, rfl⟩
  have LN := Lib.hid hn
  have HL := Lib.hid hl
  have HR := Lib.hid hr
  have PL := Lib.hid (show childL v.ents key = if t = true then some (v.ents.getD m e0) else if m = 0 then none else some (v.ents.getD (m - 1) e0) from by rw [← ht, ← hm]; exact childL_place _ _ hr)
  have hmn : m ≤ n := by rw [← hm, ← hn]; exact aheadE_le _ _
  have KY := Lib.hid (show t = true → m < n from fun h => by have := (there_key (ht.trans h)).1; rwa [hm, hn] at this)
  rw [hn] at hv hlc hl ⊢
  unfold maxLen at hcm
  obtain ⟨W0, hW0⟩ : ∃ W, W = (w.alloc (ivObj v (.slice a n c))).alloc (entObj e0) := ⟨_, rfl⟩
  have B0 := Lib.hid (show Below w.heap.size w W0 by rw [hW0]; exact alloc2_below _ _ _)
  have K0 := Lib.hid (show HB w.heap.size (ivObj v (.slice a n c)) W0 by rw [hW0]; exact HB.fst _ _ _)
  have R0 := Lib.hid (show HB (w.heap.size + 1) (entObj e0) W0 by rw [hW0]; exact HB.snd _ _ _)
  have E0 := Lib.hid (hv.below B0.out)
  have hcl := findI_any v (.slice a n c) key W0 E0.out HR.out HL.out
  simp only [ivVal] at hcl
  have v_0 := K0.out.vb.c0
  have v_1 := K0.out.vb.c1
  have v_2 := K0.out.vb.c2
  have v_3 := K0.out.vb.c3
  have v_4 := K0.out.vb.c4
  have v_5 := K0.out.vb.c5
  have v_6 := K0.out.vb.c6
  have v_7 := K0.out.vb.c7
  have v_8 := K0.out.vb.c8
  unfold ivObj entObj e0 at hW0
  simp only at hW0
  clear hv hn hr
  unfold ivVal entVal
  go_enter Try.func13, Try.ntmps13
  go_wp2_with fail
  rw [← hW0]
  refine hcl.mono ?_
  rintro ev w2 ⟨rfl, hs⟩
  unfold findV
  rw [hm, ht]
  have B2 := Lib.hid (B0.out.trans (hs.mono B0.out.size))
  have K2 := Lib.hid (K0.out.below hs)
  have R2 := Lib.hid (R0.out.below hs)
  have E2 := Lib.hid (E0.out.below hs)
  clear hs hcl hW0 hm ht K0 v_0 v_1 v_2 v_3 v_4 v_5 v_6 v_7 v_8
  have v_0 := K2.out.vb.c0
  have v_1 := K2.out.vb.c1
  have v_2 := K2.out.vb.c2
  have v_3 := K2.out.vb.c3
  have v_4 := K2.out.vb.c4
  have v_5 := K2.out.vb.c5
  have v_6 := K2.out.vb.c6
  have v_7 := K2.out.vb.c7
  have v_8 := K2.out.vb.c8
  have j1 : (0 : Int) ≤ (m : Int) := by omega
  cases t with
  | true =>
    have hi1 : m < n := KY.out rfl
    have j2 : (m : Int) < (n : Int) := by omega
    have hcl := insideI_any v (.slice a n c) key w2
    simp only [ivVal] at hcl
    obtain ⟨b, off, ha⟩ := E2.out.addr (by rw [LN.out]; omega)
    subst ha
    have hx := mem_at (es := v.ents) (i := m) (by rw [LN.out]; exact hi1)
    obtain ⟨⟨k, p⟩, he⟩ : ∃ e, v.ents.getD m e0 = e := ⟨_, rfl⟩
    rw [he] at hx
    have HC := Lib.hid (show childI v key = if inI v key = true then some (k, p) else none from by unfold childI; rw [PL.out]; rw [if_pos rfl, he])
    have x0 := E2.out.cellAt (j := 0) hx rfl
    have x1 := E2.out.cellAt (j := 1) hx rfl
    simp only [lEnt, Nat.add_zero] at x0 x1
    clear hx he
    go_wp2_with fail
    refine hcl.mono ?_
    rintro ev w3 ⟨rfl, hs⟩
    have B3 := Lib.hid (B2.out.trans (hs.mono B2.out.size))
    have R3 := Lib.hid (R2.out.below hs)
    have K3 := Lib.hid (K2.out.below hs)
    have x0 := cell_step x0 hs
    have x1 := cell_step x1 hs
    clear hs hcl v_0 v_1 v_2 v_3 v_4 v_5 v_6 v_7 v_8
    have v_4 := K3.out.vb.c4
    cases hin : inI v key with
    | false =>
      have PC := Lib.hid (show childI v key = none from by rw [HC.out, hin]; rfl)
      clear hin
      go_wp2_with (refine wpList_store_mid rfl 44 (.tmp 4) (.tmp 26) rfl (w.heap.size + 1) 0 ([.string ⟨#[]⟩, .int .i64 0] : List Value).toArray rfl rfl ?_ entInfoS (by kernel_rfl) ?_; exact R3.out.there 2 (Nat.le_refl _))
      have B6 := below_setCells (b := w.heap.size + 1) (Nat.le_succ w.heap.size) [.string ⟨#[]⟩, .int .i64 0] 0 _ B3.out
      refine bodyPost_ret (v := .tuple #[.agg ([.string ⟨#[]⟩, .int .i64 0] : List Value).toArray, .iface 73 (.int .i64 2)]) (results_cellT rfl _ _ (w.heap.size + 1) _ _ _ rfl rfl (World.rangeAt_setCells_same _ _ 0 _ (R3.out.there 2 (Nat.le_refl _))) Try.underlying44 rfl entInfoS) rfl ?_
      exact ⟨by unfold childC; rw [PC.out]; rfl, B6⟩
    | true =>
      have PC := Lib.hid (show childI v key = some (k, p) from by rw [HC.out, hin]; rfl)
      clear hin
      go_wp2_with (refine wpList_store_mid rfl 44 (.tmp 4) (.tmp 32) rfl (w.heap.size + 1) 0 ([.string k, .int .i64 p] : List Value).toArray rfl rfl ?_ entInfoS (by kernel_rfl) ?_; exact R3.out.there 2 (Nat.le_refl _))
      have B6 := below_setCells (b := w.heap.size + 1) (Nat.le_succ w.heap.size) [.string k, .int .i64 p] 0 _ B3.out
      refine bodyPost_ret (v := .tuple #[.agg ([.string k, .int .i64 p] : List Value).toArray, .nilIface]) (results_cellT rfl _ _ (w.heap.size + 1) _ _ _ rfl rfl (World.rangeAt_setCells_same _ _ 0 _ (R3.out.there 2 (Nat.le_refl _))) Try.underlying44 rfl entInfoS) rfl ?_
      exact ⟨by unfold childC; rw [PC.out]; rfl, B6⟩
  | false =>
    by_cases hm0 : m = 0
    · subst hm0
      have PC := Lib.hid (show childI v key = none from by unfold childI; rw [PL.out]; split <;> rfl)
      go_wp2_with (refine wpList_store_mid rfl 44 (.tmp 4) (.tmp 26) rfl (w.heap.size + 1) 0 ([.string ⟨#[]⟩, .int .i64 0] : List Value).toArray rfl rfl ?_ entInfoS (by kernel_rfl) ?_; exact R2.out.there 2 (Nat.le_refl _))
      have B6 := below_setCells (b := w.heap.size + 1) (Nat.le_succ w.heap.size) [.string ⟨#[]⟩, .int .i64 0] 0 _ B2.out
      refine bodyPost_ret (v := .tuple #[.agg ([.string ⟨#[]⟩, .int .i64 0] : List Value).toArray, .iface 73 (.int .i64 2)]) (results_cellT rfl _ _ (w.heap.size + 1) _ _ _ rfl rfl (World.rangeAt_setCells_same _ _ 0 _ (R2.out.there 2 (Nat.le_refl _))) Try.underlying44 rfl entInfoS) rfl ?_
      exact ⟨by unfold childC; rw [PC.out]; rfl, B6⟩
    · obtain ⟨i, hi⟩ : ∃ i, m - 1 = i := ⟨_, rfl⟩
      have hi1 : i < n := by omega
      have j3 : (m : Int) - 1 = (i : Int) := by omega
      have j4 : IntKind.i64.wrap (i : Int) = (i : Int) := Go.IntWalk.i64_in _ (by omega)
      have j5 : (0 : Int) ≤ (i : Int) := by omega
      have j6 : (i : Int) < (n : Int) := by omega
      rw [hi] at PL
      have hcl := insideI_any v (.slice a n c) key w2
      simp only [ivVal] at hcl
      obtain ⟨b, off, ha⟩ := E2.out.addr (by rw [LN.out]; omega)
      subst ha
      have hx := mem_at (es := v.ents) (i := i) (by rw [LN.out]; exact hi1)
      obtain ⟨⟨k, p⟩, he⟩ : ∃ e, v.ents.getD i e0 = e := ⟨_, rfl⟩
      rw [he] at hx
      have HC := Lib.hid (show childI v key = if inI v key = true then some (k, p) else none from by unfold childI; rw [PL.out]; simp only [Bool.false_eq_true, if_false, if_neg hm0, he])
      have x0 := E2.out.cellAt (j := 0) hx rfl
      have x1 := E2.out.cellAt (j := 1) hx rfl
      simp only [lEnt, Nat.add_zero] at x0 x1
      clear hx he
      go_wp2_with fail
      refine hcl.mono ?_
      rintro ev w3 ⟨rfl, hs⟩
      have B3 := Lib.hid (B2.out.trans (hs.mono B2.out.size))
      have R3 := Lib.hid (R2.out.below hs)
      have K3 := Lib.hid (K2.out.below hs)
      have x0 := cell_step x0 hs
      have x1 := cell_step x1 hs
      clear hs hcl v_0 v_1 v_2 v_3 v_4 v_5 v_6 v_7 v_8
      have v_4 := K3.out.vb.c4
      cases hin : inI v key with
      | false =>
        have PC := Lib.hid (show childI v key = none from by rw [HC.out, hin]; rfl)
        clear hin
        go_wp2_with (refine wpList_store_mid rfl 44 (.tmp 4) (.tmp 26) rfl (w.heap.size + 1) 0 ([.string ⟨#[]⟩, .int .i64 0] : List Value).toArray rfl rfl ?_ entInfoS (by kernel_rfl) ?_; exact R3.out.there 2 (Nat.le_refl _))
        have B6 := below_setCells (b := w.heap.size + 1) (Nat.le_succ w.heap.size) [.string ⟨#[]⟩, .int .i64 0] 0 _ B3.out
        refine bodyPost_ret (v := .tuple #[.agg ([.string ⟨#[]⟩, .int .i64 0] : List Value).toArray, .iface 73 (.int .i64 2)]) (results_cellT rfl _ _ (w.heap.size + 1) _ _ _ rfl rfl (World.rangeAt_setCells_same _ _ 0 _ (R3.out.there 2 (Nat.le_refl _))) Try.underlying44 rfl entInfoS) rfl ?_
        exact ⟨by unfold childC; rw [PC.out]; rfl, B6⟩
      | true =>
        have PC := Lib.hid (show childI v key = some (k, p) from by rw [HC.out, hin]; rfl)
        clear hin
        go_wp2_with (refine wpList_store_mid rfl 44 (.tmp 4) (.tmp 32) rfl (w.heap.size + 1) 0 ([.string k, .int .i64 p] : List Value).toArray rfl rfl ?_ entInfoS (by kernel_rfl) ?_; exact R3.out.there 2 (Nat.le_refl _))
        have B6 := below_setCells (b := w.heap.size + 1) (Nat.le_succ w.heap.size) [.string k, .int .i64 p] 0 _ B3.out
        refine bodyPost_ret (v := .tuple #[.agg ([.string k, .int .i64 p] : List Value).toArray, .nilIface]) (results_cellT rfl _ _ (w.heap.size + 1) _ _ _ rfl rfl (World.rangeAt_setCells_same _ _ 0 _ (R3.out.there 2 (Nat.le_refl _))) Try.underlying44 rfl entInfoS) rfl ?_
        exact ⟨by unfold childC; rw [PC.out]; rfl, B6⟩
end Go.Proofs.Ytkkmfacngmginaa
