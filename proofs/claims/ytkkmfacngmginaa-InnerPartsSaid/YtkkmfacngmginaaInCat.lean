/- Package inner's own functions (layer 8), by contracts: concat, inside, find and its closure, over slices.BinarySearchFunc. -/
import Derived.Test.YtkkmfacngmginaaInHelp
import Derived.Test.YtkkmfacngmginaaInFindM
import Derived.Test.YtkkmfacngmginaaB2Code
namespace Go.Proofs.Ytkkmfacngmginaa
open Go.RowKit

def nilV : Value := .slice none 0 0
set_option maxRecDepth 100000 in
set_option maxHeartbeats 4000000 in
theorem concatE_any (B n : Nat) (vs : List Value) (ess : List (List En)) (w : World) (h : ∀ j, j < n → w.cell? ⟨B, j, none⟩ = some (vs.getD j nilV) ∧ SV lEnt w (vs.getD j nilV) (ess.getD j [])) (hn : n ≤ 10) (hr : ess.length = n)
    (hl : ess.flatten.length ≤ 10000) :
    Calls Try.prog 80 #[.slice (some ⟨B, 0, none⟩) n n] w fun ev w' => ∃ v', ev = .returned v' ∧ OwnS lEnt w.heap.size w' v' ess.flatten ∧ Below w.heap.size w w' := by
  have V := Lib.hid (show (∀ j, j < n → w.cell? ⟨B, j, none⟩ = some (vs.getD j nilV) ∧ SV lEnt w (vs.getD j nilV) (ess.getD j [])) ∧ ess.length = n ∧ ess.flatten.length ≤ 10000 from ⟨h, hr, hl⟩)
  clear h hr hl
  go_enter Try.func80, Try.ntmps80
  go_wp2
  go_loopg [3, 8] n (fun m va i wr => ∃ k : Nat, k + m = n ∧ i = .int .i64 k ∧ OwnS lEnt w.heap.size wr va (ess.take k).flatten ∧ Below w.heap.size w wr)
  case atStart => exact ⟨0, by omega, rfl, by simpa using OwnS.nil _ _ _, Below.refl _ _⟩
  case round =>
    obtain ⟨k, hk, rfl, ho, hB⟩ := hrel
    have A := Lib.hid (show OwnS lEnt w.heap.size wr _ (ess.take k).flatten ∧ Below w.heap.size w wr ∧ k + gk = n from ⟨ho, hB, hk⟩)
    clear ho hB
    by_cases hlt : k < n
    · have hR := (V.out.1 k hlt).2
      obtain ⟨a, c, hv, -, hcm⟩ := hR.lenform
      have hc0 : wr.cell? ⟨B, k, none⟩ = some (.slice a (ess.getD k []).length c) := (A.out.2.1.cell (p := ⟨B, k, none⟩) (lt_of_cell (V.out.1 k hlt).1)).trans (hv ▸ (V.out.1 k hlt).1)
      have hR1 := Lib.hid (hv ▸ hR.below A.out.2.1)
      have hsum : (ess.take (k + 1)).flatten = (ess.take k).flatten ++ ess.getD k [] := by
        rw [List.take_succ_eq_append_getElem (by rw [V.out.2.1]; exact hlt)]
        simp only [List.flatten_append, List.flatten_singleton, List.getD, List.getElem?_eq_getElem (show k < ess.length by rw [V.out.2.1]; exact hlt), Option.getD_some]
      have hle : (ess.take k).flatten.length + (ess.getD k []).length ≤ 10000 := by
        rw [← List.length_append, ← hsum]
        have h2 := V.out.2.2
        rw [← List.take_append_drop (k + 1) ess, List.flatten_append, List.length_append] at h2
        omega
      have H := Lib.hid (show _ ∧ _ from ⟨hsum, hle⟩)
      clear hR hv hsum hle
      generalize ess.getD k [] = es at *
      unfold maxLen at hcm
      go_wp2_with (at_builtin; go_must (refine wpList_appS lEnt 25 Try.underlying25 lEnt_known (by decide) (by decide) rfl (.tmp 12) (.tmp 13) rfl w.heap.size rfl rfl A.out.1 hR1.out (by have := H.out.2; omega) (A.out.2.1.size) ?_))
      intro v3 w3 ho hg
      have G := Lib.hid (show OwnS lEnt w.heap.size w3 v3 (ess.take (k + 1)).flatten ∧ Below w.heap.size w w3 from ⟨by rw [H.out.1]; exact ho, A.out.2.1.grown hg A.out.2.1.size (fun k hk => (World.ownsRow.lt A.out.1 k hk).1)⟩)
      clear ho hg
      go_wp2
      go_roundg (n - (k + 1))
      case measure => have := A.out.2.2; omega
      case rel => exact ⟨k + 1, by omega, by go_num, G.out⟩
    · have e : k = n := by omega
      have R0 := A.out.1
      rw [e, List.take_of_length_le (by rw [V.out.2.1]; exact Nat.le_refl _)] at R0
      have R := Lib.hid R0
      clear R0 e
      go_wp2
      go_ret
      exact ⟨_, rfl, R.out, A.out.2.1⟩
/-- lists laid side by side in a block -/
theorem lists_ofE {w : World} {n : Nat} {vs : List Value} {ess : List (List En)} {ty : TypeId} (hb : w.heap[n]? = some (.cells vs.toArray ty)) (h : ∀ j, j < vs.length → SV lEnt w (vs.getD j nilV) (ess.getD j [])) :
    ∀ j, j < vs.length → w.cell? ⟨n, j, none⟩ = some (vs.getD j nilV) ∧ SV lEnt w (vs.getD j nilV) (ess.getD j []) := fun j hj => by
  refine ⟨?_, h j hj⟩
  rw [blk_cell hb]
  simp [List.getD, hj]
theorem catE1 (w : World) (n : Nat) (v1 : Value) (e1 : List En) (hb : HB n (.cells #[v1] 25) w) (h1 : SV lEnt w v1 e1) (hl : e1.length ≤ 10000) :
    Calls Try.prog 80 #[.slice (some ⟨n, 0, none⟩) 1 1] w fun ev w' => ∃ v', ev = .returned v' ∧ OwnS lEnt w.heap.size w' v' e1 ∧ Below w.heap.size w w' := by
  have h := lists_ofE (vs := [v1]) (ess := [e1]) hb.b (fun j hj => by
    rcases j with _ | j
    · exact h1
    · simp at hj)
  refine (concatE_any n 1 [v1] [e1] _ h (by omega) rfl (by simpa using hl)).mono ?_
  rintro ev w' ⟨v', rfl, ho, hs⟩
  exact ⟨v', rfl, by simpa using ho, hs⟩
theorem catE2 (w : World) (n : Nat) (v1 v2 : Value) (e1 e2 : List En) (hb : HB n (.cells #[v1, v2] 25) w) (h1 : SV lEnt w v1 e1) (h2 : SV lEnt w v2 e2) (hl : e1.length + e2.length ≤ 10000) :
    Calls Try.prog 80 #[.slice (some ⟨n, 0, none⟩) 2 2] w fun ev w' => ∃ v', ev = .returned v' ∧ OwnS lEnt w.heap.size w' v' (e1 ++ e2) ∧ Below w.heap.size w w' := by
  have h := lists_ofE (vs := [v1, v2]) (ess := [e1, e2]) hb.b (fun j hj => by
    rcases j with _ | _ | j
    · exact h1
    · exact h2
    · simp at hj; omega)
  refine (concatE_any n 2 [v1, v2] [e1, e2] _ h (by omega) rfl (by simpa using hl)).mono ?_
  rintro ev w' ⟨v', rfl, ho, hs⟩
  exact ⟨v', rfl, by simpa using ho, hs⟩
theorem catE3 (w : World) (n : Nat) (v1 v2 v3 : Value) (e1 e2 e3 : List En) (hb : HB n (.cells #[v1, v2, v3] 25) w) (h1 : SV lEnt w v1 e1) (h2 : SV lEnt w v2 e2) (h3 : SV lEnt w v3 e3) (hl : e1.length + e2.length + e3.length ≤ 10000) :
    Calls Try.prog 80 #[.slice (some ⟨n, 0, none⟩) 3 3] w fun ev w' => ∃ v', ev = .returned v' ∧ OwnS lEnt w.heap.size w' v' (e1 ++ (e2 ++ e3)) ∧ Below w.heap.size w w' := by
  have h := lists_ofE (vs := [v1, v2, v3]) (ess := [e1, e2, e3]) hb.b (fun j hj => by
    rcases j with _ | _ | _ | j
    · exact h1
    · exact h2
    · exact h3
    · simp at hj; omega)
  refine (concatE_any n 3 [v1, v2, v3] [e1, e2, e3] _ h (by omega) rfl (by simp; omega)).mono ?_
  rintro ev w' ⟨v', rfl, ho, hs⟩
  exact ⟨v', rfl, by simpa using ho, hs⟩
/-! ### inside -/
theorem insideI_any (v : IvD) (en : Value) (key : ByteArray) (w : World) :
    Calls Try.prog 51 #[ivVal v en, .string key] w fun ev w' => ev = .returned (.bool (inI v key)) ∧ Below w.heap.size w w' := by
  have hs := alloc_below0 w (ivObj v en)
  have V := VB.new v en w
  have v_0 := V.c0
  have v_1 := V.c1
  have v_2 := V.c2
  have B := Lib.hid hs
  clear hs V
  unfold ivObj at B v_0 v_1 v_2
  unfold ivVal
  go_enter Try.func51, Try.ntmps51
  go_wp2_with fail
  refine (inside_any v.low v.high key v.unb _).mono ?_
  rintro ev w1 ⟨rfl, rfl⟩
  clear v_0 v_1 v_2
  go_wp2
  go_ret
  exact ⟨rfl, B.out⟩
/-! ### find -/
theorem findCl_any (e : En) (key : ByteArray) (w : World) :
    Calls Try.prog 89 #[entVal e, .string key] w fun ev w' => ev = .returned (.int .i64 (cmp e.1.data.toList key.data.toList)) ∧ Below w.heap.size w w' := by
  have hs := alloc_below0 w (entObj e)
  have X := EB.new e w
  have x_0 := X.c0
  have B := Lib.hid hs
  clear hs X
  unfold entObj at B x_0
  unfold entVal
  go_enter Try.func89, Try.ntmps89
  go_wp2_with fail
  refine (compare_any e.1 key _).mono ?_
  rintro ev w1 ⟨rfl, rfl⟩
  clear x_0
  go_wp2
  go_ret
  exact ⟨rfl, B.out⟩
theorem cmp_ltB (a b : ByteArray) : decide (cmp a.data.toList b.data.toList < 0) = bef a.data.toList b.data.toList := by
  have := cmp_neg_iff a.data.toList b.data.toList
  cases h : bef a.data.toList b.data.toList with
  | true => exact decide_eq_true (this.2 h)
  | false => exact decide_eq_false (fun hc => by rw [this.1 hc] at h; cases h)
theorem cmp_eqB (a b : ByteArray) : (cmp a.data.toList b.data.toList == 0) = eqB a b := by
  rw [Bool.eq_iff_iff, beq_iff_eq, cmp_zero, eqB_iff]
  exact ⟨data_ext, fun h => by rw [h]⟩
def cmpF : Value := .func (.func 89) #[] #[]
/-- halving: between two places -/
def midN (i j : Nat) : Nat := (i + j) / 2
end Go.Proofs.Ytkkmfacngmginaa
