/- Package inner's own find (layer 8), by a contract, over slices.BinarySearchFunc. -/
import Derived.Test.YtkkmfacngmginaaDoorInHelp
import Derived.Test.YtkkmfacngmginaaDoorInFindM
import Derived.Test.YtkkmfacngmginaaDoorB2Code
namespace Go.Proofs.YtkkmfacngmginaaDoor
open Go.RowKit

def nilV : Value := .slice none 0 0
set_option maxRecDepth 100000 in
set_option maxHeartbeats 4000000 in
theorem concatE_any (B n : Nat) (vs : List Value) (ess : List (List En)) (w : World) (h : ∀ j, j < n → w.cell? ⟨B, j, none⟩ = some (vs.getD j nilV) ∧ SV lEnt w (vs.getD j nilV) (ess.getD j [])) (hn : n ≤ 10) (hr : ess.length = n)
    (hl : ess.flatten.length ≤ 10000) :
    Calls Tryd.prog 48 #[.slice (some ⟨B, 0, none⟩) n n] w fun ev w' => ∃ v', ev = .returned v' ∧ OwnS lEnt w.heap.size w' v' ess.flatten ∧ Below w.heap.size w w' := by
  have V := Lib.hid (show (∀ j, j < n → w.cell? ⟨B, j, none⟩ = some (vs.getD j nilV) ∧ SV lEnt w (vs.getD j nilV) (ess.getD j [])) ∧ ess.length = n ∧ ess.flatten.length ≤ 10000 from ⟨h, hr, hl⟩)
  clear h hr hl
  go_enter Tryd.func48, Tryd.ntmps48
  go_wp2
  go_loopg [3, 8] n (fun m va i wr => ∃ k : Nat, k + m = n ∧ i = .int .i64 k ∧ OwnS lEnt w.heap.size wr va (ess.take k).flatten ∧ Below w.heap.size w wr)
  case atStart => exact ⟨0, by omega, rfl, by simpa using OwnS.nil _ _ _, Below.refl _ _⟩
  case round =>
    obtain ⟨k, hk, rfl, ho, hB⟩ := hrel
    have A := Lib.hid (show OwnS lEnt w.heap.size wr _ (ess.take k).flatten ∧ Below w.heap.size w wr ∧ k + gk = n from ⟨ho, hB, hk⟩)
    clear ho hB
    by_cases hlt : k < n
    · have hR := (V.out.1 k hlt).2
      obtain ⟨a, c, hv, -, hcm⟩ := hR.lenform
      have hc0 : wr.cell? ⟨B, k, none⟩ = some (.slice a (ess.getD k []).length c) := (A.out.2.1.cell (p := ⟨B, k, none⟩) (lt_of_cell (V.out.1 k hlt).1)).trans (hv ▸ (V.out.1 k hlt).1)
      have hR1 := Lib.hid (hv ▸ hR.below A.out.2.1)
      have hsum : (ess.take (k + 1)).flatten = (ess.take k).flatten ++ ess.getD k [] := by
        rw [List.take_succ_eq_append_getElem (by rw [V.out.2.1]; exact hlt)]
        simp only [List.flatten_append, List.flatten_singleton, List.getD, List.getElem?_eq_getElem (show k < ess.length by rw [V.out.2.1]; exact hlt), Option.getD_some]
      have hle : (ess.take k).flatten.length + (ess.getD k []).length ≤ 10000 := by
        rw [← List.length_append, ← hsum]
        have h2 := V.out.2.2
        rw [← List.take_append_drop (k + 1) ess, List.flatten_append, List.length_append] at h2
        omega
      have H := Lib.hid (show _ ∧ _ from ⟨hsum, hle⟩)
      clear hR hv hsum hle
      generalize ess.getD k [] = es at *
      unfold maxLen at hcm
      go_wp2_with (at_builtin; go_must (refine wpList_appS lEnt 22 Tryd.underlying22 lEnt_known (by decide) (by decide) rfl (.tmp 12) (.tmp 13) rfl w.heap.size rfl rfl A.out.1 hR1.out (by have := H.out.2; omega) (A.out.2.1.size) ?_))
      intro v3 w3 ho hg
      have G := Lib.hid (show OwnS lEnt w.heap.size w3 v3 (ess.take (k + 1)).flatten ∧ Below w.heap.size w w3 from ⟨by rw [H.out.1]; exact ho, A.out.2.1.grown hg A.out.2.1.size (fun k hk => (World.ownsRow.lt A.out.1 k hk).1)⟩)
      clear ho hg
      go_wp2
      go_roundg (n - (k + 1))
      case measure => have := A.out.2.2; omega
      case rel => exact ⟨k + 1, by omega, by go_num, G.out⟩
    · have e : k = n := by omega
      have R0 := A.out.1
      rw [e, List.take_of_length_le (by rw [V.out.2.1]; exact Nat.le_refl _)] at R0
      have R := Lib.hid R0
      clear R0 e
      go_wp2
      go_ret
      exact ⟨_, rfl, R.out, A.out.2.1⟩
/-- lists laid side by side in a block -/
theorem lists_ofE {w : World} {n : Nat} {vs : List Value} {ess : List (List En)} {ty : TypeId} (hb : w.heap[n]? = some (.cells vs.toArray ty)) (h : ∀ j, j < vs.length → SV lEnt w (vs.getD j nilV) (ess.getD j [])) :
    ∀ j, j < vs.length → w.cell? ⟨n, j, none⟩ = some (vs.getD j nilV) ∧ SV lEnt w (vs.getD j nilV) (ess.getD j []) := fun j hj => by
  refine ⟨?_, h j hj⟩
  rw [blk_cell hb]
  simp [List.getD, hj]
theorem catE1 (w : World) (n : Nat) (v1 : Value) (e1 : List En) (hb : HB n (.cells #[v1] 22) w) (h1 : SV lEnt w v1 e1) (hl : e1.length ≤ 10000) :
    Calls Tryd.prog 48 #[.slice (some ⟨n, 0, none⟩) 1 1] w fun ev w' => ∃ v', ev = .returned v' ∧ OwnS lEnt w.heap.size w' v' e1 ∧ Below w.heap.size w w' := by
  have h := lists_ofE (vs := [v1]) (ess := [e1]) hb.b (fun j hj => by
    rcases j with _ | j
    · exact h1
    · simp at hj)
  refine (concatE_any n 1 [v1] [e1] _ h (by omega) rfl (by simpa using hl)).mono ?_
  rintro ev w' ⟨v', rfl, ho, hs⟩
  exact ⟨v', rfl, by simpa using ho, hs⟩
theorem catE2 (w : World) (n : Nat) (v1 v2 : Value) (e1 e2 : List En) (hb : HB n (.cells #[v1, v2] 22) w) (h1 : SV lEnt w v1 e1) (h2 : SV lEnt w v2 e2) (hl : e1.length + e2.length ≤ 10000) :
    Calls Tryd.prog 48 #[.slice (some ⟨n, 0, none⟩) 2 2] w fun ev w' => ∃ v', ev = .returned v' ∧ OwnS lEnt w.heap.size w' v' (e1 ++ e2) ∧ Below w.heap.size w w' := by
  have h := lists_ofE (vs := [v1, v2]) (ess := [e1, e2]) hb.b (fun j hj => by
    rcases j with _ | _ | j
    · exact h1
    · exact h2
    · simp at hj; omega)
  refine (concatE_any n 2 [v1, v2] [e1, e2] _ h (by omega) rfl (by simpa using hl)).mono ?_
  rintro ev w' ⟨v', rfl, ho, hs⟩
  exact ⟨v', rfl, by simpa using ho, hs⟩
theorem catE3 (w : World) (n : Nat) (v1 v2 v3 : Value) (e1 e2 e3 : List En) (hb : HB n (.cells #[v1, v2, v3] 22) w) (h1 : SV lEnt w v1 e1) (h2 : SV lEnt w v2 e2) (h3 : SV lEnt w v3 e3) (hl : e1.length + e2.length + e3.length ≤ 10000) :
    Calls Tryd.prog 48 #[.slice (some ⟨n, 0, none⟩) 3 3] w fun ev w' => ∃ v', ev = .returned v' ∧ OwnS lEnt w.heap.size w' v' (e1 ++ (e2 ++ e3)) ∧ Below w.heap.size w w' := by
  have h := lists_ofE (vs := [v1, v2, v3]) (ess := [e1, e2, e3]) hb.b (fun j hj => by
    rcases j with _ | _ | _ | j
    · exact h1
    · exact h2
    · exact h3
    · simp at hj; omega)
  refine (concatE_any n 3 [v1, v2, v3] [e1, e2, e3] _ h (by omega) rfl (by simp; omega)).mono ?_
  rintro ev w' ⟨v', rfl, ho, hs⟩
  exact ⟨v', rfl, by simpa using ho, hs⟩
/-! ### inside -/
theorem insideI_any (v : IvD) (en : Value) (key : ByteArray) (w : World) :
    Calls Tryd.prog 40 #[ivVal v en, .string key] w fun ev w' => ev = .returned (.bool (inI v key)) ∧ Below w.heap.size w w' := by
  have hs := alloc_below0 w (ivObj v en)
  have V := VB.new v en w
  have v_0 := V.c0
  have v_1 := V.c1
  have v_2 := V.c2
  have B := Lib.hid hs
  clear hs V
  unfold ivObj at B v_0 v_1 v_2
  unfold ivVal
  go_enter Tryd.func40, Tryd.ntmps40
  go_wp2_with fail
  refine (inside_any v.low v.high key v.unb _).mono ?_
  rintro ev w1 ⟨rfl, rfl⟩
  clear v_0 v_1 v_2
  go_wp2
  go_ret
  exact ⟨rfl, B.out⟩
/-! ### find -/
theorem findCl_any (e : En) (key : ByteArray) (w : World) :
    Calls Tryd.prog 76 #[entVal e, .string key] w fun ev w' => ev = .returned (.int .i64 (cmp e.1.data.toList key.data.toList)) ∧ Below w.heap.size w w' := by
  have hs := alloc_below0 w (entObj e)
  have X := EB.new e w
  have x_0 := X.c0
  have B := Lib.hid hs
  clear hs X
  unfold entObj at B x_0
  unfold entVal
  go_enter Tryd.func76, Tryd.ntmps76
  go_wp2_with fail
  refine (compare_any e.1 key _).mono ?_
  rintro ev w1 ⟨rfl, rfl⟩
  clear x_0
  go_wp2
  go_ret
  exact ⟨rfl, B.out⟩
theorem cmp_ltB (a b : ByteArray) : decide (cmp a.data.toList b.data.toList < 0) = bef a.data.toList b.data.toList := by
  have := cmp_neg_iff a.data.toList b.data.toList
  cases h : bef a.data.toList b.data.toList with
  | true => exact decide_eq_true (this.2 h)
  | false => exact decide_eq_false (fun hc => by rw [this.1 hc] at h; cases h)
theorem cmp_eqB (a b : ByteArray) : (cmp a.data.toList b.data.toList == 0) = eqB a b := by
  rw [Bool.eq_iff_iff, beq_iff_eq, cmp_zero, eqB_iff]
  exact ⟨data_ext, fun h => by rw [h]⟩
def cmpF : Value := .func (.func 76) #[] #[]
/-- halving: between two places -/
def midN (i j : Nat) : Nat := (i + j) / 2

open Go.RowKit

set_option maxRecDepth 100000 in
set_option maxHeartbeats 4000000 in
theorem bsearch_any (v : Value) (es : List En) (key : ByteArray) (w : World) (hv : SV lEnt w v es) (hr : risE none es = true) (hl : es.length ≤ 2000) :
    Calls Tryd.prog 75 #[v, .string key, cmpF] w fun ev w' => ev = .returned (.tuple #[.int .i64 (aheadE es key : Int), .bool (thereE es key)]) ∧ Below w.heap.size w w' := by
  obtain ⟨a, c, rfl, hlc, hcm⟩ := hv.lenform
  obtain ⟨n, hn⟩ : ∃ n, es.length = n := ⟨_, rfl⟩
  have V := Lib.hid (show SV lEnt w (.slice a n c) es ∧ risE none es = true ∧ es.length = n ∧ aheadE es key ≤ n from ⟨by rw [← hn]; exact hv, hr, hn, by rw [← hn]; exact aheadE_le _ _⟩)
  rw [hn] at hlc hl ⊢
  unfold maxLen at hcm
  clear hv hr hn
  unfold cmpF
  go_enter Tryd.func75, Tryd.ntmps75
  go_wp2
  go_loopg [9, 10] n (fun m vi vj wr => ∃ i j : Nat, j = i + m ∧ j ≤ n ∧ vi = .int .i64 i ∧ vj = .int .i64 j ∧ i ≤ aheadE es key ∧ aheadE es key ≤ j ∧ Below w.heap.size w wr)
  case atStart => exact ⟨0, n, by omega, Nat.le_refl _, rfl, rfl, Nat.zero_le _, V.out.2.2.2, Below.refl _ _⟩
  case round =>
    obtain ⟨i, j, hj, hjn, rfl, rfl, h1, h2, hB⟩ := hrel
    have A := Lib.hid (show j = i + gk ∧ j ≤ n ∧ i ≤ aheadE es key ∧ aheadE es key ≤ j ∧ Below w.heap.size w wr from ⟨hj, hjn, h1, h2, hB⟩)
    clear h1 h2 hB
    by_cases hlt : i < j
    · obtain ⟨m, hm⟩ : ∃ m : Nat, (i + j) / 2 = m := ⟨_, rfl⟩
      have hm1 : ((i : Int) + (j : Int)) / 2 = (m : Int) := by omega
      have hmn : m < n := by omega
      have M := Lib.hid (show i ≤ m ∧ m < j by omega)
      obtain ⟨b, off, ha⟩ := V.out.1.addr (by rw [V.out.2.2.1]; omega)
      subst ha
      have hx := mem_at (es := es) (i := m) (by rw [V.out.2.2.1]; exact hmn)
      have x0 := cell_step (V.out.1.cellAt (j := 0) hx rfl) A.out.2.2.2.2
      have x1 := cell_step (V.out.1.cellAt (j := 1) hx rfl) A.out.2.2.2.2
      simp only [lEnt, Nat.add_zero] at x0 x1
      have T := Lib.hid (show bef (es.getD m e0).1.data.toList key.data.toList = decide (m < aheadE es key) from ahead_lt V.out.2.1 (by rw [V.out.2.2.1]; exact hmn))
      have G := Lib.hid hlt
      clear hm hx hj hlt hjn
      generalize es.getD m e0 = e at *
      obtain ⟨k, p⟩ := e
      obtain ⟨z, hz⟩ : ∃ z, cmp k.data.toList key.data.toList = z := ⟨_, rfl⟩
      have Z := Lib.hid hz
      have hzb : decide (z < 0) = decide (m < aheadE es key) := by rw [← hz, cmp_ltB]; exact T.out
      clear hz
      by_cases hma : m < aheadE es key
      · have hz1 : z < 0 := by rw [decide_eq_true hma] at hzb; exact of_decide_eq_true hzb
        have MA := Lib.hid hma
        clear hzb hma
        go_wp2_with fail
        refine (findCl_any (k, p) key _).mono ?_
        rintro ev w2 ⟨rfl, hs⟩
        rw [Z.out]
        have B2 := Lib.hid (A.out.2.2.2.2.trans (hs.mono A.out.2.2.2.2.size))
        clear hs
        go_wp2
        go_roundg (j - (m + 1))
        case measure => have := A.out.1; have := M.out; omega
        case rel => exact ⟨m + 1, j, by have := M.out; omega, A.out.2.1, by go_num, rfl, MA.out, A.out.2.2.2.1, B2.out⟩
      · have hz1 : 0 ≤ z := by rw [decide_eq_false hma] at hzb; have := of_decide_eq_false hzb; omega
        have MA := Lib.hid hma
        clear hzb hma
        go_wp2_with fail
        refine (findCl_any (k, p) key _).mono ?_
        rintro ev w2 ⟨rfl, hs⟩
        rw [Z.out]
        have B2 := Lib.hid (A.out.2.2.2.2.trans (hs.mono A.out.2.2.2.2.size))
        clear hs
        go_wp2
        go_roundg (m - i)
        case measure => have := A.out.1; have := M.out; omega
        case rel => exact ⟨i, m, by have := M.out; omega, by omega, rfl, rfl, A.out.2.2.1, by have := MA.out; omega, B2.out⟩
    · obtain rfl : j = i := by omega
      have hi : j = aheadE es key := by have := A.out.2.2; omega
      have HI := Lib.hid hi
      clear hj hlt hi
      by_cases hjl : j < n
      · obtain ⟨b, off, ha⟩ := V.out.1.addr (by rw [V.out.2.2.1]; omega)
        subst ha
        have hx := mem_at (es := es) (i := j) (by rw [V.out.2.2.1]; exact hjl)
        have x0 := cell_step (V.out.1.cellAt (j := 0) hx rfl) A.out.2.2.2.2
        have x1 := cell_step (V.out.1.cellAt (j := 1) hx rfl) A.out.2.2.2.2
        simp only [lEnt, Nat.add_zero] at x0 x1
        have T := Lib.hid (show thereE es key = eqB (es.getD j e0).1 key by unfold thereE; rw [← HI.out, V.out.2.2.1, decide_eq_true hjl]; rfl)
        clear hx
        generalize es.getD j e0 = e at *
        obtain ⟨k, p⟩ := e
        go_wp2_with fail
        refine (findCl_any (k, p) key _).mono ?_
        rintro ev w2 ⟨rfl, hs⟩
        have B2 := Lib.hid (A.out.2.2.2.2.trans (hs.mono A.out.2.2.2.2.size))
        clear hs
        go_wp2
        go_ret2
        exact ⟨by rw [← HI.out, T.out, ← cmp_eqB]; rfl, B2.out⟩
      · have T := Lib.hid (show thereE es key = false by unfold thereE; rw [← HI.out, V.out.2.2.1, decide_eq_false hjl]; rfl)
        go_wp2
        go_ret2
        exact ⟨by rw [← HI.out, T.out]; rfl, A.out.2.2.2.2⟩
def findV (v : IvD) (k : ByteArray) : Value := .tuple #[.int .i64 (aheadE v.ents k : Int), .bool (thereE v.ents k)]
theorem findI_any (v : IvD) (en : Value) (key : ByteArray) (w : World) (hv : SV lEnt w en v.ents) (hr : risE none v.ents = true) (hl : v.ents.length ≤ 2000) :
    Calls Tryd.prog 39 #[ivVal v en, .string key] w fun ev w' => ev = .returned (findV v key) ∧ Below w.heap.size w w' := by
  obtain ⟨a, c, rfl, -, -⟩ := hv.lenform
  obtain ⟨n, hn⟩ : ∃ n, v.ents.length = n := ⟨_, rfl⟩
  rw [hn] at hv ⊢
  have hs := alloc_below0 w (ivObj v (.slice a n c))
  have V := VB.new v (.slice a n c) w
  have E := Lib.hid (hv.below hs)
  have v_4 := V.c4
  have B := Lib.hid hs
  clear hs V hv hn
  unfold ivObj at B v_4 E
  unfold ivVal
  go_enter Tryd.func39, Tryd.ntmps39
  go_wp2_with fail
  refine (bsearch_any (.slice a n c) v.ents key _ E.out hr hl).mono ?_
  rintro ev w1 ⟨rfl, hs⟩
  have B1 := Lib.hid (B.out.trans (hs.mono B.out.size))
  clear hs v_4
  go_wp2
  go_ret2
  exact ⟨rfl, B1.out⟩
end Go.Proofs.YtkkmfacngmginaaDoor
