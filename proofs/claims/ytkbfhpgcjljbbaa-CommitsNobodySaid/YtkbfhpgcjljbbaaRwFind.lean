/- Package rows' own functions (layer 3), by contracts: Find. -/
import Derived.Test.YtkbfhpgcjljbbaaRwC
import Derived.Test.YtkbfhpgcjljbbaaB2Code
namespace Go.Proofs.Ytkbfhpgcjljbbaa
open Go.RowKit

def nilS : Value := .slice none 0 0
set_option maxRecDepth 100000 in
set_option maxHeartbeats 4000000 in
theorem concat_any (B n : Nat) (vs : List Value) (rss : List (List Rw)) (w : World) (h : ∀ j, j < n → w.cell? ⟨B, j, none⟩ = some (vs.getD j nilS) ∧ RowsV w (vs.getD j nilS) (rss.getD j [])) (hn : n ≤ 10) (hr : rss.length = n)
    (hl : rss.flatten.length ≤ 10000) :
    Calls Try.prog 63 #[.slice (some ⟨B, 0, none⟩) n n] w fun ev w' => ∃ v', ev = .returned v' ∧ OwnR w.heap.size w' v' rss.flatten ∧ Below w.heap.size w w' := by
  have V : Aside ((∀ j, j < n → w.cell? ⟨B, j, none⟩ = some (vs.getD j nilS) ∧ RowsV w (vs.getD j nilS) (rss.getD j [])) ∧ rss.length = n ∧ rss.flatten.length ≤ 10000) := ⟨h, hr, hl⟩
  clear h hr hl
  go_enter Try.func63, Try.ntmps63
  go_wp2
  go_loopg [3, 8] n (fun m va i wr => ∃ k : Nat, k + m = n ∧ i = .int .i64 k ∧ OwnR w.heap.size wr va (rss.take k).flatten ∧ Below w.heap.size w wr)
  case atStart => exact ⟨0, by omega, rfl, by simpa using OwnR.nil _ _, Below.refl _ _⟩
  case round =>
    obtain ⟨k, hk, rfl, ho, hB⟩ := hrel
    have A : Aside (OwnR w.heap.size wr _ (rss.take k).flatten ∧ Below w.heap.size w wr ∧ k + gk = n) := ⟨ho, hB, hk⟩
    clear ho hB
    by_cases hlt : k < n
    · have hR := (V.out.1 k hlt).2
      obtain ⟨a, c, hv, -, hcm⟩ := hR.lenform
      have hc0 : wr.cell? ⟨B, k, none⟩ = some (.slice a (rss.getD k []).length c) := (A.out.2.1.cell (p := ⟨B, k, none⟩) (lt_of_cell (V.out.1 k hlt).1)).trans (hv ▸ (V.out.1 k hlt).1)
      have hR1 := Lib.hid (hv ▸ hR.below A.out.2.1)
      have hsum : (rss.take (k + 1)).flatten = (rss.take k).flatten ++ rss.getD k [] := by
        rw [List.take_succ_eq_append_getElem (by rw [V.out.2.1]; exact hlt)]
        simp only [List.flatten_append, List.flatten_singleton, List.getD, List.getElem?_eq_getElem (show k < rss.length by rw [V.out.2.1]; exact hlt), Option.getD_some]
      have hle : (rss.take k).flatten.length + (rss.getD k []).length ≤ 10000 := by
        rw [← List.length_append, ← hsum]
        have h2 := V.out.2.2
        rw [← List.take_append_drop (k + 1) rss, List.flatten_append, List.length_append] at h2
        omega
      have H := Lib.hid (show _ ∧ _ from ⟨hsum, hle⟩)
      clear hR hv hsum hle
      generalize rss.getD k [] = rs at *
      unfold maxLen at hcm
      go_wp2_with (at_builtin; go_must (refine wpList_app rfl (.tmp 12) (.tmp 13) rfl w.heap.size rfl rfl A.out.1 hR1.out (by have := H.out.2; omega) (A.out.2.1.size) ?_))
      intro v3 w3 ho hg
      have G : Aside (OwnR w.heap.size w3 v3 (rss.take (k + 1)).flatten ∧ Below w.heap.size w w3) := ⟨by rw [H.out.1]; exact ho, app_below A.out.2.1 A.out.1 (Nat.le_refl _) A.out.2.1.size hg⟩
      clear ho hg
      go_wp2
      go_roundg (n - (k + 1))
      case measure => have := A.out.2.2; omega
      case rel => exact ⟨k + 1, by omega, by go_num, G.out⟩
    · have e : k = n := by omega
      have R0 := A.out.1
      rw [e, List.take_of_length_le (by rw [V.out.2.1]; exact Nat.le_refl _)] at R0
      have R := Lib.hid R0
      clear R0 e
      go_wp2
      go_ret
      exact ⟨_, rfl, R.out, A.out.2.1⟩

theorem behind_any (i : Nat) (t : Bool) (w : World) (hi : i ≤ 10000) :
    Calls Try.prog 68 #[.int .i64 (i : Int), .bool t] w fun ev w' => ev = .returned (.int .i64 ((i + (if t then 1 else 0) : Nat) : Int)) ∧ w = w' := by
  cases t with
  | false =>
    go_enter Try.func68, Try.ntmps68
    go_wp2
    go_ret
    exact ⟨rfl, rfl⟩
  | true =>
    go_enter Try.func68, Try.ntmps68
    go_wp2
    go_ret
    exact ⟨rfl, rfl⟩

/-- of rows of a call's own: what RwC asks of a copy -/
theorem OwnR.fresh {base : Nat} {w : World} {v : Value} {rs : List Rw} (h : OwnR base w v rs) (hs : Small rs) : FreshV base w v rs := by
  refine ⟨h.rows hs, fun hne => ?_⟩
  have h0 := h
  obtain ⟨_, h⟩ := h
  rcases h with ⟨rfl, hz⟩ | ⟨g, cap, cur, rfl, hb, hg, hn, hm, hz, ht⟩
  · exact absurd (List.eq_nil_of_length_eq_zero hz) hne
  · exact ⟨g, 0, cap, rfl, hb, fun j _ => World.ownsRow.frozenAt h0 _⟩

/-- one list, laid in a block of its own -/
theorem cell_new (w : World) (cs : Array Value) (ty : TypeId) (j : Nat) : (w.alloc (.cells cs ty)).cell? ⟨w.heap.size, j, none⟩ = cs[j]? := World.cell?_alloc_at _ _ _ _ rfl
set_option maxRecDepth 100000 in
set_option maxHeartbeats 4000000 in
theorem copy_own (v : Value) (rs : List Rw) (w : World) (hv : RowsV w v rs) (hl : rs.length ≤ 1000) :
    Calls Try.prog 52 #[v] w fun ev w' => ∃ v', ev = .returned v' ∧ OwnR w.heap.size w' v' rs ∧ Below w.heap.size w w' := by
  obtain ⟨a, c, hv0, -, hcm⟩ := hv.lenform
  subst hv0
  unfold maxLen at hcm
  obtain ⟨W, hW⟩ : ∃ W, W = w.alloc (.cells #[.slice a rs.length c] 38) := ⟨_, rfl⟩
  have K := Lib.hid (show (∀ j, j < 1 → W.cell? ⟨w.heap.size, j, none⟩ = some ([.slice a rs.length c].getD j nilS) ∧ RowsV W ([.slice a rs.length c].getD j nilS) ([rs].getD j [])) ∧ [rs].flatten = rs ∧ Below w.heap.size w W by
    subst hW
    refine ⟨fun j hj => ?_, by simp, alloc_below0 _ _⟩
    obtain rfl : j = 0 := by omega
    exact ⟨by rw [cell_new]; rfl, hv.alloc _⟩)
  have hW' := Lib.hid hW
  clear hv hW
  go_enter Try.func52, Try.ntmps52
  go_wp2_with fail
  rw [← hW'.out]
  refine (concat_any w.heap.size 1 _ [rs] W K.out.1 (by omega) rfl (by rw [K.out.2.1]; omega)).mono ?_
  rintro ev w1 ⟨v1, rfl, ho, hs⟩
  rw [K.out.2.1] at ho
  have F := Lib.hid (show OwnR w.heap.size w1 v1 rs ∧ Below w.heap.size w w1 from ⟨ho.mono K.out.2.2.size, K.out.2.2.trans (hs.mono K.out.2.2.size)⟩)
  clear ho hs
  go_wp2
  go_ret
  exact ⟨_, rfl, F.out⟩

open Go.RowKit

theorem cmp_lt {a b : List UInt8} (h : bef a b = true) : cmp a b < 0 := (cmp_neg_iff a b).2 h
theorem cmp_ge {a b : List UInt8} (h : bef a b = false) : 0 ≤ cmp a b := by
  rcases Int.lt_or_le (cmp a b) 0 with h' | h'
  · rw [(cmp_neg_iff _ _).1 h'] at h; cases h
  · exact h'
theorem cmp_eqB (a b : ByteArray) : (cmp a.data.toList b.data.toList == 0) = eqB a b := by
  rw [Bool.eq_iff_iff, beq_iff_eq, cmp_zero, eqB_iff]
  constructor
  · intro h
    obtain ⟨⟨a⟩⟩ := a
    obtain ⟨⟨b⟩⟩ := b
    simp at h
    rw [h]
  · rintro rfl; rfl
set_option maxRecDepth 100000 in
set_option maxHeartbeats 4000000 in
theorem find_any (v : Value) (rs : List Rw) (key : ByteArray) (w : World) (hv : RowsV w v rs) :
    Calls Try.prog 67 #[v, .string key] w fun ev w' => ev = .returned (.tuple #[.int .i64 ((fnd rs key).1 : Int), .bool (fnd rs key).2]) ∧ Below w.heap.size w w' := by
  have V : Aside (RowsV w v rs) := hv
  rcases hv.form with ⟨rfl, rfl⟩ | ⟨b, off, cap, rfl, hlc, hcm, hc⟩
  · clear hv
    go_enter Try.func67, Try.ntmps67
    go_wp2
    refine wp_loop_rounds 1 ?_
    rw [rounds_succ]
    go_wp2
    go_ret2
    exact ⟨rfl, Below.refl _ _⟩
  · have C : Aside (∀ i, i < rs.length → w.cell? ⟨b, off + i * 2, none⟩ = some (.string (rs.getD i r0).1) ∧ w.cell? ⟨b, off + i * 2 + 1, none⟩ = some (.string (rs.getD i r0).2)) := hc
    unfold maxLen at hcm
    clear hv hc
    go_enter Try.func67, Try.ntmps67
    go_wp2
    go_loopg [11] rs.length (fun n i wr => ∃ k : Nat, k + n = rs.length ∧ i = .int .i64 k ∧ fnd rs key = (k + (fnd (rs.drop k) key).1, (fnd (rs.drop k) key).2) ∧ Below w.heap.size w wr)
    case atStart => exact ⟨0, by omega, rfl, by simp, Below.refl _ _⟩
    case round =>
      obtain ⟨k, hk, rfl, hf, hB⟩ := hrel
      have A : Aside (fnd rs key = (k + (fnd (rs.drop k) key).1, (fnd (rs.drop k) key).2) ∧ Below w.heap.size w wr ∧ k + gk = rs.length) := ⟨hf, hB, hk⟩
      clear hf hB
      by_cases hlt : k < rs.length
      · have hc0 : wr.cell? ⟨b, off + k * 2, none⟩ = some (.string (rs.getD k r0).1) := (A.out.2.1.cell (p := ⟨b, off + k * 2, none⟩) (lt_of_cell (C.out k hlt).1)).trans (C.out k hlt).1
        have hc1 : wr.cell? ⟨b, off + k * 2 + 1, none⟩ = some (.string (rs.getD k r0).2) := (A.out.2.1.cell (p := ⟨b, off + k * 2 + 1, none⟩) (lt_of_cell (C.out k hlt).2)).trans (C.out k hlt).2
        have T : Aside (fnd (rs.drop k) key = if bef (rs.getD k r0).1.data.toList key.data.toList then ((fnd (rs.drop (k + 1)) key).1 + 1, (fnd (rs.drop (k + 1)) key).2) else (0, eqB (rs.getD k r0).1 key)) := by
          show _ = _; rw [drop_at hlt]; rfl
        have B : Aside (∀ o, Below w.heap.size w (wr.alloc o)) := fun o => A.out.2.1.trans ((alloc_below0 wr o).mono A.out.2.1.size)
        generalize (rs.getD k r0).1 = x at *
        generalize (rs.getD k r0).2 = y at *
        cases hb : bef x.data.toList key.data.toList with
        | true =>
          have G : Aside (fnd rs key = (k + 1 + (fnd (rs.drop (k + 1)) key).1, (fnd (rs.drop (k + 1)) key).2)) := by
            show _ = _; rw [A.out.1, T.out, if_pos hb]; simp only [Prod.mk.injEq, and_true]; omega
          have hn := cmp_lt hb
          clear hb
          obtain ⟨z, hz⟩ : ∃ z, cmp x.data.toList key.data.toList = z := ⟨_, rfl⟩
          have Z := Lib.hid hz
          rw [hz] at hn
          clear hz
          go_wp2_with fail
          refine (compare_any x key _).mono ?_
          rintro ev w2 ⟨rfl, rfl⟩
          rw [Z.out]
          go_wp2
          go_roundg (rs.length - (k + 1))
          case measure => have := A.out.2.2; omega
          case rel => exact ⟨k + 1, by omega, by go_num, G.out, B.out _⟩
        | false =>
          have hn := cmp_ge hb
          have he := cmp_eqB x key
          obtain ⟨z, hz⟩ : ∃ z, cmp x.data.toList key.data.toList = z := ⟨_, rfl⟩
          rw [hz] at hn he
          have Z := Lib.hid hz
          have G : Aside (fnd rs key = (k, (z == 0))) := by
            show _ = _; rw [A.out.1, T.out, hb, he]; rfl
          clear hb hz he
          go_wp2_with fail
          refine (compare_any x key _).mono ?_
          rintro ev w2 ⟨rfl, rfl⟩
          rw [Z.out]
          go_wp2
          go_ret2
          exact ⟨by rw [G.out]; rfl, B.out _⟩
      · have e : k = rs.length := by omega
        have G : Aside (fnd rs key = (rs.length, false)) := by
          show _ = _; rw [A.out.1, e, List.drop_of_length_le (Nat.le_refl _)]; rfl
        clear e
        go_wp2
        go_ret2
        exact ⟨by rw [G.out]; rfl, A.out.2.1⟩
end Go.Proofs.Ytkbfhpgcjljbbaa
