/- Package rows' own functions (layer 3), by contracts: Same, over slices.Equal. -/
import Derived.Test.YtaaikmompiejdaaRwConcat
namespace Go.Proofs.Ytaaikmompiejdaa
open Go.RowKit

set_option maxRecDepth 100000 in
set_option maxHeartbeats 4000000 in
theorem equal_any (v u : Value) (rs ss : List Rw) (w : World) (hv : RowsV w v rs) (hu : RowsV w u ss) :
    Calls Try.prog 37 #[v, u] w fun ev w' => ev = .returned (.bool (sameR rs ss)) ∧ Below w.heap.size w w' := by
  by_cases hl : rs.length = ss.length
  · by_cases h0 : rs.length = 0
    · have e1 : rs = [] := List.eq_nil_of_length_eq_zero h0
      have e2 : ss = [] := List.eq_nil_of_length_eq_zero (by omega)
      subst e1 e2
      obtain ⟨a, cap, rfl, -, hm⟩ := hv.lenform
      obtain ⟨b, dap, rfl, -, hn⟩ := hu.lenform
      clear hv hu
      simp only [List.length_nil]
      go_enter Try.func37, Try.ntmps37
      go_wp2
      refine wp_loop_rounds 1 ?_
      rw [rounds_succ]
      go_wp2
      go_ret
      exact ⟨rfl, Below.refl _ _⟩
    · rcases hv.form with ⟨-, rfl⟩ | ⟨b, off, cap, rfl, -, hcm, hc⟩
      · exact absurd rfl h0
      · rcases hu.form with ⟨-, rfl⟩ | ⟨d, dff, dap, rfl, -, hdm, hd⟩
        · exact absurd hl h0
        · have C : Aside (∀ i, i < rs.length → w.cell? ⟨b, off + i * 2, none⟩ = some (.string (rs.getD i r0).1) ∧ w.cell? ⟨b, off + i * 2 + 1, none⟩ = some (.string (rs.getD i r0).2)) := hc
          have D : Aside (∀ i, i < ss.length → w.cell? ⟨d, dff + i * 2, none⟩ = some (.string (ss.getD i r0).1) ∧ w.cell? ⟨d, dff + i * 2 + 1, none⟩ = some (.string (ss.getD i r0).2)) := hd
          obtain ⟨n, hn⟩ : ∃ n, rs.length = n := ⟨_, rfl⟩
          have hn2 : ss.length = n := by omega
          have hnm : n ≤ maxLen := by rw [← hn]; obtain ⟨_, _, _, h2, h3⟩ := hv.lenform; omega
          have N : Aside (rs.length = n ∧ ss.length = n) := ⟨hn, hn2⟩
          unfold maxLen at hcm hdm hnm
          rw [hn, hn2]
          clear hv hu hc hd hl h0 hn hn2
          go_enter Try.func37, Try.ntmps37
          go_wp2
          go_loopg [13] n (fun m i wr => ∃ k : Nat, k + m = n ∧ i = .int .i64 k ∧ sameR rs ss = sameR (rs.drop k) (ss.drop k) ∧ Below w.heap.size w wr)
          case atStart => exact ⟨0, by omega, rfl, by simp, Below.refl _ _⟩
          case round =>
            obtain ⟨k, hk, rfl, hf, hB⟩ := hrel
            have A : Aside (sameR rs ss = sameR (rs.drop k) (ss.drop k) ∧ Below w.heap.size w wr ∧ k + gk = n) := ⟨hf, hB, hk⟩
            clear hf hB
            by_cases hlt : k < n
            · have hr : k < rs.length := by rw [N.out.1]; exact hlt
              have hs : k < ss.length := by rw [N.out.2]; exact hlt
              have x1 : wr.cell? ⟨b, off + k * 2, none⟩ = some (.string (rs.getD k r0).1) := (A.out.2.1.cell (p := ⟨b, off + k * 2, none⟩) (lt_of_cell (C.out k hr).1)).trans (C.out k hr).1
              have x2 : wr.cell? ⟨b, off + k * 2 + 1, none⟩ = some (.string (rs.getD k r0).2) := (A.out.2.1.cell (p := ⟨b, off + k * 2 + 1, none⟩) (lt_of_cell (C.out k hr).2)).trans (C.out k hr).2
              have y1 : wr.cell? ⟨d, dff + k * 2, none⟩ = some (.string (ss.getD k r0).1) := (A.out.2.1.cell (p := ⟨d, dff + k * 2, none⟩) (lt_of_cell (D.out k hs).1)).trans (D.out k hs).1
              have y2 : wr.cell? ⟨d, dff + k * 2 + 1, none⟩ = some (.string (ss.getD k r0).2) := (A.out.2.1.cell (p := ⟨d, dff + k * 2 + 1, none⟩) (lt_of_cell (D.out k hs).2)).trans (D.out k hs).2
              have T : Aside (sameR (rs.drop k) (ss.drop k) = (((rs.getD k r0).1.toList == (ss.getD k r0).1.toList) && ((rs.getD k r0).2.toList == (ss.getD k r0).2.toList) && sameR (rs.drop (k + 1)) (ss.drop (k + 1)))) := by
                show _ = _; rw [drop_at hr, drop_at hs]; rfl
              clear hr hs
              generalize (rs.getD k r0).1 = p at *
              generalize (rs.getD k r0).2 = q at *
              generalize (ss.getD k r0).1 = p' at *
              generalize (ss.getD k r0).2 = q' at *
              cases g1 : (p.toList == p'.toList) with
              | false =>
                have G : Aside (sameR rs ss = false) := by show _ = _; rw [A.out.1, T.out, g1]; rfl
                go_wp2
                go_quiet (fail)
                go_wp2
                go_ret
                exact ⟨retB G.out.symm, below_drewN A.out.2.1 _⟩
              | true =>
                cases g2 : (q.toList == q'.toList) with
                | false =>
                  have G : Aside (sameR rs ss = false) := by show _ = _; rw [A.out.1, T.out, g1, g2]; rfl
                  go_wp2
                  go_quiet (fail)
                  go_wp2
                  go_ret
                  exact ⟨retB G.out.symm, below_drewN A.out.2.1 _⟩
                | true =>
                  have G : Aside (sameR rs ss = sameR (rs.drop (k + 1)) (ss.drop (k + 1))) := by show _ = _; rw [A.out.1, T.out, g1, g2]; rfl
                  go_wp2
                  go_quiet (fail)
                  go_wp2
                  go_roundg (n - (k + 1))
                  case measure => have := A.out.2.2; omega
                  case rel => exact ⟨k + 1, by omega, by go_num, G.out, below_drewN A.out.2.1 _⟩
            · have G : Aside (sameR rs ss = true) := by
                show _ = _
                rw [A.out.1, List.drop_of_length_le (by rw [N.out.1]; omega), List.drop_of_length_le (by rw [N.out.2]; omega)]; rfl
              go_wp2
              go_ret
              exact ⟨retB G.out.symm, A.out.2.1⟩
  · have G : Aside (sameR rs ss = false) := sameR_len hl
    obtain ⟨a, cap, rfl, -, hm⟩ := hv.lenform
    obtain ⟨b, dap, rfl, -, hn⟩ := hu.lenform
    clear hv hu
    have hl1 : ((rs.length : Int) != (ss.length : Int)) = true := by rw [bne_iff_ne]; omega
    have hl2 : ((rs.length : Int) == (ss.length : Int)) = false := by rw [beq_eq_false_iff_ne]; omega
    have hl3 : (rs.length == ss.length) = false := by simpa using hl
    go_enter Try.func37, Try.ntmps37
    go_wp2
    go_ret
    exact ⟨retB G.out.symm, Below.refl _ _⟩
theorem same_any (v u : Value) (rs ss : List Rw) (w : World) (hv : RowsV w v rs) (hu : RowsV w u ss) :
    Calls Try.prog 19 #[v, u] w fun ev w' => ev = .returned (.bool (sameR rs ss)) ∧ Below w.heap.size w w' := by
  have V : Aside (RowsV w v rs ∧ RowsV w u ss) := ⟨hv, hu⟩
  clear hv hu
  go_enter Try.func19, Try.ntmps19
  go_wp2_with fail
  refine (equal_any v u rs ss _ V.out.1 V.out.2).mono ?_
  rintro ev w1 ⟨rfl, hs⟩
  have B : Aside (Below w.heap.size w w1) := hs
  clear hs
  go_wp2
  go_ret
  exact ⟨rfl, B.out⟩
end Go.Proofs.Ytaaikmompiejdaa
