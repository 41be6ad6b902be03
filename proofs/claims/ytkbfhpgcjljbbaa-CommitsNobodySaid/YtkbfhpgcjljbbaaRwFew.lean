/- The laws' own Few over rows (layer 3): at most 100 rows, of 2000 bytes in all. -/
import Derived.Test.YtkbfhpgcjljbbaaRwRef2
namespace Go.Proofs.Ytkbfhpgcjljbbaa
open Go.RowKit

theorem sumR_le : ∀ rs : List Rw, sumR rs ≤ 4002 * rs.length
  | [] => by simp [sumR]
  | r :: rs => by have := sumR_le rs; simp [sumR]; omega
theorem min_run (x : Nat) (w : World) (ts : Array TypeId) (t : TypeId) : (Builtin.min_ ts t #[.int .i64 (x : Int), .int .i64 2001]).run Try.prog w = .ok (.int .i64 ((min x 2001 : Nat) : Int)) w := by
  rw [run_min_int2]
  congr 2
  by_cases h : (2001 : Int) < (x : Int)
  · rw [if_pos h]; omega
  · rw [if_neg h]; omega
set_option maxRecDepth 100000 in
set_option maxHeartbeats 4000000 in
theorem rfew_any (v : Value) (rs : List Rw) (w : World) (hv : RowsV w v rs) :
    Calls Try.prog 19 #[v] w fun ev w' => ev = .returned (.bool (fewR rs)) ∧ Below w.heap.size w w' := by
  rcases hv.form with ⟨rfl, rfl⟩ | ⟨b, off, cap, rfl, hlc, hcm, hc⟩
  · clear hv
    go_enter Try.func19, Try.ntmps19
    go_wp2
    refine wp_loop_rounds 1 ?_
    rw [rounds_succ]
    go_wp2
    go_ret
    exact ⟨rfl, Below.refl _ _⟩
  · have C : Aside (∀ i, i < rs.length → w.cell? ⟨b, off + i * 2, none⟩ = some (.string (rs.getD i r0).1) ∧ w.cell? ⟨b, off + i * 2 + 1, none⟩ = some (.string (rs.getD i r0).2)) := hc
    obtain ⟨m, hm, hm1, hm2⟩ : ∃ m, m = min rs.length 101 ∧ m ≤ rs.length ∧ m ≤ 101 := ⟨_, rfl, by omega, by omega⟩
    unfold maxLen at hcm
    clear hv hc
    go_enter Try.func19, Try.ntmps19
    go_wp2
    go_loopg [3, 4] m (fun c n i wr => ∃ k : Nat, k + c = m ∧ i = .int .i64 k ∧ n = .int .i64 (sumR (rs.take k)) ∧ Below w.heap.size w wr)
    case atStart => exact ⟨0, by omega, rfl, rfl, Below.refl _ _⟩
    case round =>
      obtain ⟨k, hk, rfl, rfl, hB⟩ := hrel
      have A : Aside (Below w.heap.size w wr ∧ k + gk = m) := ⟨hB, hk⟩
      clear hB
      by_cases hlt : k < m
      · have hkl : k < rs.length := by omega
        have hk1 : k ≤ 100 := by omega
        have g1 : decide (k < rs.length) = true := decide_eq_true hkl
        have g2 : decide ((k : Int) ≤ 100) = true := decide_eq_true (by omega)
        have g3 : decide (k ≤ 100) = true := decide_eq_true (by omega)
        have hc0 : wr.cell? ⟨b, off + k * 2, none⟩ = some (.string (rs.getD k r0).1) := (A.out.1.cell (p := ⟨b, off + k * 2, none⟩) (lt_of_cell (C.out k hkl).1)).trans (C.out k hkl).1
        have hc1 : wr.cell? ⟨b, off + k * 2 + 1, none⟩ = some (.string (rs.getD k r0).2) := (A.out.1.cell (p := ⟨b, off + k * 2 + 1, none⟩) (lt_of_cell (C.out k hkl).2)).trans (C.out k hkl).2
        have T : Aside (sumR (rs.take (k + 1)) = sumR (rs.take k) + (min (rs.getD k r0).1.size 2001 + min (rs.getD k r0).2.size 2001)) := by
          show _ = _; rw [take_at hkl, sumR_append]; simp [sumR]
        have hsb : sumR (rs.take k) ≤ 4002 * 101 := by have := sumR_le (rs.take k); rw [List.length_take] at this; omega
        have m1 := min_run (rs.getD k r0).1.size
        have m2 := min_run (rs.getD k r0).2.size
        have p1 : min (rs.getD k r0).1.size 2001 ≤ 2001 := by omega
        have p2 : min (rs.getD k r0).2.size 2001 ≤ 2001 := by omega
        generalize (rs.getD k r0).1 = x at *
        generalize (rs.getD k r0).2 = y at *
        generalize min x.size 2001 = p at *
        generalize min y.size 2001 = q at *
        generalize sumR (rs.take k) = s at *
        have s1 : IntKind.i64.wrap ((p : Int) + (q : Int)) = (p : Int) + (q : Int) := Go.IntWalk.i64_in _ (by omega)
        have s2 : IntKind.i64.wrap ((s : Int) + ((p : Int) + (q : Int))) = (s : Int) + ((p : Int) + (q : Int)) := Go.IntWalk.i64_in _ (by omega)
        go_wp2
        go_quiet (fail)
        go_wp2
        go_roundg (m - (k + 1))
        case measure => have := A.out.2; omega
        case rel => exact ⟨k + 1, by omega, by go_num, by rw [T.out]; go_num, below_drewN A.out.1 _⟩
      · have hkm : k = m := by omega
        by_cases h100 : rs.length ≤ 100
        · have e : k = rs.length := by omega
          subst e
          rw [List.take_of_length_le (Nat.le_refl _)]
          clear hm hm1 hm2 hkm hk
          have hsb : sumR rs ≤ 4002 * 101 := by have := sumR_le rs; omega
          by_cases h2 : sumR rs ≤ 2000
          · have G : Aside (fewR rs = true) := by show _ = _; unfold fewR; simp [h100, h2]
            generalize sumR rs = s at *
            go_wp2
            go_ret
            first | exact ⟨retB G.out.symm, A.out.1⟩ | exact ⟨retB (by rw [G.out]; simp; omega), A.out.1⟩
          · have G : Aside (fewR rs = false) := by show _ = _; unfold fewR; simp [h2]
            generalize sumR rs = s at *
            go_wp2
            go_ret
            first | exact ⟨retB G.out.symm, A.out.1⟩ | exact ⟨retB (by rw [G.out]; simp; omega), A.out.1⟩
        · have G : Aside (fewR rs = false) := by show _ = _; unfold fewR; simp [h100]
          have e : k = 101 := by omega
          clear hm hm1 hm2 hkm hk hlt
          subst e
          generalize sumR (rs.take 101) = s at *
          by_cases h101 : 101 < rs.length
          · go_wp2
            go_ret
            first | exact ⟨retB G.out.symm, A.out.1⟩ | exact ⟨retB (by rw [G.out]; simp; omega), A.out.1⟩
          · go_wp2
            go_ret
            first | exact ⟨retB G.out.symm, A.out.1⟩ | exact ⟨retB (by rw [G.out]; simp; omega), A.out.1⟩
end Go.Proofs.Ytkbfhpgcjljbbaa
