/- The document's own functions on rows (layer 3), by contracts: Right; and the laws' own Few and own. -/
import Derived.Test.YtkbfhpgcjljbbaaRwRef
import Derived.Deep.RegionHeld3
import Derived.WalkSpells
namespace Go.Proofs.Ytkbfhpgcjljbbaa
open Go.RowKit
def prevR (rs : List Rw) : Nat → Option ByteArray
  | 0 => none
  | j + 1 => some (rs.getD j r0).1
set_option maxRecDepth 100000 in
set_option maxHeartbeats 4000000 in
theorem refRowsRight_any (v : Value) (rs : List Rw) (w : World) (hv : RowsV w v rs) :
    Calls Try.prog 20 #[v] w fun ev w' => ev = .returned (.bool (rightB rs)) ∧ Below w.heap.size w w' := by
  have hnot : ∀ (x : Bool) (w : World), (Op.unary .not (.bool x)).run Try.prog w = .ok (.bool (!x)) w := fun _ _ => rfl
  have V : Aside (RowsV w v rs) := hv
  rcases hv.form with ⟨rfl, rfl⟩ | ⟨b, off, cap, rfl, hlc, hcm, hc⟩
  · clear hv
    go_enter Try.func20, Try.ntmps20
    go_wp2
    refine wp_loop_rounds 1 ?_
    rw [rounds_succ]
    go_wp2
    go_ret
    exact ⟨rfl, Below.refl _ _⟩
  · have C : Aside (∀ i, i < rs.length → w.cell? ⟨b, off + i * 2, none⟩ = some (.string (rs.getD i r0).1) ∧ w.cell? ⟨b, off + i * 2 + 1, none⟩ = some (.string (rs.getD i r0).2)) := hc
    unfold maxLen at hcm
    clear hv hc
    go_enter Try.func20, Try.ntmps20
    go_wp2
    go_loopg [3] rs.length (fun n i wr => ∃ k : Nat, k + n = rs.length ∧ i = .int .i64 k ∧ rightB rs = rightFrom (prevR rs k) (rs.drop k) ∧ Below w.heap.size w wr)
    case atStart => exact ⟨0, by omega, rfl, by simp [rightB, prevR], Below.refl _ _⟩
    case round =>
      obtain ⟨k, hk, rfl, hf, hB⟩ := hrel
      have A : Aside (rightB rs = rightFrom (prevR rs k) (rs.drop k) ∧ Below w.heap.size w wr ∧ k + gk = rs.length) := ⟨hf, hB, hk⟩
      clear hf hB
      by_cases hlt : k < rs.length
      · have hc0 : wr.cell? ⟨b, off + k * 2, none⟩ = some (.string (rs.getD k r0).1) := (A.out.2.1.cell (p := ⟨b, off + k * 2, none⟩) (lt_of_cell (C.out k hlt).1)).trans (C.out k hlt).1
        have hc1 : wr.cell? ⟨b, off + k * 2 + 1, none⟩ = some (.string (rs.getD k r0).2) := (A.out.2.1.cell (p := ⟨b, off + k * 2 + 1, none⟩) (lt_of_cell (C.out k hlt).2)).trans (C.out k hlt).2
        have T : Aside (rightFrom (prevR rs k) (rs.drop k) = (fitB (rs.getD k r0) && (match prevR rs k with | none => true | some q => bef q.data.toList (rs.getD k r0).1.data.toList) && rightFrom (prevR rs (k + 1)) (rs.drop (k + 1)))) := by
          show _ = _; rw [drop_at hlt]; rfl
        have M : Aside ((rs.getD k r0).1.size ≤ maxLen ∧ (rs.getD k r0).2.size ≤ maxLen) := V.out.small.at k
        obtain ⟨⟨x, y⟩, hxy⟩ : ∃ r, rs.getD k r0 = r := ⟨_, rfl⟩
        rw [hxy] at hc0 hc1 T M
        clear hxy
        simp only at hc0 hc1
        cases hfit : fitB (x, y) with
        | false =>
          have H := Lib.hid hfit
          clear hfit
          have G : Aside (rightB rs = false) := by show _ = _; rw [A.out.1, T.out, H.out]; rfl
          go_wp2_with fail
          refine (refFits_any (x, y) _ M.out.1 M.out.2).mono ?_
          rintro ev w2 ⟨rfl, hs⟩
          rw [H.out]
          have F : Aside (Below w.heap.size w w2) := A.out.2.1.trans (hs.mono A.out.2.1.size)
          clear hs hc0 hc1
          go_wp2
          go_ret
          exact ⟨retB G.out.symm, F.out⟩
        | true =>
          have H := Lib.hid hfit
          clear hfit
          cases k with
          | zero =>
            simp only [Nat.zero_mul, Nat.add_zero] at hc0 hc1
            have G : Aside (rightB rs = rightFrom (prevR rs (0 + 1)) (rs.drop (0 + 1))) := by show _ = _; rw [A.out.1, T.out, H.out]; rfl
            go_wp2_with fail
            refine (refFits_any (x, y) _ M.out.1 M.out.2).mono ?_
            rintro ev w2 ⟨rfl, hs⟩
            rw [H.out]
            have F : Aside (Below w.heap.size w w2) := A.out.2.1.trans (hs.mono A.out.2.1.size)
            clear hs hc0 hc1
            go_wp2_with fail
            go_quiet (fail)
            go_wp2
            go_roundg (rs.length - (0 + 1))
            case measure => have := A.out.2.2; omega
            case rel => exact ⟨0 + 1, by omega, by go_num, G.out, below_drewN F.out _⟩
          | succ j =>
            have hd0 : wr.cell? ⟨b, off + j * 2, none⟩ = some (.string (rs.getD j r0).1) := (A.out.2.1.cell (p := ⟨b, off + j * 2, none⟩) (lt_of_cell (C.out j (by omega)).1)).trans (C.out j (by omega)).1
            have M2 : Aside ((rs.getD j r0).1.size ≤ maxLen) := (V.out.small.at j).1
            have T2 : Aside (rightB rs = (bef (rs.getD j r0).1.data.toList x.data.toList && rightFrom (prevR rs (j + 1 + 1)) (rs.drop (j + 1 + 1)))) := by
              show _ = _; rw [A.out.1, T.out, H.out]; rfl
            have i1 : (0 : Int) ≤ (j : Int) + 1 := by omega
            have i2 : (j : Int) + 1 < (rs.length : Int) := by omega
            have i3 : (0 : Int) ≤ (j : Int) := by omega
            have i4 : (j : Int) < (rs.length : Int) := by omega
            have i5 : IntKind.i64.wrap (j : Int) = (j : Int) := Go.IntWalk.i64_in _ (by omega)
            generalize (rs.getD j r0).1 = z at *
            have e1 : (((j + 1 : Nat) : Int)) = (j : Int) + 1 := rfl
            rw [e1]
            clear e1
            go_wp2_with fail
            refine (refFits_any (x, y) _ M.out.1 M.out.2).mono ?_
            rintro ev w2 ⟨rfl, hs⟩
            rw [H.out]
            have F : Aside (Below w.heap.size w w2) := A.out.2.1.trans (hs.mono A.out.2.1.size)
            have hc2 := (hs.cell (p := ⟨b, off + (j + 1) * 2, none⟩) (lt_of_cell hc0)).trans hc0
            have hd2 := (hs.cell (p := ⟨b, off + j * 2, none⟩) (lt_of_cell hd0)).trans hd0
            clear hs hc0 hc1 hd0
            have gpos : decide ((0 : Int) < (j : Int) + 1) = true := decide_eq_true (by omega)
            cases hbf : bef z.data.toList x.data.toList with
            | false =>
              have Q := Lib.hid hbf
              clear hbf
              have G : Aside (rightB rs = false) := by show _ = _; rw [T2.out, Q.out]; rfl
              go_wp2_with fail
              go_region_held3 (fun w' => w'.cell? ⟨b, off + j * 2, none⟩ = some (.string z) ∧ w'.cell? ⟨b, off + (j + 1) * 2, none⟩ = some (.string x))
                (first | exact ⟨by assumption, by assumption⟩ | go_keep)
                (first
                  | (go_at_call 38; (with_reducible refine (refBefore_any z x _ M2.out M.out.1).mono ?_); rintro e w3 ⟨rfl, hs⟩; rw [Q.out]; have F3 : Aside (Below w.heap.size w w3) := F.out.drew.trans (hs.mono F.out.drew.size); have hc3 := (hs.cell (p := ⟨b, off + (j + 1) * 2, none⟩) (lt_of_cell hc2)).trans hc2; have hd3 := (hs.cell (p := ⟨b, off + j * 2, none⟩) (lt_of_cell hd2)).trans hd2; clear hs))
              go_wp2
              go_ret
              exact ⟨retB G.out.symm, F3.out⟩
            | true =>
              have Q := Lib.hid hbf
              clear hbf
              have G : Aside (rightB rs = rightFrom (prevR rs (j + 1 + 1)) (rs.drop (j + 1 + 1))) := by show _ = _; rw [T2.out, Q.out]; rfl
              go_wp2_with fail
              go_region_held3 (fun w' => w'.cell? ⟨b, off + j * 2, none⟩ = some (.string z) ∧ w'.cell? ⟨b, off + (j + 1) * 2, none⟩ = some (.string x))
                (first | exact ⟨by assumption, by assumption⟩ | go_keep)
                (first
                  | (go_at_call 38; (with_reducible refine (refBefore_any z x _ M2.out M.out.1).mono ?_); rintro e w3 ⟨rfl, hs⟩; rw [Q.out]; have F3 : Aside (Below w.heap.size w w3) := F.out.drew.trans (hs.mono F.out.drew.size); have hc3 := (hs.cell (p := ⟨b, off + (j + 1) * 2, none⟩) (lt_of_cell hc2)).trans hc2; have hd3 := (hs.cell (p := ⟨b, off + j * 2, none⟩) (lt_of_cell hd2)).trans hd2; clear hs))
              go_wp2
              go_roundg (rs.length - (j + 1 + 1))
              case measure => have := A.out.2.2; omega
              case rel => exact ⟨j + 1 + 1, by omega, by go_num, G.out, F3.out⟩
      · have e : k = rs.length := by omega
        have G : Aside (rightB rs = true) := by
          show _ = _; rw [A.out.1, e, List.drop_of_length_le (Nat.le_refl _)]; unfold rightFrom; rfl
        clear e
        go_wp2
        go_ret
        exact ⟨retB G.out.symm, A.out.2.1⟩
end Go.Proofs.Ytkbfhpgcjljbbaa
