/- Package rows' own functions (layer 3), by contracts: Right. -/
import Derived.Test.YtkbfhpgcjljbbaaRwFind
import Derived.Test.YtkbfhpgcjljbbaaRwSB
namespace Go.Proofs.Ytkbfhpgcjljbbaa
open Go.RowKit

theorem stillR {P : Program} {id : FuncId} {args : Array Value} {w : World} {E : Ending → Prop} (h : Calls P id args w fun ev w' => E ev ∧ w = w') :
    Calls P id args w fun ev w' => E ev ∧ Below w.heap.size w w' := h.mono fun _ _ ⟨h1, h2⟩ => ⟨h1, h2 ▸ Below.refl _ _⟩
set_option maxRecDepth 100000 in
set_option maxHeartbeats 4000000 in
theorem rowsRight_any (v : Value) (rs : List Rw) (w : World) (hv : RowsV w v rs) :
    Calls Try.prog 40 #[v] w fun ev w' => ev = .returned (.bool (rightB rs)) ∧ Below w.heap.size w w' := by
  have hnot : ∀ (x : Bool) (w : World), (Op.unary .not (.bool x)).run Try.prog w = .ok (.bool (!x)) w := fun _ _ => rfl
  have V : Aside (RowsV w v rs) := hv
  rcases hv.form with ⟨rfl, rfl⟩ | ⟨b, off, cap, rfl, hlc, hcm, hc⟩
  · clear hv
    go_enter Try.func40, Try.ntmps40
    go_wp2
    refine wp_loop_rounds 1 ?_
    rw [rounds_succ]
    go_wp2
    go_ret
    exact ⟨rfl, Below.refl _ _⟩
  · have C : Aside (∀ i, i < rs.length → w.cell? ⟨b, off + i * 2, none⟩ = some (.string (rs.getD i r0).1) ∧ w.cell? ⟨b, off + i * 2 + 1, none⟩ = some (.string (rs.getD i r0).2)) := hc
    unfold maxLen at hcm
    clear hv hc
    go_enter Try.func40, Try.ntmps40
    go_wp2
    go_loopg [7] rs.length (fun n i wr => ∃ k : Nat, k + n = rs.length ∧ i = .int .i64 k ∧ rightB rs = rightFrom (prevR rs k) (rs.drop k) ∧ Below w.heap.size w wr)
    case atStart => exact ⟨0, by omega, rfl, by simp [rightB, prevR], Below.refl _ _⟩
    case round =>
      obtain ⟨k, hk, rfl, hf, hB⟩ := hrel
      have A : Aside (rightB rs = rightFrom (prevR rs k) (rs.drop k) ∧ Below w.heap.size w wr ∧ k + gk = rs.length) := ⟨hf, hB, hk⟩
      clear hf hB
      by_cases hlt : k < rs.length
      · have hc0 : wr.cell? ⟨b, off + k * 2, none⟩ = some (.string (rs.getD k r0).1) := (A.out.2.1.cell (p := ⟨b, off + k * 2, none⟩) (lt_of_cell (C.out k hlt).1)).trans (C.out k hlt).1
        have hc1 : wr.cell? ⟨b, off + k * 2 + 1, none⟩ = some (.string (rs.getD k r0).2) := (A.out.2.1.cell (p := ⟨b, off + k * 2 + 1, none⟩) (lt_of_cell (C.out k hlt).2)).trans (C.out k hlt).2
        have T : Aside (rightFrom (prevR rs k) (rs.drop k) = (fitB (rs.getD k r0) && (match prevR rs k with | none => true | some q => bef q.data.toList (rs.getD k r0).1.data.toList) && rightFrom (prevR rs (k + 1)) (rs.drop (k + 1)))) := by
          show _ = _; rw [drop_at hlt]; rfl
        have hM : (rs.getD k r0).1.size ≤ maxLen ∧ (rs.getD k r0).2.size ≤ maxLen := V.out.small.at k
        obtain ⟨⟨x, y⟩, hxy⟩ : ∃ r, rs.getD k r0 = r := ⟨_, rfl⟩
        rw [hxy] at hc0 hc1 hM T
        clear hxy
        simp only at hc0 hc1 hM
        have M := Lib.hid hM
        have hy := hM.2
        unfold maxLen at hy
        clear hM
        have BA := Lib.hid (A.out.2.1.trans ((alloc_below0 wr (.cells #[.string x, .string y] 48)).mono A.out.2.1.size))
        cases hr : rgt x.size with
        | false =>
          have R := Lib.hid hr
          have G : Aside (rightB rs = false) := by show _ = _; rw [A.out.1, T.out]; unfold fitB; rw [hr]; rfl
          clear hr
          go_wp2_with fail
          refine (right_any x _ M.out.1).mono ?_
          rintro ev w2 ⟨rfl, rfl⟩
          rw [R.out]
          go_wp2
          go_ret
          exact ⟨retB G.out.symm, BA.out⟩
        | true =>
          have R := Lib.hid hr
          have D : Aside (fitB (x, y) = decide (y.size ≤ 16)) := by show _ = _; unfold fitB; rw [R.out]; rfl
          clear hr
          by_cases h16 : y.size ≤ 16
          · have H : Aside (fitB (x, y) = true) := by show _ = _; rw [D.out]; exact decide_eq_true h16
            have P0 := Lib.hid (PB.new x y wr 48)
            cases k with
            | zero =>
              simp only [Nat.zero_mul, Nat.add_zero] at hc0 hc1
              have G : Aside (rightB rs = rightFrom (prevR rs (0 + 1)) (rs.drop (0 + 1))) := by show _ = _; rw [A.out.1, T.out, H.out]; rfl
              go_wp2_with fail
              refine (stillR (right_any x _ M.out.1)).mono ?_
              rintro ev w2 ⟨rfl, hs⟩
              rw [R.out]
              have F : Aside (Below w.heap.size w w2) := BA.out.trans (hs.mono BA.out.size)
              have q0 := (P0.out.step hs).c0
              have q1 := (P0.out.step hs).c1
              clear hs hc0 hc1
              go_wp2_with fail
              go_quiet (fail)
              go_wp2
              go_roundg (rs.length - (0 + 1))
              case measure => have := A.out.2.2; omega
              case rel => exact ⟨0 + 1, by omega, by go_num, G.out, below_drewN F.out _⟩
            | succ j =>
              have hd0 : wr.cell? ⟨b, off + j * 2, none⟩ = some (.string (rs.getD j r0).1) := (A.out.2.1.cell (p := ⟨b, off + j * 2, none⟩) (lt_of_cell (C.out j (by omega)).1)).trans (C.out j (by omega)).1
              have T2 : Aside (rightB rs = (bef (rs.getD j r0).1.data.toList x.data.toList && rightFrom (prevR rs (j + 1 + 1)) (rs.drop (j + 1 + 1)))) := by
                show _ = _; rw [A.out.1, T.out, H.out]; rfl
              have i1 : (0 : Int) ≤ (j : Int) + 1 := by omega
              have i2 : (j : Int) + 1 < (rs.length : Int) := by omega
              have i3 : (0 : Int) ≤ (j : Int) := by omega
              have i4 : (j : Int) < (rs.length : Int) := by omega
              have i5 : IntKind.i64.wrap (j : Int) = (j : Int) := Go.IntWalk.i64_in _ (by omega)
              generalize (rs.getD j r0).1 = z at *
              have e1 : (((j + 1 : Nat) : Int)) = (j : Int) + 1 := rfl
              rw [e1]
              clear e1
              have hd1 := Lib.hid (hd0)
              go_wp2_with fail
              refine (stillR (right_any x _ M.out.1)).mono ?_
              rintro ev w2 ⟨rfl, hs⟩
              rw [R.out]
              have F : Aside (Below w.heap.size w w2) := BA.out.trans (hs.mono BA.out.size)
              have q0 := (P0.out.step hs).c0
              have q1 := (P0.out.step hs).c1
              have hd2 := cell_step (cell_step hd1.out (alloc_below0 wr (.cells #[.string x, .string y] 48))) hs
              clear hs hc0 hc1 hd0
              have gpos : decide ((0 : Int) < (j : Int) + 1) = true := decide_eq_true (by omega)
              obtain ⟨c, hcz⟩ : ∃ c, cmp z.data.toList x.data.toList = c := ⟨_, rfl⟩
              have Z := Lib.hid hcz
              cases hbf : bef z.data.toList x.data.toList with
              | false =>
                have hn := cmp_ge hbf
                rw [hcz] at hn
                have G : Aside (rightB rs = false) := by show _ = _; rw [T2.out, hbf]; rfl
                clear hbf hcz
                go_wp2_with fail
                go_region_held3 (fun w' => w'.cell? ⟨b, off + j * 2, none⟩ = some (.string z) ∧ w'.cell? ⟨wr.heap.size, 0, none⟩ = some (.string x))
                  (first | exact ⟨by assumption, by assumption⟩ | go_keep)
                  (first
                    | (go_at_call 56; (with_reducible refine (stillR (compare_any z x _)).mono ?_); rintro e w3 ⟨rfl, hs⟩; rw [Z.out]; have F3 : Aside (Below w.heap.size w w3) := F.out.drew.trans (hs.mono F.out.drew.size); have hc3 := cell_step (w := w2.drew) q0 hs; have hd3 := cell_step (w := w2.drew) hd2 hs; clear hs))
                go_wp2
                go_ret
                exact ⟨retB G.out.symm, F3.out⟩
              | true =>
                have hn := cmp_lt hbf
                rw [hcz] at hn
                have G : Aside (rightB rs = rightFrom (prevR rs (j + 1 + 1)) (rs.drop (j + 1 + 1))) := by show _ = _; rw [T2.out, hbf]; rfl
                clear hbf hcz
                go_wp2_with fail
                go_region_held3 (fun w' => w'.cell? ⟨b, off + j * 2, none⟩ = some (.string z) ∧ w'.cell? ⟨wr.heap.size, 0, none⟩ = some (.string x))
                  (first | exact ⟨by assumption, by assumption⟩ | go_keep)
                  (first
                    | (go_at_call 56; (with_reducible refine (stillR (compare_any z x _)).mono ?_); rintro e w3 ⟨rfl, hs⟩; rw [Z.out]; have F3 : Aside (Below w.heap.size w w3) := F.out.drew.trans (hs.mono F.out.drew.size); have hc3 := cell_step (w := w2.drew) q0 hs; have hd3 := cell_step (w := w2.drew) hd2 hs; clear hs))
                go_wp2
                go_roundg (rs.length - (j + 1 + 1))
                case measure => have := A.out.2.2; omega
                case rel => exact ⟨j + 1 + 1, by omega, by go_num, G.out, F3.out⟩
          · have G : Aside (rightB rs = false) := by show _ = _; rw [A.out.1, T.out, D.out, decide_eq_false h16]; rfl
            go_wp2_with fail
            refine (right_any x _ M.out.1).mono ?_
            rintro ev w2 ⟨rfl, rfl⟩
            rw [R.out]
            go_wp2
            go_ret
            exact ⟨retB G.out.symm, BA.out⟩
      · have e : k = rs.length := by omega
        have G : Aside (rightB rs = true) := by
          show _ = _; rw [A.out.1, e, List.drop_of_length_le (Nat.le_refl _)]; unfold rightFrom; rfl
        clear e
        go_wp2
        go_ret
        exact ⟨retB G.out.symm, A.out.2.1⟩
end Go.Proofs.Ytkbfhpgcjljbbaa
