/- Package rows' own functions (layer 3), by contracts: Find. -/
import Derived.Test.YtaaikmompiejdaaRwConcat
import Derived.Test.YtaaikmompiejdaaB2Code
namespace Go.Proofs.Ytaaikmompiejdaa
open Go.RowKit

theorem cmp_lt {a b : List UInt8} (h : bef a b = true) : cmp a b < 0 := (cmp_neg_iff a b).2 h
theorem cmp_ge {a b : List UInt8} (h : bef a b = false) : 0 ≤ cmp a b := by
  rcases Int.lt_or_le (cmp a b) 0 with h' | h'
  · rw [(cmp_neg_iff _ _).1 h'] at h; cases h
  · exact h'
theorem cmp_eqB (a b : ByteArray) : (cmp a.data.toList b.data.toList == 0) = eqB a b := by
  rw [Bool.eq_iff_iff, beq_iff_eq, cmp_zero, eqB_iff]
  constructor
  · intro h
    obtain ⟨⟨a⟩⟩ := a
    obtain ⟨⟨b⟩⟩ := b
    simp at h
    rw [h]
  · rintro rfl; rfl
set_option maxRecDepth 100000 in
set_option maxHeartbeats 4000000 in
theorem find_any (v : Value) (rs : List Rw) (key : ByteArray) (w : World) (hv : RowsV w v rs) :
    Calls Try.prog 13 #[v, .string key] w fun ev w' => ev = .returned (.tuple #[.int .i64 ((fnd rs key).1 : Int), .bool (fnd rs key).2]) ∧ Below w.heap.size w w' := by
  have V : Aside (RowsV w v rs) := hv
  rcases hv.form with ⟨rfl, rfl⟩ | ⟨b, off, cap, rfl, hlc, hcm, hc⟩
  · clear hv
    go_enter Try.func13, Try.ntmps13
    go_wp2
    refine wp_loop_rounds 1 ?_
    rw [rounds_succ]
    go_wp2
    go_ret2
    exact ⟨rfl, Below.refl _ _⟩
  · have C : Aside (∀ i, i < rs.length → w.cell? ⟨b, off + i * 2, none⟩ = some (.string (rs.getD i r0).1) ∧ w.cell? ⟨b, off + i * 2 + 1, none⟩ = some (.string (rs.getD i r0).2)) := hc
    unfold maxLen at hcm
    clear hv hc
    go_enter Try.func13, Try.ntmps13
    go_wp2
    go_loopg [11] rs.length (fun n i wr => ∃ k : Nat, k + n = rs.length ∧ i = .int .i64 k ∧ fnd rs key = (k + (fnd (rs.drop k) key).1, (fnd (rs.drop k) key).2) ∧ Below w.heap.size w wr)
    case atStart => exact ⟨0, by omega, rfl, by simp, Below.refl _ _⟩
    case round =>
      obtain ⟨k, hk, rfl, hf, hB⟩ := hrel
      have A : Aside (fnd rs key = (k + (fnd (rs.drop k) key).1, (fnd (rs.drop k) key).2) ∧ Below w.heap.size w wr ∧ k + gk = rs.length) := ⟨hf, hB, hk⟩
      clear hf hB
      by_cases hlt : k < rs.length
      · have hc0 : wr.cell? ⟨b, off + k * 2, none⟩ = some (.string (rs.getD k r0).1) := (A.out.2.1.cell (p := ⟨b, off + k * 2, none⟩) (lt_of_cell (C.out k hlt).1)).trans (C.out k hlt).1
        have hc1 : wr.cell? ⟨b, off + k * 2 + 1, none⟩ = some (.string (rs.getD k r0).2) := (A.out.2.1.cell (p := ⟨b, off + k * 2 + 1, none⟩) (lt_of_cell (C.out k hlt).2)).trans (C.out k hlt).2
        have T : Aside (fnd (rs.drop k) key = if bef (rs.getD k r0).1.data.toList key.data.toList then ((fnd (rs.drop (k + 1)) key).1 + 1, (fnd (rs.drop (k + 1)) key).2) else (0, eqB (rs.getD k r0).1 key)) := by
          show _ = _; rw [drop_at hlt]; rfl
        have B : Aside (∀ o, Below w.heap.size w (wr.alloc o)) := fun o => A.out.2.1.trans ((alloc_below0 wr o).mono A.out.2.1.size)
        generalize (rs.getD k r0).1 = x at *
        generalize (rs.getD k r0).2 = y at *
        cases hb : bef x.data.toList key.data.toList with
        | true =>
          have G : Aside (fnd rs key = (k + 1 + (fnd (rs.drop (k + 1)) key).1, (fnd (rs.drop (k + 1)) key).2)) := by
            show _ = _; rw [A.out.1, T.out, if_pos hb]; simp only [Prod.mk.injEq, and_true]; omega
          have hn := cmp_lt hb
          clear hb
          obtain ⟨z, hz⟩ : ∃ z, cmp x.data.toList key.data.toList = z := ⟨_, rfl⟩
          have Z := Lib.hid hz
          rw [hz] at hn
          clear hz
          go_wp2_with fail
          refine (compare_any x key _).mono ?_
          rintro ev w2 ⟨rfl, rfl⟩
          rw [Z.out]
          go_wp2
          go_roundg (rs.length - (k + 1))
          case measure => have := A.out.2.2; omega
          case rel => exact ⟨k + 1, by omega, by go_num, G.out, B.out _⟩
        | false =>
          have hn := cmp_ge hb
          have he := cmp_eqB x key
          obtain ⟨z, hz⟩ : ∃ z, cmp x.data.toList key.data.toList = z := ⟨_, rfl⟩
          rw [hz] at hn he
          have Z := Lib.hid hz
          have G : Aside (fnd rs key = (k, (z == 0))) := by
            show _ = _; rw [A.out.1, T.out, hb, he]; rfl
          clear hb hz he
          go_wp2_with fail
          refine (compare_any x key _).mono ?_
          rintro ev w2 ⟨rfl, rfl⟩
          rw [Z.out]
          go_wp2
          go_ret2
          exact ⟨by rw [G.out]; rfl, B.out _⟩
      · have e : k = rs.length := by omega
        have G : Aside (fnd rs key = (rs.length, false)) := by
          show _ = _; rw [A.out.1, e, List.drop_of_length_le (Nat.le_refl _)]; rfl
        clear e
        go_wp2
        go_ret2
        exact ⟨by rw [G.out]; rfl, A.out.2.1⟩
end Go.Proofs.Ytaaikmompiejdaa
