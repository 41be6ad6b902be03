/- The document's own functions on rows (layer 3), by contracts: Fits, Find, Same, Right; and the laws' own Few and own. -/
import Derived.Test.YtkbfhpgcjljbbaaRwV
import Derived.Test.YtkbfhpgcjljbbaaB2Ref
namespace Go.Proofs.Ytkbfhpgcjljbbaa
open Go.RowKit

/-- two texts are the same, as a walk tells it -/
def eqB (a b : ByteArray) : Bool := a.toList == b.toList
theorem eqB_iff (a b : ByteArray) : eqB a b = true ↔ a = b := by
  unfold eqB
  rw [beq_iff_eq, ByteArray.toList_eq, ByteArray.toList_eq]
  constructor
  · intro h
    obtain ⟨⟨a⟩⟩ := a
    obtain ⟨⟨b⟩⟩ := b
    simp at h
    rw [h]
  · rintro rfl; rfl
theorem eqB_self (a : ByteArray) : eqB a a = true := (eqB_iff a a).2 rfl
/-- may a row be? -/
def fitB (r : Rw) : Bool := rgt r.1.size && decide (r.2.size ≤ 16)
/-- may these rows be, behind a key (or behind none)? -/
def rightFrom : Option ByteArray → List Rw → Bool
  | _, [] => true
  | p, r :: rs => fitB r && (match p with | none => true | some q => bef q.data.toList r.1.data.toList) && rightFrom (some r.1) rs
def rightB (rs : List Rw) : Bool := rightFrom none rs
/-- a key's place, and whether it is there -/
def fnd : List Rw → ByteArray → Nat × Bool
  | [], _ => (0, false)
  | r :: rs, key => if bef r.1.data.toList key.data.toList then ((fnd rs key).1 + 1, (fnd rs key).2) else (0, eqB r.1 key)
theorem fnd_le : ∀ (rs : List Rw) (key : ByteArray), (fnd rs key).1 ≤ rs.length
  | [], _ => by simp [fnd]
  | r :: rs, key => by
    unfold fnd
    have := fnd_le rs key
    split <;> simp <;> omega
theorem fnd_there : ∀ (rs : List Rw) (key : ByteArray), (fnd rs key).2 = true → (fnd rs key).1 < rs.length ∧ (rs.getD (fnd rs key).1 r0).1 = key
  | [], _, h => by simp [fnd] at h
  | r :: rs, key, h => by
    have ih := fnd_there rs key
    unfold fnd at h ⊢
    by_cases hb : bef r.1.data.toList key.data.toList = true
    · rw [if_pos hb] at h ⊢
      obtain ⟨h1, h2⟩ := ih h
      exact ⟨by simp; omega, by simpa using h2⟩
    · rw [if_neg hb] at h ⊢
      exact ⟨by simp, by simpa using (eqB_iff _ _).1 h⟩
/-- the same rows -/
def sameR : List Rw → List Rw → Bool
  | [], [] => true
  | r :: a, s :: b => eqB r.1 s.1 && eqB r.2 s.2 && sameR a b
  | _, _ => false
theorem sameR_iff : ∀ a b : List Rw, sameR a b = true ↔ a = b
  | [], [] => by simp [sameR]
  | [], _ :: _ => by simp [sameR]
  | _ :: _, [] => by simp [sameR]
  | (r1, r2) :: a, (s1, s2) :: b => by
    unfold sameR
    rw [Bool.and_eq_true, Bool.and_eq_true, eqB_iff, eqB_iff, sameR_iff a b]
    simp [and_assoc]
theorem sameR_self (a : List Rw) : sameR a a = true := (sameR_iff a a).2 rfl
theorem sameR_len {a b : List Rw} (h : a.length ≠ b.length) : sameR a b = false := by
  cases hs : sameR a b with
  | false => rfl
  | true => exact absurd (by rw [(sameR_iff a b).1 hs]) h
/-- at most 100 rows, of 2000 bytes in all -/
def sumR : List Rw → Nat
  | [] => 0
  | r :: rs => (min r.1.size 2001 + min r.2.size 2001) + sumR rs
theorem sumR_append : ∀ a b, sumR (a ++ b) = sumR a + sumR b
  | [], _ => by simp [sumR]
  | r :: a, b => by simp [sumR, sumR_append a b]; omega
def fewR (rs : List Rw) : Bool := decide (rs.length ≤ 100) && decide (sumR rs ≤ 2000)
theorem fewR_len {rs : List Rw} (h : fewR rs = true) : rs.length ≤ 100 := by unfold fewR at h; simp at h; exact h.1
theorem fewR_size : ∀ {rs : List Rw}, sumR rs ≤ 2000 → ∀ r ∈ rs, r.1.size ≤ 2000 ∧ r.2.size ≤ 2000
  | [], _, _, hr => by cases hr
  | r :: rs, h, x, hx => by
    unfold sumR at h
    rcases List.mem_cons.1 hx with rfl | hx
    · omega
    · exact fewR_size (rs := rs) (by omega) x hx
theorem drop_at {rs : List Rw} {k : Nat} (h : k < rs.length) : rs.drop k = rs.getD k r0 :: rs.drop (k + 1) := by
  rw [List.drop_eq_getElem_cons h]; simp [List.getD, h]
theorem take_at {rs : List Rw} {k : Nat} (h : k < rs.length) : rs.take (k + 1) = rs.take k ++ [rs.getD k r0] := by
  rw [List.take_succ_eq_append_getElem h]; simp [List.getD, h]

open Go.RowKit

theorem refFits_any (r : Rw) (w : World) (h1 : r.1.size ≤ maxLen) (h2 : r.2.size ≤ maxLen) :
    Calls Try.prog 37 #[.agg #[.string r.1, .string r.2]] w fun ev w' => ev = .returned (.bool (fitB r)) ∧ Below w.heap.size w w' := by
  obtain ⟨k, v⟩ := r
  simp only at *
  have L : Aside (k.size ≤ maxLen) := h1
  have hb0 : Aside (Below w.heap.size w (w.alloc (.cells #[.string k, .string v] 48))) := (Below.refl _ _).alloc (Nat.le_refl _) _
  unfold maxLen at h1 h2
  cases hr : rgt k.size with
  | false =>
    have R := Lib.hid hr
    clear hr
    go_enter Try.func37, Try.ntmps37
    go_wp2_with fail
    refine (refRight_any k _ L.out).mono ?_
    rintro ev w1 ⟨rfl, rfl⟩
    rw [R.out]
    go_wp2
    go_ret
    exact ⟨retB (by unfold fitB; rw [R.out]; rfl), hb0.out⟩
  | true =>
    have R := Lib.hid hr
    clear hr
    have D : Aside (fitB (k, v) = decide (v.size ≤ 16)) := by show _ = _; unfold fitB; rw [R.out]; rfl
    by_cases h16 : v.size ≤ 16
    · have E : Aside (fitB (k, v) = true) := by show _ = _; rw [D.out]; exact decide_eq_true h16
      go_enter Try.func37, Try.ntmps37
      go_wp2_with fail
      refine (refRight_any k _ L.out).mono ?_
      rintro ev w1 ⟨rfl, rfl⟩
      rw [R.out]
      go_wp2
      go_ret
      first | exact ⟨retB E.out.symm, hb0.out⟩ | exact ⟨retB (by rw [E.out]; simp; omega), hb0.out⟩
    · have E : Aside (fitB (k, v) = false) := by show _ = _; rw [D.out]; exact decide_eq_false h16
      go_enter Try.func37, Try.ntmps37
      go_wp2_with fail
      refine (refRight_any k _ L.out).mono ?_
      rintro ev w1 ⟨rfl, rfl⟩
      rw [R.out]
      go_wp2
      go_ret
      first | exact ⟨retB E.out.symm, hb0.out⟩ | exact ⟨retB (by rw [E.out]; simp; omega), hb0.out⟩

set_option maxHeartbeats 2000000 in
theorem refFind_any (v : Value) (rs : List Rw) (key : ByteArray) (w : World) (hv : RowsV w v rs) (hk : key.size ≤ maxLen) :
    Calls Try.prog 23 #[v, .string key] w fun ev w' => ev = .returned (.tuple #[.int .i64 ((fnd rs key).1 : Int), .bool (fnd rs key).2]) ∧ Below w.heap.size w w' := by
  have hnot : ∀ (x : Bool) (w : World), (Op.unary .not (.bool x)).run Try.prog w = .ok (.bool (!x)) w := fun _ _ => rfl
  have V : Aside (RowsV w v rs ∧ key.size ≤ maxLen) := ⟨hv, hk⟩
  rcases hv.form with ⟨rfl, rfl⟩ | ⟨b, off, cap, rfl, hlc, hcm, hc⟩
  · clear hv hk
    go_enter Try.func23, Try.ntmps23
    go_wp2
    refine wp_loop_rounds 1 ?_
    rw [rounds_succ]
    go_wp2
    go_ret2
    exact ⟨rfl, Below.refl _ _⟩
  · have C : Aside (∀ i, i < rs.length → w.cell? ⟨b, off + i * 2, none⟩ = some (.string (rs.getD i r0).1) ∧ w.cell? ⟨b, off + i * 2 + 1, none⟩ = some (.string (rs.getD i r0).2)) := hc
    unfold maxLen at hcm
    clear hv hk hc
    go_enter Try.func23, Try.ntmps23
    go_wp2
    go_loopg [6] rs.length (fun n i wr => ∃ k : Nat, k + n = rs.length ∧ i = .int .i64 k ∧ fnd rs key = (k + (fnd (rs.drop k) key).1, (fnd (rs.drop k) key).2) ∧ Below w.heap.size w wr)
    case atStart => exact ⟨0, by omega, rfl, by simp, Below.refl _ _⟩
    case round =>
      obtain ⟨k, hk, rfl, hf, hB⟩ := hrel
      have A : Aside (fnd rs key = (k + (fnd (rs.drop k) key).1, (fnd (rs.drop k) key).2) ∧ Below w.heap.size w wr ∧ k + gk = rs.length) := ⟨hf, hB, hk⟩
      clear hf hB
      by_cases hlt : k < rs.length
      · have hc0 : wr.cell? ⟨b, off + k * 2, none⟩ = some (.string (rs.getD k r0).1) := (A.out.2.1.cell (p := ⟨b, off + k * 2, none⟩) (lt_of_cell (C.out k hlt).1)).trans (C.out k hlt).1
        have T : Aside (fnd (rs.drop k) key = if bef (rs.getD k r0).1.data.toList key.data.toList then ((fnd (rs.drop (k + 1)) key).1 + 1, (fnd (rs.drop (k + 1)) key).2) else (0, eqB (rs.getD k r0).1 key)) := by
          show _ = _; rw [drop_at hlt]; rfl
        have M : Aside ((rs.getD k r0).1.size ≤ maxLen) := (V.out.1.small.at k).1
        generalize (rs.getD k r0).1 = x at *
        cases hb : bef x.data.toList key.data.toList with
        | true =>
          have H := Lib.hid hb
          clear hb
          go_wp2_with fail
          refine (refBefore_any x key _ M.out V.out.2).mono ?_
          rintro ev w2 ⟨rfl, hs⟩
          rw [H.out]
          have F : Aside (Below w.heap.size w w2) := A.out.2.1.trans (hs.mono A.out.2.1.size)
          clear hs
          have G : Aside (fnd rs key = (k + 1 + (fnd (rs.drop (k + 1)) key).1, (fnd (rs.drop (k + 1)) key).2)) := by
            show _ = _; rw [A.out.1, T.out, if_pos H.out]; simp only [Prod.mk.injEq, and_true]; omega
          clear hc0
          go_wp2
          go_roundg (rs.length - (k + 1))
          case measure => have := A.out.2.2; omega
          case rel => exact ⟨k + 1, by omega, by go_num, G.out, F.out⟩
        | false =>
          have H := Lib.hid hb
          clear hb
          go_wp2_with fail
          refine (refBefore_any x key _ M.out V.out.2).mono ?_
          rintro ev w2 ⟨rfl, hs⟩
          rw [H.out]
          have F : Aside (Below w.heap.size w w2) := A.out.2.1.trans (hs.mono A.out.2.1.size)
          have hc2 : w2.cell? ⟨b, off + k * 2, none⟩ = some (.string x) := (hs.cell (p := ⟨b, off + k * 2, none⟩) (lt_of_cell hc0)).trans hc0
          clear hs hc0
          have G : Aside (fnd rs key = (k, x.toList == key.toList)) := by
            show _ = _; rw [A.out.1, T.out, if_neg (by rw [H.out]; simp)]; rfl
          go_wp2_with fail
          go_quiet (fail)
          go_wp2
          go_ret2
          exact ⟨by rw [G.out]; rfl, below_drewN F.out _⟩
      · have e : k = rs.length := by omega
        have G : Aside (fnd rs key = (rs.length, false)) := by
          show _ = _; rw [A.out.1, e, List.drop_of_length_le (Nat.le_refl _)]; rfl
        clear e
        go_wp2
        go_ret2
        exact ⟨by rw [G.out]; rfl, A.out.2.1⟩
/-- the form in which a walk takes the length alone -/
theorem RowsV.lenform {w : World} {v : Value} {rs : List Rw} (h : RowsV w v rs) : ∃ a cap, v = .slice a rs.length cap ∧ rs.length ≤ cap ∧ cap ≤ maxLen := by
  obtain ⟨a, cap, h1, h2, h3, _⟩ := h
  exact ⟨a, cap, h1, h2, h3⟩
set_option maxRecDepth 100000 in
set_option maxHeartbeats 4000000 in
theorem refSame_any (v u : Value) (rs ss : List Rw) (w : World) (hv : RowsV w v rs) (hu : RowsV w u ss) :
    Calls Try.prog 36 #[v, u] w fun ev w' => ev = .returned (.bool (sameR rs ss)) ∧ Below w.heap.size w w' := by
  by_cases hl : rs.length = ss.length
  · by_cases h0 : rs.length = 0
    · have e1 : rs = [] := List.eq_nil_of_length_eq_zero h0
      have e2 : ss = [] := List.eq_nil_of_length_eq_zero (by omega)
      subst e1 e2
      obtain ⟨a, cap, rfl, -, hm⟩ := hv.lenform
      obtain ⟨b, dap, rfl, -, hn⟩ := hu.lenform
      clear hv hu
      simp only [List.length_nil]
      go_enter Try.func36, Try.ntmps36
      go_wp2
      refine wp_loop_rounds 1 ?_
      rw [rounds_succ]
      go_wp2
      go_ret
      exact ⟨rfl, Below.refl _ _⟩
    · rcases hv.form with ⟨-, rfl⟩ | ⟨b, off, cap, rfl, -, hcm, hc⟩
      · exact absurd rfl h0
      · rcases hu.form with ⟨-, rfl⟩ | ⟨d, dff, dap, rfl, -, hdm, hd⟩
        · exact absurd hl h0
        · have C : Aside (∀ i, i < rs.length → w.cell? ⟨b, off + i * 2, none⟩ = some (.string (rs.getD i r0).1) ∧ w.cell? ⟨b, off + i * 2 + 1, none⟩ = some (.string (rs.getD i r0).2)) := hc
          have D : Aside (∀ i, i < ss.length → w.cell? ⟨d, dff + i * 2, none⟩ = some (.string (ss.getD i r0).1) ∧ w.cell? ⟨d, dff + i * 2 + 1, none⟩ = some (.string (ss.getD i r0).2)) := hd
          obtain ⟨n, hn⟩ : ∃ n, rs.length = n := ⟨_, rfl⟩
          have hn2 : ss.length = n := by omega
          have hnm : n ≤ maxLen := by rw [← hn]; obtain ⟨_, _, _, h2, h3⟩ := hv.lenform; omega
          have N : Aside (rs.length = n ∧ ss.length = n) := ⟨hn, hn2⟩
          unfold maxLen at hcm hdm hnm
          rw [hn, hn2]
          clear hv hu hc hd hl h0 hn hn2
          go_enter Try.func36, Try.ntmps36
          go_wp2
          go_loopg [5] n (fun m i wr => ∃ k : Nat, k + m = n ∧ i = .int .i64 k ∧ sameR rs ss = sameR (rs.drop k) (ss.drop k) ∧ Below w.heap.size w wr)
          case atStart => exact ⟨0, by omega, rfl, by simp, Below.refl _ _⟩
          case round =>
            obtain ⟨k, hk, rfl, hf, hB⟩ := hrel
            have A : Aside (sameR rs ss = sameR (rs.drop k) (ss.drop k) ∧ Below w.heap.size w wr ∧ k + gk = n) := ⟨hf, hB, hk⟩
            clear hf hB
            by_cases hlt : k < n
            · have hr : k < rs.length := by rw [N.out.1]; exact hlt
              have hs : k < ss.length := by rw [N.out.2]; exact hlt
              have x1 : wr.cell? ⟨b, off + k * 2, none⟩ = some (.string (rs.getD k r0).1) := (A.out.2.1.cell (p := ⟨b, off + k * 2, none⟩) (lt_of_cell (C.out k hr).1)).trans (C.out k hr).1
              have x2 : wr.cell? ⟨b, off + k * 2 + 1, none⟩ = some (.string (rs.getD k r0).2) := (A.out.2.1.cell (p := ⟨b, off + k * 2 + 1, none⟩) (lt_of_cell (C.out k hr).2)).trans (C.out k hr).2
              have y1 : wr.cell? ⟨d, dff + k * 2, none⟩ = some (.string (ss.getD k r0).1) := (A.out.2.1.cell (p := ⟨d, dff + k * 2, none⟩) (lt_of_cell (D.out k hs).1)).trans (D.out k hs).1
              have y2 : wr.cell? ⟨d, dff + k * 2 + 1, none⟩ = some (.string (ss.getD k r0).2) := (A.out.2.1.cell (p := ⟨d, dff + k * 2 + 1, none⟩) (lt_of_cell (D.out k hs).2)).trans (D.out k hs).2
              have T : Aside (sameR (rs.drop k) (ss.drop k) = (((rs.getD k r0).1.toList == (ss.getD k r0).1.toList) && ((rs.getD k r0).2.toList == (ss.getD k r0).2.toList) && sameR (rs.drop (k + 1)) (ss.drop (k + 1)))) := by
                show _ = _; rw [drop_at hr, drop_at hs]; rfl
              clear hr hs
              generalize (rs.getD k r0).1 = p at *
              generalize (rs.getD k r0).2 = q at *
              generalize (ss.getD k r0).1 = p' at *
              generalize (ss.getD k r0).2 = q' at *
              cases g1 : (p.toList == p'.toList) with
              | false =>
                have G : Aside (sameR rs ss = false) := by show _ = _; rw [A.out.1, T.out, g1]; rfl
                go_wp2
                go_quiet (fail)
                go_wp2
                go_ret
                exact ⟨retB G.out.symm, below_drewN A.out.2.1 _⟩
              | true =>
                cases g2 : (q.toList == q'.toList) with
                | false =>
                  have G : Aside (sameR rs ss = false) := by show _ = _; rw [A.out.1, T.out, g1, g2]; rfl
                  go_wp2
                  go_quiet (fail)
                  go_wp2
                  go_ret
                  exact ⟨retB G.out.symm, below_drewN A.out.2.1 _⟩
                | true =>
                  have G : Aside (sameR rs ss = sameR (rs.drop (k + 1)) (ss.drop (k + 1))) := by show _ = _; rw [A.out.1, T.out, g1, g2]; rfl
                  go_wp2
                  go_quiet (fail)
                  go_wp2
                  go_roundg (n - (k + 1))
                  case measure => have := A.out.2.2; omega
                  case rel => exact ⟨k + 1, by omega, by go_num, G.out, below_drewN A.out.2.1 _⟩
            · have G : Aside (sameR rs ss = true) := by
                show _ = _
                rw [A.out.1, List.drop_of_length_le (by rw [N.out.1]; omega), List.drop_of_length_le (by rw [N.out.2]; omega)]; rfl
              go_wp2
              go_ret
              exact ⟨retB G.out.symm, A.out.2.1⟩
  · have G : Aside (sameR rs ss = false) := sameR_len hl
    obtain ⟨a, cap, rfl, -, hm⟩ := hv.lenform
    obtain ⟨b, dap, rfl, -, hn⟩ := hu.lenform
    clear hv hu
    have hl1 : ((rs.length : Int) != (ss.length : Int)) = true := by rw [bne_iff_ne]; omega
    have hl2 : ((rs.length : Int) == (ss.length : Int)) = false := by rw [beq_eq_false_iff_ne]; omega
    have hl3 : (rs.length == ss.length) = false := by simpa using hl
    go_enter Try.func36, Try.ntmps36
    go_wp2
    go_ret
    exact ⟨retB G.out.symm, Below.refl _ _⟩
end Go.Proofs.Ytkbfhpgcjljbbaa
