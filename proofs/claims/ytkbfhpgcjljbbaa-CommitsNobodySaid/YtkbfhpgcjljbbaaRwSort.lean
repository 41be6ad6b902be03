/- Plain: rows that may be rise: what a cut parts, what the pieces are. -/
import Derived.Test.YtkbfhpgcjljbbaaRwC
namespace Go.Proofs.Ytkbfhpgcjljbbaa
open Go.RowKit

theorem rightFrom_cons {p : Option ByteArray} {r : Rw} {rs : List Rw} (h : rightFrom p (r :: rs) = true) : fitB r = true ∧ (∀ q, p = some q → bef q.data.toList r.1.data.toList = true) ∧ rightFrom (some r.1) rs = true := by
  unfold rightFrom at h
  rw [Bool.and_eq_true, Bool.and_eq_true] at h
  refine ⟨h.1.1, fun q hq => ?_, h.2⟩
  subst hq
  exact h.1.2
theorem rightFrom_mk {p : Option ByteArray} {r : Rw} {rs : List Rw} (h1 : fitB r = true) (h2 : ∀ q, p = some q → bef q.data.toList r.1.data.toList = true) (h3 : rightFrom (some r.1) rs = true) : rightFrom p (r :: rs) = true := by
  unfold rightFrom
  rw [h1, h3]
  cases p with
  | none => rfl
  | some q => simp only [h2 q rfl]; rfl
theorem rightFrom_head : ∀ (rs : List Rw) (q : ByteArray), rightFrom (some q) rs = true → ∀ r ∈ rs, bef q.data.toList r.1.data.toList = true
  | [], _, _, _, h => by cases h
  | s :: rs, q, h, r, hr => by
    obtain ⟨_, h2, h3⟩ := rightFrom_cons h
    rcases List.mem_cons.1 hr with rfl | hr
    · exact h2 q rfl
    · exact bef_trans _ _ _ (h2 q rfl) (rightFrom_head rs s.1 h3 r hr)
theorem rightFrom_none : ∀ {p : Option ByteArray} {rs : List Rw}, rightFrom p rs = true → rightFrom none rs = true
  | _, [], _ => rfl
  | _, _ :: _, h => by
    obtain ⟨h1, _, h3⟩ := rightFrom_cons h
    exact rightFrom_mk h1 (fun q hq => by cases hq) h3
theorem rightFrom_take : ∀ {p : Option ByteArray} (rs : List Rw) (n : Nat), rightFrom p rs = true → rightFrom p (rs.take n) = true
  | _, [], _, _ => by simp [rightFrom]
  | _, _ :: _, 0, _ => by simp [rightFrom]
  | _, r :: rs, n + 1, h => by
    obtain ⟨h1, h2, h3⟩ := rightFrom_cons h
    rw [List.take_succ_cons]
    exact rightFrom_mk h1 h2 (rightFrom_take rs n h3)
theorem rightB_drop : ∀ {p : Option ByteArray} (rs : List Rw) (n : Nat), rightFrom p rs = true → rightB (rs.drop n) = true
  | _, [], _, _ => by simp [rightB, rightFrom]
  | _, r :: rs, 0, h => rightFrom_none h
  | _, r :: rs, n + 1, h => by
    rw [List.drop_succ_cons]
    exact rightB_drop rs n (rightFrom_cons h).2.2
/-- where rows that rise are cut at a key, those ahead of it stand on the one side, the others on the other -/
theorem cut_rise : ∀ {p : Option ByteArray} (rs : List Rw) (key : ByteArray), rightFrom p rs = true →
    rs.take (fnd rs key).1 = rs.filter (fun r => bef r.1.data.toList key.data.toList) ∧ rs.drop (fnd rs key).1 = rs.filter (fun r => !bef r.1.data.toList key.data.toList)
  | _, [], _, _ => by simp
  | _, r :: rs, key, h => by
    obtain ⟨_, _, h3⟩ := rightFrom_cons h
    unfold fnd
    by_cases hb : bef r.1.data.toList key.data.toList = true
    · rw [if_pos hb]
      obtain ⟨k1, k2⟩ := cut_rise rs key h3
      rw [List.take_succ_cons, List.drop_succ_cons, List.filter_cons, List.filter_cons, if_pos hb, if_neg (by simp [hb]), k1, k2]
      exact ⟨rfl, rfl⟩
    · rw [if_neg hb]
      have hall : ∀ s ∈ rs, bef s.1.data.toList key.data.toList = false := fun s hs => by
        cases hk : bef s.1.data.toList key.data.toList with
        | false => rfl
        | true => exact absurd (bef_trans _ _ _ (rightFrom_head rs r.1 h3 s hs) hk) hb
      constructor
      · rw [List.take_zero, List.filter_cons, if_neg hb]
        symm
        rw [List.filter_eq_nil_iff]
        intro s hs
        rw [hall s hs]; simp
      · rw [List.drop_zero, List.filter_cons, if_pos (by simpa using hb)]
        congr 1
        symm
        rw [List.filter_eq_self]
        intro s hs
        rw [hall s hs]; rfl
theorem nil_list : (⟨#[]⟩ : ByteArray).data.toList = [] := rfl
theorem take_low (key : ByteArray) (rs : List Rw) (h : rightB rs = true) : takeR ⟨#[]⟩ key false false 0 rs = rs.take (fnd rs key).1 := by
  unfold takeR accR
  rw [if_neg (by decide), if_neg (by simp), (cut_rise rs key h).1]
  congr 1
  funext r
  unfold inR inn
  rw [nil_list, bef_nil]
  simp
theorem take_high (key : ByteArray) (rs : List Rw) (h : rightB rs = true) : takeR key ⟨#[]⟩ true false 0 rs = rs.drop (fnd rs key).1 := by
  unfold takeR accR
  rw [if_neg (by decide), if_neg (by simp), (cut_rise rs key h).2]
  congr 1
  funext r
  unfold inR inn
  simp
/-- two rows of rows that rise, one behind the other -/
theorem rise_at : ∀ {p : Option ByteArray} (rs : List Rw) (i : Nat), rightFrom p rs = true → i + 1 < rs.length → bef (rs.getD i r0).1.data.toList (rs.getD (i + 1) r0).1.data.toList = true
  | _, [], _, _, h => by simp at h
  | _, r :: rs, 0, h, hl => by
    obtain ⟨_, _, h3⟩ := rightFrom_cons h
    have hl' : 0 < rs.length := by simpa using hl
    have hm : rs.getD 0 r0 ∈ rs := by
      rw [List.getD, List.getElem?_eq_getElem hl']; exact List.getElem_mem hl'
    have := rightFrom_head rs r.1 h3 _ hm
    simpa using this
  | _, r :: rs, i + 1, h, hl => by
    obtain ⟨_, _, h3⟩ := rightFrom_cons h
    have := rise_at rs i h3 (by simpa using hl)
    simpa using this
theorem getD_take {rs : List Rw} {i n : Nat} (h : i < n) : (rs.take n).getD i r0 = rs.getD i r0 := by
  rw [List.getD, List.getD, List.getElem?_take_of_lt h]
theorem getD_drop (rs : List Rw) (i n : Nat) : (rs.drop n).getD i r0 = rs.getD (n + i) r0 := by
  rw [List.getD, List.getD, List.getElem?_drop]
/-- the two sides of a cut do not clash -/
theorem clash_cut {rs : List Rw} (h : rightB rs = true) (n : Nat) : clashB (rs.take n) (rs.drop n) = false := by
  unfold clashB
  by_cases h0 : n = 0
  · subst h0; simp
  · by_cases hl : n < rs.length
    · have hlen : (rs.take n).length = n := by rw [List.length_take]; omega
      rw [hlen, getD_take (by omega), getD_drop, show n + 0 = (n - 1) + 1 by omega, rise_at rs (n - 1) h (by omega)]
      simp
    · rw [List.drop_of_length_le (by omega)]; simp
theorem half_rise {rs : List Rw} (h : rightB rs = true) (hl : 2 ≤ rs.length) : halfB rs = true := by
  unfold halfB
  rw [decide_eq_true hl]
  have := rise_at rs (rs.length / 2 - 1) h (by omega)
  rw [show rs.length / 2 - 1 + 1 = rs.length / 2 by omega] at this
  rw [this]; rfl
theorem half_low {rs : List Rw} (h : halfB rs = true) : cmp (rs.getD (rs.length / 2 - 1) r0).1.data.toList (halfK rs).data.toList = -1 := by
  unfold halfB at h
  rw [Bool.and_eq_true] at h
  unfold halfK btw
  rw [ext_take]
  unfold cmp
  rw [if_pos (btw_bef _ _ h.2)]
theorem half_high (rs : List Rw) : cmp (halfK rs).data.toList (rs.getD (rs.length / 2) r0).1.data.toList = -1 ∨ cmp (halfK rs).data.toList (rs.getD (rs.length / 2) r0).1.data.toList = 0 := by
  unfold halfK btw
  rw [ext_take]
  rcases cmp_three ((rs.getD (rs.length / 2) r0).1.data.toList.take (com (rs.getD (rs.length / 2 - 1) r0).1.data.toList (rs.getD (rs.length / 2) r0).1.data.toList + 1)) (rs.getD (rs.length / 2) r0).1.data.toList with h | h | h
  · exact .inl h
  · exact .inr h
  · have := cmp_swap ((rs.getD (rs.length / 2) r0).1.data.toList.take (com (rs.getD (rs.length / 2 - 1) r0).1.data.toList (rs.getD (rs.length / 2) r0).1.data.toList + 1)) (rs.getD (rs.length / 2) r0).1.data.toList
    rw [h] at this
    have := (cmp_neg_iff _ _).1 (show cmp (rs.getD (rs.length / 2) r0).1.data.toList _ < 0 by rw [this]; decide)
    rw [bef_take] at this
    cases this
end Go.Proofs.Ytkbfhpgcjljbbaa
