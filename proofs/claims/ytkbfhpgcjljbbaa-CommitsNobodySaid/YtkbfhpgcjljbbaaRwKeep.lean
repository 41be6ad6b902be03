/- Plain: rows that rise stay such, whatever is put and dropped; what is put is found, what is dropped is not, each other key has what it had. -/
import Derived.Test.YtkbfhpgcjljbbaaRwSort
namespace Go.Proofs.Ytkbfhpgcjljbbaa
open Go.RowKit

theorem fnd_lt {s : Rw} {l : List Rw} {k : ByteArray} (h : bef s.1.data.toList k.data.toList = true) : fnd (s :: l) k = ((fnd l k).1 + 1, (fnd l k).2) := by
  rw [fnd, if_pos h]
theorem fnd_ge {s : Rw} {l : List Rw} {k : ByteArray} (h : bef s.1.data.toList k.data.toList = false) : fnd (s :: l) k = (0, eqB s.1 k) := by
  rw [fnd, if_neg (by rw [h]; simp)]
theorem putR_nil (r : Rw) : putR [] r = [r] := rfl
theorem putR_lt {s r : Rw} {l : List Rw} (h : bef s.1.data.toList r.1.data.toList = true) : putR (s :: l) r = s :: putR l r := by
  unfold putR
  rw [fnd_lt h]
  simp only [List.take_succ_cons, List.cons_append, Nat.add_right_comm _ 1, List.drop_succ_cons]
theorem putR_eq {s r : Rw} {l : List Rw} (h : bef s.1.data.toList r.1.data.toList = false) (he : eqB s.1 r.1 = true) : putR (s :: l) r = r :: l := by
  unfold putR
  rw [fnd_ge h, he]; rfl
theorem putR_gt {s r : Rw} {l : List Rw} (h : bef s.1.data.toList r.1.data.toList = false) (he : eqB s.1 r.1 = false) : putR (s :: l) r = r :: s :: l := by
  unfold putR
  rw [fnd_ge h, he]; rfl
theorem dropR_lt {s : Rw} {k : ByteArray} {l : List Rw} (h : bef s.1.data.toList k.data.toList = true) : dropR (s :: l) k = s :: dropR l k := by
  unfold dropR
  rw [fnd_lt h]
  simp only [List.take_succ_cons, List.drop_succ_cons]
  split <;> rfl
theorem dropR_eq {s : Rw} {k : ByteArray} {l : List Rw} (h : bef s.1.data.toList k.data.toList = false) (he : eqB s.1 k = true) : dropR (s :: l) k = l := by
  unfold dropR
  rw [fnd_ge h, he]; rfl
theorem dropR_gt {s : Rw} {k : ByteArray} {l : List Rw} (h : bef s.1.data.toList k.data.toList = false) (he : eqB s.1 k = false) : dropR (s :: l) k = s :: l := by
  unfold dropR
  rw [fnd_ge h, he]; rfl
theorem eqB_ne {a b : ByteArray} (h : a ≠ b) : eqB a b = false := by
  cases he : eqB a b with
  | false => rfl
  | true => exact absurd ((eqB_iff a b).1 he) h
theorem key_ext {a b : ByteArray} (h : a.data.toList = b.data.toList) : a = b := by
  obtain ⟨⟨a⟩⟩ := a
  obtain ⟨⟨b⟩⟩ := b
  simp at h
  rw [h]
/-- what is put is found -/
theorem put_found (r : Rw) : ∀ l : List Rw, (fnd (putR l r) r.1).2 = true ∧ (putR l r).getD (fnd (putR l r) r.1).1 r0 = r
  | [] => by rw [putR_nil, fnd_ge (bef_irr _)]; exact ⟨eqB_self _, rfl⟩
  | s :: l => by
    cases h : bef s.1.data.toList r.1.data.toList with
    | true =>
      rw [putR_lt h, fnd_lt h]
      have ih := put_found r l
      exact ⟨ih.1, by simpa using ih.2⟩
    | false =>
      cases he : eqB s.1 r.1 with
      | true => rw [putR_eq h he, fnd_ge (bef_irr _)]; exact ⟨eqB_self _, rfl⟩
      | false => rw [putR_gt h he, fnd_ge (bef_irr _)]; exact ⟨eqB_self _, rfl⟩
theorem fnd_ahead {l : List Rw} {a k : ByteArray} (h : rightFrom (some a) l = true) (hk : a.data.toList = k.data.toList ∨ bef k.data.toList a.data.toList = true) : (fnd l k).2 = false := by
  cases l with
  | nil => rfl
  | cons s l =>
    have h1 := rightFrom_head _ a h s (List.mem_cons_self ..)
    have h2 : bef k.data.toList s.1.data.toList = true := by
      rcases hk with e | e
      · rw [← e]; exact h1
      · exact bef_trans _ _ _ e h1
    rw [fnd_ge (bef_asymm _ _ h2)]
    exact eqB_ne (fun e => by rw [e, bef_irr] at h2; cases h2)
/-- what is dropped is not found -/
theorem drop_gone (k : ByteArray) : ∀ {p : Option ByteArray} (l : List Rw), rightFrom p l = true → (fnd (dropR l k) k).2 = false
  | _, [], _ => rfl
  | _, s :: l, h => by
    obtain ⟨_, _, h3⟩ := rightFrom_cons h
    cases hb : bef s.1.data.toList k.data.toList with
    | true => rw [dropR_lt hb, fnd_lt hb]; exact drop_gone k l h3
    | false =>
      cases he : eqB s.1 k with
      | true =>
        rw [dropR_eq hb he]
        exact fnd_ahead h3 (.inl (by rw [(eqB_iff _ _).1 he]))
      | false => rw [dropR_gt hb he, fnd_ge hb]; exact he
theorem rightFrom_weak {a : ByteArray} {p : Option ByteArray} : ∀ {l : List Rw}, rightFrom (some a) l = true → (∀ q, p = some q → bef q.data.toList a.data.toList = true) → rightFrom p l = true
  | [], _, _ => by simp [rightFrom]
  | _ :: _, h, hp => by
    obtain ⟨h1, h2, h3⟩ := rightFrom_cons h
    exact rightFrom_mk h1 (fun q hq => bef_trans _ _ _ (hp q hq) (h2 a rfl)) h3
theorem gt_of {s r : ByteArray} (h : bef s.data.toList r.data.toList = false) (he : eqB s r = false) : bef r.data.toList s.data.toList = true := by
  cases h' : bef r.data.toList s.data.toList with
  | true => rfl
  | false => rw [key_ext (bef_total _ _ h h'), eqB_self] at he; cases he
theorem put_right (r : Rw) (hr : fitB r = true) : ∀ {p : Option ByteArray} (l : List Rw), rightFrom p l = true → (∀ q, p = some q → bef q.data.toList r.1.data.toList = true) → rightFrom p (putR l r) = true
  | _, [], _, hp => rightFrom_mk hr hp (by simp [rightFrom])
  | _, s :: l, h, hp => by
    obtain ⟨h1, h2, h3⟩ := rightFrom_cons h
    cases hb : bef s.1.data.toList r.1.data.toList with
    | true =>
      rw [putR_lt hb]
      exact rightFrom_mk h1 h2 (put_right r hr l h3 (fun q hq => by cases hq; exact hb))
    | false =>
      cases he : eqB s.1 r.1 with
      | true => rw [putR_eq hb he]; exact rightFrom_mk hr hp (by rw [← (eqB_iff _ _).1 he]; exact h3)
      | false => rw [putR_gt hb he]; exact rightFrom_mk hr hp (rightFrom_mk h1 (fun q hq => by cases hq; exact gt_of hb he) h3)
theorem drop_right (k : ByteArray) : ∀ {p : Option ByteArray} (l : List Rw), rightFrom p l = true → rightFrom p (dropR l k) = true
  | _, [], _ => by simp [dropR, fnd, rightFrom]
  | _, s :: l, h => by
    obtain ⟨h1, h2, h3⟩ := rightFrom_cons h
    cases hb : bef s.1.data.toList k.data.toList with
    | true => rw [dropR_lt hb]; exact rightFrom_mk h1 h2 (drop_right k l h3)
    | false =>
      cases he : eqB s.1 k with
      | true => rw [dropR_eq hb he]; exact rightFrom_weak h3 h2
      | false => rw [dropR_gt hb he]; exact h
theorem put_len (r : Rw) : ∀ l : List Rw, (putR l r).length = (dropR l r.1).length + 1
  | [] => rfl
  | s :: l => by
    cases hb : bef s.1.data.toList r.1.data.toList with
    | true => rw [putR_lt hb, dropR_lt hb, List.length_cons, List.length_cons, put_len r l]
    | false =>
      cases he : eqB s.1 r.1 with
      | true => rw [putR_eq hb he, dropR_eq hb he, List.length_cons]
      | false => rw [putR_gt hb he, dropR_gt hb he, List.length_cons]
theorem dropR_len (rs : List Rw) (k : ByteArray) : (dropR rs k).length ≤ rs.length := by
  unfold dropR
  split
  · rw [List.length_append, List.length_take, List.length_drop]; omega
  · exact Nat.le_refl _
/-- what a key has -/
def lk (l : List Rw) (o : ByteArray) : Option Rw := if (fnd l o).2 then some (l.getD (fnd l o).1 r0) else none
theorem lk_lt {s : Rw} {l : List Rw} {o : ByteArray} (h : bef s.1.data.toList o.data.toList = true) : lk (s :: l) o = lk l o := by
  unfold lk
  rw [fnd_lt h]
  simp
theorem lk_ge {s : Rw} {l : List Rw} {o : ByteArray} (h : bef s.1.data.toList o.data.toList = false) : lk (s :: l) o = if eqB s.1 o then some s else none := by
  unfold lk
  rw [fnd_ge h]
  simp
theorem lk_ahead {l : List Rw} {a o : ByteArray} (h : rightFrom (some a) l = true) (ho : bef o.data.toList a.data.toList = true) : lk l o = none := by
  unfold lk
  rw [fnd_ahead h (.inr ho)]; rfl
theorem put_other (r : Rw) (o : ByteArray) (ho : o ≠ r.1) : ∀ {p : Option ByteArray} (l : List Rw), rightFrom p l = true → lk (putR l r) o = lk l o
  | _, [], _ => by
    rw [putR_nil]
    cases hb : bef r.1.data.toList o.data.toList with
    | true => exact lk_lt hb
    | false => rw [lk_ge hb, eqB_ne (fun e => ho e.symm)]; rfl
  | _, s :: l, h => by
    obtain ⟨_, _, h3⟩ := rightFrom_cons h
    cases hb : bef s.1.data.toList r.1.data.toList with
    | true =>
      rw [putR_lt hb]
      cases hs : bef s.1.data.toList o.data.toList with
      | true => rw [lk_lt hs, lk_lt hs]; exact put_other r o ho l h3
      | false => rw [lk_ge hs, lk_ge hs]
    | false =>
      cases he : eqB s.1 r.1 with
      | true =>
        have e := (eqB_iff _ _).1 he
        rw [putR_eq hb he]
        cases hs : bef s.1.data.toList o.data.toList with
        | true => rw [lk_lt hs, lk_lt (by rw [← e]; exact hs)]
        | false => rw [lk_ge hs, lk_ge (by rw [← e]; exact hs), eqB_ne (fun h => ho h.symm), eqB_ne (fun h => ho (by rw [← h, e]))]; rfl
      | false =>
        rw [putR_gt hb he]
        cases hr : bef r.1.data.toList o.data.toList with
        | true => exact lk_lt hr
        | false =>
          have hor : bef o.data.toList r.1.data.toList = true := gt_of hr (eqB_ne (fun h => ho h.symm))
          have hos : bef o.data.toList s.1.data.toList = true := bef_trans _ _ _ hor (gt_of hb he)
          rw [lk_ge hr, lk_ge (bef_asymm _ _ hos), eqB_ne (fun h => ho h.symm), eqB_ne (fun h => by rw [h, bef_irr] at hos; cases hos)]; rfl
theorem drop_other (k o : ByteArray) (ho : o ≠ k) : ∀ {p : Option ByteArray} (l : List Rw), rightFrom p l = true → lk (dropR l k) o = lk l o
  | _, [], _ => rfl
  | _, s :: l, h => by
    obtain ⟨_, _, h3⟩ := rightFrom_cons h
    cases hb : bef s.1.data.toList k.data.toList with
    | true =>
      rw [dropR_lt hb]
      cases hs : bef s.1.data.toList o.data.toList with
      | true => rw [lk_lt hs, lk_lt hs]; exact drop_other k o ho l h3
      | false => rw [lk_ge hs, lk_ge hs]
    | false =>
      cases he : eqB s.1 k with
      | true =>
        have e := (eqB_iff _ _).1 he
        rw [dropR_eq hb he]
        cases hs : bef s.1.data.toList o.data.toList with
        | true => rw [lk_lt hs]
        | false =>
          have hne : eqB s.1 o = false := eqB_ne (fun h => ho (by rw [← h, e]))
          rw [lk_ge hs, hne, lk_ahead h3 (gt_of hs hne)]; rfl
      | false => rw [dropR_gt hb he]
theorem lk_no {l m : List Rw} {o : ByteArray} (h : lk l o = lk m o) (hm : (fnd m o).2 = false) : (fnd l o).2 = false := by
  unfold lk at h
  rw [hm] at h
  cases hl : (fnd l o).2 with
  | false => rfl
  | true => rw [hl] at h; cases h
theorem lk_yes {l m : List Rw} {o : ByteArray} (h : lk l o = lk m o) (hm : (fnd m o).2 = true) : (fnd l o).2 = true ∧ l.getD (fnd l o).1 r0 = m.getD (fnd m o).1 r0 := by
  unfold lk at h
  rw [hm] at h
  cases hl : (fnd l o).2 with
  | false => rw [hl] at h; cases h
  | true => rw [hl] at h; exact ⟨rfl, Option.some.inj h⟩
end Go.Proofs.Ytkbfhpgcjljbbaa
