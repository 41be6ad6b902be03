/- Package rows' own functions (layer 3), by contracts: Cut, Drop, Put. -/
import Derived.Test.YtaaikmompiejdaaRwRight
namespace Go.Proofs.Ytaaikmompiejdaa
open Go.RowKit

theorem lists_of (w : World) (n : Nat) (hn : w.heap.size = n) (vs : List Value) (rss : List (List Rw)) (ty : TypeId) (h : ∀ j, j < vs.length → RowsV w (vs.getD j nilS) (rss.getD j [])) :
    ∀ j, j < vs.length → (w.alloc (.cells vs.toArray ty)).cell? ⟨n, j, none⟩ = some (vs.getD j nilS) ∧ RowsV (w.alloc (.cells vs.toArray ty)) (vs.getD j nilS) (rss.getD j []) := fun j hj => by
  subst hn
  exact ⟨by rw [cell_new]; simp [List.getD, hj], (h j hj).alloc _⟩
theorem concat2 (w : World) (n : Nat) (hn : w.heap.size = n) (v1 v2 : Value) (r1 r2 : List Rw) (h1 : RowsV w v1 r1) (h2 : RowsV w v2 r2) (hl : r1.length + r2.length ≤ 10000) :
    Calls Try.prog 35 #[.slice (some ⟨n, 0, none⟩) 2 2] (w.alloc (.cells #[v1, v2] 22)) fun ev w' => ∃ v', ev = .returned v' ∧ OwnR n w' v' (r1 ++ r2) ∧ Below n w w' := by
  have h := lists_of w n hn [v1, v2] [r1, r2] 22 (fun j hj => by
    rcases j with _ | _ | j
    · exact h1
    · exact h2
    · simp at hj; omega)
  refine (concat_any n 2 [v1, v2] [r1, r2] _ h (by omega) rfl (by simpa using hl)).mono ?_
  rintro ev w' ⟨v', rfl, ho, hs⟩
  subst hn
  have hb := (alloc_below0 w (.cells #[v1, v2] 22))
  exact ⟨v', rfl, by simpa using ho.mono hb.size, hb.trans (hs.mono hb.size)⟩
theorem concat3 (w : World) (n : Nat) (hn : w.heap.size = n) (v1 v2 v3 : Value) (r1 r2 r3 : List Rw) (h1 : RowsV w v1 r1) (h2 : RowsV w v2 r2) (h3 : RowsV w v3 r3) (hl : r1.length + r2.length + r3.length ≤ 10000) :
    Calls Try.prog 35 #[.slice (some ⟨n, 0, none⟩) 3 3] (w.alloc (.cells #[v1, v2, v3] 22)) fun ev w' => ∃ v', ev = .returned v' ∧ OwnR n w' v' (r1 ++ (r2 ++ r3)) ∧ Below n w w' := by
  have h := lists_of w n hn [v1, v2, v3] [r1, r2, r3] 22 (fun j hj => by
    rcases j with _ | _ | _ | j
    · exact h1
    · exact h2
    · exact h3
    · simp at hj; omega)
  refine (concat_any n 3 [v1, v2, v3] [r1, r2, r3] _ h (by omega) rfl (by simp; omega)).mono ?_
  rintro ev w' ⟨v', rfl, ho, hs⟩
  subst hn
  have hb := (alloc_below0 w (.cells #[v1, v2, v3] 22))
  exact ⟨v', rfl, by simpa using ho.mono hb.size, hb.trans (hs.mono hb.size)⟩

theorem RowsV.dropE {w : World} {b off n cap : Nat} {rs : List Rw} (h : RowsV w (.slice (some ⟨b, off, none⟩) n cap) rs) (hk : cap ≤ rs.length) (hk2 : rs.length ≤ cap) : RowsV w (.slice (some ⟨b, off, none⟩) 0 0) (rs.drop cap) := by
  have e := h.dropI hk
  have e2 : rs.length - cap = 0 := by omega
  rw [e2] at e
  simpa using e
set_option maxRecDepth 100000 in
set_option maxHeartbeats 4000000 in
theorem cut_any (v : Value) (rs : List Rw) (key : ByteArray) (w : World) (hv : RowsV w v rs) (hl : rs.length ≤ 1000) :
    Calls Try.prog 27 #[v, .string key] w fun ev w' => ∃ v1 v2, ev = .returned (.tuple #[v1, v2]) ∧ RowsV w' v1 (rs.take (fnd rs key).1) ∧ RowsV w' v2 (rs.drop (fnd rs key).1) ∧ Below w.heap.size w w' := by
  have V : Aside (RowsV w v rs ∧ rs.length ≤ 1000) := ⟨hv, hl⟩
  rcases hv.form with ⟨rfl, rfl⟩ | ⟨b, off, cap, rfl, hlc, hcm, -⟩
  · clear hv hl
    have e1 : (fnd [] key) = (0, false) := rfl
    go_enter Try.func27, Try.ntmps27
    go_wp2_with fail
    refine (find_any _ [] key _ V.out.1).mono ?_
    rintro ev w1 ⟨rfl, hs⟩
    rw [e1]
    have B : Aside (Below w.heap.size w w1) := hs
    clear hs e1
    have N0 := Lib.hid (RowsV.nil w1.drew)
    go_wp2_with fail
    go_region_held3 (fun _ => True) (trivial)
      (first
        | (go_at_call 15; (with_reducible refine (copy_own _ [] _ N0.out (by simp)).mono ?_); rintro e w2 ⟨v1, rfl, ho, hs⟩; have O1 := Lib.hid (ho.rows Small.nil); have B1 := Lib.hid (B.out.drew.trans (hs.mono B.out.drew.size)); have N1 := Lib.hid (RowsV.nil w2); clear ho hs)
        | (go_at_call 15; (with_reducible refine (copy_own _ [] _ N1.out (by simp)).mono ?_); rintro e w3 ⟨v2, rfl, ho, hs⟩; have O2 := Lib.hid (ho.rows Small.nil); have B2 := Lib.hid (B1.out.trans (hs.mono B1.out.size)); have O11 := Lib.hid (O1.out.below hs); clear ho hs))
    go_wp2
    go_ret2
    exact ⟨_, _, rfl, O11.out, O2.out, B2.out⟩
  · obtain ⟨n, hn⟩ : ∃ n, (fnd rs key).1 = n := ⟨_, rfl⟩
    have hnl : n ≤ rs.length := by rw [← hn]; exact fnd_le rs key
    have E := Lib.hid hn
    unfold maxLen at hcm
    have i1 : (0 : Int) ≤ (n : Int) := by omega
    have i2 : (n : Int) ≤ (cap : Int) := by omega
    have i6 : (n : Int) ≤ (rs.length : Int) := by omega
    have i7 : (rs.length : Int) ≤ (cap : Int) := by omega
    rw [hn]
    clear hv hl hn
    by_cases hcn : cap = n
    · subst hcn
      go_enter Try.func27, Try.ntmps27
      go_wp2_with fail
      refine (find_any _ rs key _ V.out.1).mono ?_
      rintro ev w1 ⟨rfl, hs⟩
      rw [E.out]
      have B : Aside (Below w.heap.size w w1) := hs
      have V1 := Lib.hid (V.out.1.below hs).drew
      clear hs
      go_wp2_with fail
      go_region_held3 (fun _ => True) (trivial)
        (first
          | (go_at_call 15; (with_reducible refine (copy_own _ (rs.take cap) _ (V1.out.takeV (k := cap) hnl) (by have := V.out.2; simp; omega)).mono ?_); rintro e w2 ⟨v1, rfl, ho, hs⟩; have O1 := Lib.hid (ho.rows (V.out.1.small.take cap)); have B1 := Lib.hid (B.out.drew.trans (hs.mono B.out.drew.size)); have V2 := Lib.hid (V1.out.below hs); clear ho hs)
          | (go_at_call 15; (with_reducible refine (copy_own _ (rs.drop cap) _ (V2.out.dropE hnl hlc) (by have := V.out.2; simp; omega)).mono ?_); rintro e w3 ⟨v2, rfl, ho, hs⟩; have O2 := Lib.hid (ho.rows (V.out.1.small.drop cap)); have B2 := Lib.hid (B1.out.trans (hs.mono B1.out.size)); have O11 := Lib.hid (O1.out.below hs); clear ho hs))
      go_wp2
      go_ret2
      exact ⟨_, _, rfl, O11.out, O2.out, B2.out⟩
    · go_enter Try.func27, Try.ntmps27
      go_wp2_with fail
      refine (find_any _ rs key _ V.out.1).mono ?_
      rintro ev w1 ⟨rfl, hs⟩
      rw [E.out]
      have B : Aside (Below w.heap.size w w1) := hs
      have V1 := Lib.hid (V.out.1.below hs).drew
      clear hs
      go_wp2_with fail
      go_region_held3 (fun _ => True) (trivial)
        (first
          | (go_at_call 15; (with_reducible refine (copy_own _ (rs.take n) _ (V1.out.takeV (k := n) hnl) (by have := V.out.2; simp; omega)).mono ?_); rintro e w2 ⟨v1, rfl, ho, hs⟩; have O1 := Lib.hid (ho.rows (V.out.1.small.take n)); have B1 := Lib.hid (B.out.drew.trans (hs.mono B.out.drew.size)); have V2 := Lib.hid (V1.out.below hs); clear ho hs)
          | (go_at_call 15; (with_reducible refine (copy_own _ (rs.drop n) _ (V2.out.dropV (k := n) hnl) (by have := V.out.2; simp; omega)).mono ?_); rintro e w3 ⟨v2, rfl, ho, hs⟩; have O2 := Lib.hid (ho.rows (V.out.1.small.drop n)); have B2 := Lib.hid (B1.out.trans (hs.mono B1.out.size)); have O11 := Lib.hid (O1.out.below hs); clear ho hs))
      go_wp2
      go_ret2
      exact ⟨_, _, rfl, O11.out, O2.out, B2.out⟩
end Go.Proofs.Ytaaikmompiejdaa
