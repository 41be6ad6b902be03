/- Package rows' own functions (layer 3), by contracts: Drop, Put. -/
import Derived.Test.YtkbfhpgcjljbbaaRwCut
namespace Go.Proofs.Ytkbfhpgcjljbbaa
open Go.RowKit

theorem behind_at (i m : Nat) (t : Bool) (w : World) (hi : i ≤ 10000) (h : i + (if t then 1 else 0) = m) :
    Calls Try.prog 68 #[.int .i64 (i : Int), .bool t] w fun ev w' => ev = .returned (.int .i64 (m : Int)) ∧ Below w.heap.size w w' := by
  subst h
  exact stillR (behind_any i t w hi)
theorem behind_zero (w : World) : Calls Try.prog 68 #[.int .i64 0, .bool false] w fun ev w' => ev = .returned (.int .i64 0) ∧ Below w.heap.size w w' := behind_at 0 0 false w (by omega) rfl
theorem dropR_eqs {rs : List Rw} {key : ByteArray} {n m : Nat} {t : Bool} (hn : (fnd rs key).1 = n) (ht : (fnd rs key).2 = t) (hm : n + (if t then 1 else 0) = m) : dropR rs key = rs.take n ++ rs.drop m := by
  unfold dropR
  rw [ht, hn, ← hm]
  cases t with
  | true => rfl
  | false => simp
theorem right_one (k x : ByteArray) : rightB [(k, x)] = fitB (k, x) := by unfold rightB; simp [rightFrom]
set_option maxRecDepth 100000 in
set_option maxHeartbeats 4000000 in
theorem drop_any (v : Value) (rs : List Rw) (key : ByteArray) (w : World) (hv : RowsV w v rs) (hl : rs.length ≤ 1000) :
    Calls Try.prog 64 #[v, .string key] w fun ev w' => ∃ v', ev = .returned (.tuple #[v', .bool (fnd rs key).2]) ∧ RowsV w' v' (dropR rs key) ∧ Below w.heap.size w w' := by
  have V : Aside (RowsV w v rs ∧ rs.length ≤ 1000) := ⟨hv, hl⟩
  rcases hv.form with ⟨rfl, rfl⟩ | ⟨b, off, cap, rfl, hlc, hcm, -⟩
  · clear hv hl
    have e1 : (fnd [] key) = (0, false) := rfl
    go_enter Try.func64, Try.ntmps64
    go_wp2_with fail
    refine (find_any _ [] key _ V.out.1).mono ?_
    rintro ev w1 ⟨rfl, hs⟩
    rw [e1]
    have B : Aside (Below w.heap.size w w1) := hs
    clear hs e1
    go_wp2_with fail
    go_region_held3 (fun _ => True) (trivial)
      (first
        | (go_at_call 68; (with_reducible refine (behind_zero _).mono ?_); rintro e w2 ⟨rfl, hs⟩; have B1 := Lib.hid (B.out.drew.trans (hs.mono B.out.drew.size)); clear hs)
        | (go_at_call 63; (with_reducible refine (concat2 w2 _ rfl _ _ [] [] (RowsV.nil _) (RowsV.nil _) (by simp)).mono ?_); rintro e w3 ⟨v2, rfl, ho, hs⟩; have O2 := Lib.hid (ho.rows Small.nil); have B2 := Lib.hid (B1.out.trans (hs.mono B1.out.size)); clear ho hs))
    go_wp2
    go_ret2
    exact ⟨_, rfl, O2.out, B2.out⟩
  · obtain ⟨n, hn⟩ : ∃ n, (fnd rs key).1 = n := ⟨_, rfl⟩
    obtain ⟨t, ht⟩ : ∃ t, (fnd rs key).2 = t := ⟨_, rfl⟩
    obtain ⟨m, hm⟩ : ∃ m, n + (if t then 1 else 0) = m := ⟨_, rfl⟩
    have hnl : n ≤ rs.length := by rw [← hn]; exact fnd_le rs key
    have hnm : n ≤ m := by omega
    have hml : m ≤ rs.length := by
      cases t with
      | false => simp at hm; omega
      | true => have := (fnd_there rs key ht).1; simp at hm; omega
    have E := Lib.hid (show (fnd rs key).1 = n ∧ (fnd rs key).2 = t ∧ n + (if t then 1 else 0) = m ∧ dropR rs key = rs.take n ++ rs.drop m from ⟨hn, ht, hm, dropR_eqs hn ht hm⟩)
    unfold maxLen at hcm
    have i1 : (0 : Int) ≤ (n : Int) := by omega
    have i2 : (n : Int) ≤ (cap : Int) := by omega
    have i3 : (0 : Int) ≤ (m : Int) := by omega
    have i4 : (m : Int) ≤ (cap : Int) := by omega
    have i5 : (m : Int) ≤ (rs.length : Int) := by omega
    have i6 : (n : Int) ≤ (rs.length : Int) := by omega
    have i7 : (rs.length : Int) ≤ (cap : Int) := by omega
    rw [ht]
    clear hv hl hn ht hm
    by_cases hcn : cap = m
    · subst hcn
      go_enter Try.func64, Try.ntmps64
      go_wp2_with fail
      refine (find_any _ rs key _ V.out.1).mono ?_
      rintro ev w1 ⟨rfl, hs⟩
      rw [E.out.1, E.out.2.1]
      have B : Aside (Below w.heap.size w w1) := hs
      have V1 := Lib.hid (V.out.1.below hs).drew
      clear hs
      go_wp2_with fail
      go_region_held3 (fun _ => True) (trivial)
        (first
          | (go_at_call 68; (with_reducible refine (behind_at n cap t _ (by have := V.out.2; omega) E.out.2.2.1).mono ?_); rintro e w2 ⟨rfl, hs⟩; have B1 := Lib.hid (B.out.drew.trans (hs.mono B.out.drew.size)); have V2 := Lib.hid (V1.out.below hs); clear hs)
          | (go_at_call 63; (with_reducible refine (concat2 w2 _ rfl _ _ (rs.take n) (rs.drop cap) (V2.out.takeV (k := n) hnl) (V2.out.dropE hml hlc) (by have := V.out.2; simp; omega)).mono ?_); rintro e w3 ⟨v2, rfl, ho, hs⟩; have O2 := Lib.hid (ho.rows ((V.out.1.small.take n).append (V.out.1.small.drop cap))); have B2 := Lib.hid (B1.out.trans (hs.mono B1.out.size)); clear ho hs))
      go_wp2
      go_ret2
      exact ⟨_, rfl, by rw [E.out.2.2.2]; exact O2.out, B2.out⟩
    · go_enter Try.func64, Try.ntmps64
      go_wp2_with fail
      refine (find_any _ rs key _ V.out.1).mono ?_
      rintro ev w1 ⟨rfl, hs⟩
      rw [E.out.1, E.out.2.1]
      have B : Aside (Below w.heap.size w w1) := hs
      have V1 := Lib.hid (V.out.1.below hs).drew
      clear hs
      go_wp2_with fail
      go_region_held3 (fun _ => True) (trivial)
        (first
          | (go_at_call 68; (with_reducible refine (behind_at n m t _ (by have := V.out.2; omega) E.out.2.2.1).mono ?_); rintro e w2 ⟨rfl, hs⟩; have B1 := Lib.hid (B.out.drew.trans (hs.mono B.out.drew.size)); have V2 := Lib.hid (V1.out.below hs); clear hs)
          | (go_at_call 63; (with_reducible refine (concat2 w2 _ rfl _ _ (rs.take n) (rs.drop m) (V2.out.takeV (k := n) hnl) (V2.out.dropV (k := m) hml) (by have := V.out.2; simp; omega)).mono ?_); rintro e w3 ⟨v2, rfl, ho, hs⟩; have O2 := Lib.hid (ho.rows ((V.out.1.small.take n).append (V.out.1.small.drop m))); have B2 := Lib.hid (B1.out.trans (hs.mono B1.out.size)); clear ho hs))
      go_wp2
      go_ret2
      exact ⟨_, rfl, by rw [E.out.2.2.2]; exact O2.out, B2.out⟩
set_option maxRecDepth 100000 in
set_option maxHeartbeats 4000000 in
theorem putNo_any (v : Value) (k x : ByteArray) (w : World) (hk : k.size ≤ maxLen) (hx : x.size ≤ maxLen) (hf : fitB (k, x) = false) :
    Calls Try.prog 65 #[v, .agg #[.string k, .string x]] w fun ev w' => ∃ v', ev = .returned (.tuple #[v', .bool false, .iface 67 (.int .i64 1)]) ∧ RowsV w' v' [] ∧ Below w.heap.size w w' := by
  have hnot : ∀ (x : Bool) (w : World), (Op.unary .not (.bool x)).run Try.prog w = .ok (.bool (!x)) w := fun _ _ => rfl
  have R1 := Lib.hid (RowsV.one (w.alloc (.cells #[.string k, .string x] 48)) (w.heap.size + 1) (by simp) k x hk hx)
  have B1 := Lib.hid ((alloc_below0 w (.cells #[.string k, .string x] 48)).trans ((alloc_below0 (w.alloc (.cells #[.string k, .string x] 48)) (.cells #[.string k, .string x] 48)).mono (alloc_below0 w _).size))
  have F := Lib.hid hf
  clear hk hx hf
  go_enter Try.func65, Try.ntmps65
  go_wp2_with fail
  refine (rowsRight_any _ [(k, x)] _ R1.out).mono ?_
  rintro ev w2 ⟨rfl, hs⟩
  rw [right_one, F.out]
  have B2 := Lib.hid (B1.out.trans (hs.mono B1.out.size))
  have N2 := Lib.hid (RowsV.nil w2)
  clear hs
  go_wp2
  go_ret3
  exact ⟨_, rfl, N2.out, B2.out⟩
set_option maxRecDepth 100000 in
set_option maxHeartbeats 4000000 in
theorem put_any (v : Value) (rs : List Rw) (k x : ByteArray) (w : World) (hv : RowsV w v rs) (hl : rs.length ≤ 1000) (hk : k.size ≤ maxLen) (hx : x.size ≤ maxLen) (hf : fitB (k, x) = true) :
    Calls Try.prog 65 #[v, .agg #[.string k, .string x]] w fun ev w' => ∃ v', ev = .returned (.tuple #[v', .bool (fnd rs k).2, .nilIface]) ∧ RowsV w' v' (putR rs (k, x)) ∧ Below w.heap.size w w' := by
  have hnot : ∀ (x : Bool) (w : World), (Op.unary .not (.bool x)).run Try.prog w = .ok (.bool (!x)) w := fun _ _ => rfl
  have R1 := Lib.hid (RowsV.one (w.alloc (.cells #[.string k, .string x] 48)) (w.heap.size + 1) (by simp) k x hk hx)
  have P1 := Lib.hid ((PB.new k x w 48).step (alloc_below0 _ (.cells #[.string k, .string x] 48)))
  have B1 := Lib.hid ((alloc_below0 w (.cells #[.string k, .string x] 48)).trans ((alloc_below0 (w.alloc (.cells #[.string k, .string x] 48)) (.cells #[.string k, .string x] 48)).mono (alloc_below0 w _).size))
  have F := Lib.hid hf
  have V : Aside (RowsV ((w.alloc (.cells #[.string k, .string x] 48)).alloc (.cells #[.string k, .string x] 48)) v rs ∧ rs.length ≤ 1000 ∧ Small rs ∧ k.size ≤ maxLen ∧ x.size ≤ maxLen) := ⟨(hv.alloc _).alloc _, hl, hv.small, hk, hx⟩
  clear hf hk hx
  rcases hv.form with ⟨rfl, rfl⟩ | ⟨b, off, cap, rfl, hlc, hcm, -⟩
  · clear hv hl
    have e1 : (fnd [] k) = (0, false) := rfl
    go_enter Try.func65, Try.ntmps65
    go_wp2_with fail
    refine (rowsRight_any _ [(k, x)] _ R1.out).mono ?_
    rintro ev w2 ⟨rfl, hs⟩
    rw [right_one, F.out]
    have B2 := Lib.hid (B1.out.trans (hs.mono B1.out.size))
    have R2 := Lib.hid (R1.out.below hs)
    have P2 := Lib.hid (P1.out.step hs)
    have V2 := Lib.hid (V.out.1.below hs)
    clear hs
    have q0 := P2.out.c0
    have q1 := P2.out.c1
    go_wp2_with fail
    refine (find_any _ [] k _ V2.out).mono ?_
    rintro ev w3 ⟨rfl, hs⟩
    rw [e1]
    have B3 := Lib.hid (B2.out.trans (hs.mono B2.out.size)).drew
    have R3 := Lib.hid (R2.out.below hs).drew
    have V3 := Lib.hid (V2.out.below hs).drew
    clear hs q0 q1
    go_wp2_with fail
    go_region_held3 (fun _ => True) (trivial)
      (first
        | (go_at_call 68; (with_reducible refine (behind_zero _).mono ?_); rintro e w4 ⟨rfl, hs⟩; have B4 := Lib.hid (B3.out.trans (hs.mono B3.out.size)); have R4 := Lib.hid (R3.out.below hs); have V4 := Lib.hid (V3.out.below hs); clear hs)
        | (go_at_call 63; (with_reducible refine (concat3 w4 _ rfl _ _ _ [] [(k, x)] [] (RowsV.nil _) R4.out (RowsV.nil _) (by have := V.out.2.1; simp; try omega)).mono ?_); rintro e w5 ⟨v2, rfl, ho, hs⟩; have O5 := Lib.hid (ho.rows (Small.cons V.out.2.2.2.1 V.out.2.2.2.2 Small.nil)); have B5 := Lib.hid (B4.out.trans (hs.mono B4.out.size)); clear ho hs))
    go_wp2
    go_ret3
    exact ⟨_, rfl, O5.out, B5.out⟩
  · obtain ⟨n, hn⟩ : ∃ n, (fnd rs k).1 = n := ⟨_, rfl⟩
    obtain ⟨t, ht⟩ : ∃ t, (fnd rs k).2 = t := ⟨_, rfl⟩
    obtain ⟨m, hm⟩ : ∃ m, n + (if t then 1 else 0) = m := ⟨_, rfl⟩
    have hnl : n ≤ rs.length := by rw [← hn]; exact fnd_le rs k
    have hnm : n ≤ m := by omega
    have hml : m ≤ rs.length := by
      cases t with
      | false => simp at hm; omega
      | true => have := (fnd_there rs k ht).1; simp at hm; omega
    have E := Lib.hid (show (fnd rs k).1 = n ∧ (fnd rs k).2 = t ∧ n + (if t then 1 else 0) = m ∧ putR rs (k, x) = rs.take n ++ ([(k, x)] ++ rs.drop m) from ⟨hn, ht, hm, by unfold putR; rw [ht, hn, hm]; simp⟩)
    unfold maxLen at hcm
    have i1 : (0 : Int) ≤ (n : Int) := by omega
    have i2 : (n : Int) ≤ (cap : Int) := by omega
    have i3 : (0 : Int) ≤ (m : Int) := by omega
    have i4 : (m : Int) ≤ (cap : Int) := by omega
    have i5 : (m : Int) ≤ (rs.length : Int) := by omega
    have i6 : (n : Int) ≤ (rs.length : Int) := by omega
    have i7 : (rs.length : Int) ≤ (cap : Int) := by omega
    rw [ht]
    clear hv hl hn ht hm
    by_cases hcn : cap = m
    · subst hcn
      go_enter Try.func65, Try.ntmps65
      go_wp2_with fail
      refine (rowsRight_any _ [(k, x)] _ R1.out).mono ?_
      rintro ev w2 ⟨rfl, hs⟩
      rw [right_one, F.out]
      have B2 := Lib.hid (B1.out.trans (hs.mono B1.out.size))
      have R2 := Lib.hid (R1.out.below hs)
      have P2 := Lib.hid (P1.out.step hs)
      have V2 := Lib.hid (V.out.1.below hs)
      clear hs
      have q0 := P2.out.c0
      have q1 := P2.out.c1
      go_wp2_with fail
      refine (find_any _ rs k _ V2.out).mono ?_
      rintro ev w3 ⟨rfl, hs⟩
      rw [E.out.1, E.out.2.1]
      have B3 := Lib.hid (B2.out.trans (hs.mono B2.out.size)).drew
      have R3 := Lib.hid (R2.out.below hs).drew
      have V3 := Lib.hid (V2.out.below hs).drew
      clear hs q0 q1
      go_wp2_with fail
      go_region_held3 (fun _ => True) (trivial)
        (first
          | (go_at_call 68; (with_reducible refine (behind_at n cap t _ (by have := V.out.2.1; omega) E.out.2.2.1).mono ?_); rintro e w4 ⟨rfl, hs⟩; have B4 := Lib.hid (B3.out.trans (hs.mono B3.out.size)); have R4 := Lib.hid (R3.out.below hs); have V4 := Lib.hid (V3.out.below hs); clear hs)
          | (go_at_call 63; (with_reducible refine (concat3 w4 _ rfl _ _ _ (rs.take n) [(k, x)] (rs.drop cap) (V4.out.takeV (k := n) hnl) R4.out (V4.out.dropE hml hlc) (by have := V.out.2.1; simp; try omega)).mono ?_); rintro e w5 ⟨v2, rfl, ho, hs⟩; have O5 := Lib.hid (ho.rows ((V.out.2.2.1.take n).append (Small.cons V.out.2.2.2.1 V.out.2.2.2.2 (V.out.2.2.1.drop cap)))); have B5 := Lib.hid (B4.out.trans (hs.mono B4.out.size)); clear ho hs))
      go_wp2
      go_ret3
      exact ⟨_, rfl, by rw [E.out.2.2.2]; exact O5.out, B5.out⟩
    · go_enter Try.func65, Try.ntmps65
      go_wp2_with fail
      refine (rowsRight_any _ [(k, x)] _ R1.out).mono ?_
      rintro ev w2 ⟨rfl, hs⟩
      rw [right_one, F.out]
      have B2 := Lib.hid (B1.out.trans (hs.mono B1.out.size))
      have R2 := Lib.hid (R1.out.below hs)
      have P2 := Lib.hid (P1.out.step hs)
      have V2 := Lib.hid (V.out.1.below hs)
      clear hs
      have q0 := P2.out.c0
      have q1 := P2.out.c1
      go_wp2_with fail
      refine (find_any _ rs k _ V2.out).mono ?_
      rintro ev w3 ⟨rfl, hs⟩
      rw [E.out.1, E.out.2.1]
      have B3 := Lib.hid (B2.out.trans (hs.mono B2.out.size)).drew
      have R3 := Lib.hid (R2.out.below hs).drew
      have V3 := Lib.hid (V2.out.below hs).drew
      clear hs q0 q1
      go_wp2_with fail
      go_region_held3 (fun _ => True) (trivial)
        (first
          | (go_at_call 68; (with_reducible refine (behind_at n m t _ (by have := V.out.2.1; omega) E.out.2.2.1).mono ?_); rintro e w4 ⟨rfl, hs⟩; have B4 := Lib.hid (B3.out.trans (hs.mono B3.out.size)); have R4 := Lib.hid (R3.out.below hs); have V4 := Lib.hid (V3.out.below hs); clear hs)
          | (go_at_call 63; (with_reducible refine (concat3 w4 _ rfl _ _ _ (rs.take n) [(k, x)] (rs.drop m) (V4.out.takeV (k := n) hnl) R4.out (V4.out.dropV (k := m) hml) (by have := V.out.2.1; simp; try omega)).mono ?_); rintro e w5 ⟨v2, rfl, ho, hs⟩; have O5 := Lib.hid (ho.rows ((V.out.2.2.1.take n).append (Small.cons V.out.2.2.2.1 V.out.2.2.2.2 (V.out.2.2.1.drop m)))); have B5 := Lib.hid (B4.out.trans (hs.mono B4.out.size)); clear ho hs))
      go_wp2
      go_ret3
      exact ⟨_, rfl, by rw [E.out.2.2.2]; exact O5.out, B5.out⟩
end Go.Proofs.Ytkbfhpgcjljbbaa
