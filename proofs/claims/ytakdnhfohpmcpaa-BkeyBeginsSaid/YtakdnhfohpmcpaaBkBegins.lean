/- The walk of the law BkeyBegins, out of bkey's contracts. -/
import Derived.Test.YtakdnhfohpmcpaaBkOrder
import Derived.Deep.RegionHeld3
namespace Go.Proofs.Ytakdnhfohpmcpaa
open Go.RowKit

set_option maxRecDepth 100000 in
set_option maxHeartbeats 8000000 in
theorem begins_core (C : BkC) (a b : ByteArray) (n : Int) (k c : Nat) (x : Int) (w : World) (ha : a.size ≤ maxLen) (hb : b.size ≤ maxLen) (hn : 0 ≤ n ∧ n ≤ 65535)
    (hk : n % ((a.size : Int) + 1) = k) (hka : k ≤ a.size)
    (hc : com a.data.toList b.data.toList = c) (hc' : com b.data.toList a.data.toList = c) (hca : c ≤ a.size) (hcb : c ≤ b.size)
    (hpre : a.extract 0 c = b.extract 0 c) (hx : cmp (a.extract 0 k).data.toList a.data.toList = x) (hy : com (a.extract 0 k).data.toList a.data.toList = k)
    (hst : k < a.size ∧ x = -1 ∨ k = a.size ∧ x = 0) :
    Calls Try.prog 9 #[.string a, .string b, .int .u16 n] w fun ev w' => ev = .returned (.bool true) ∧ Below w.heap.size w w' := by
  have hnot : ∀ (x : Bool) (w : World), (Op.unary .not (.bool x)).run Try.prog w = .ok (.bool (!x)) w := fun _ _ => rfl
  have hkm : (a.extract 0 k).size ≤ maxLen := by rw [ext_size a k hka]; omega
  have L : Aside (BkC ∧ a.size ≤ maxLen ∧ b.size ≤ maxLen ∧ (a.extract 0 k).size ≤ maxLen) := ⟨C, ha, hb, hkm⟩
  have X := Lib.hid hx
  have Y := Lib.hid hy
  have K := Lib.hid hc
  have K' := Lib.hid hc'
  have NK := Lib.hid hk
  have S := Lib.hid hst
  have g4 : ((a.extract 0 c).toList == (b.extract 0 c).toList) = true := by rw [hpre]; simp
  unfold maxLen at ha hb
  clear C hx hy hc hc' hk hst hpre hkm
  have hb0 : Aside (Below w.heap.size w (w.alloc (.cells #[.string a, .string b] 9))) := (Below.refl _ _).alloc (Nat.le_refl _) _
  go_enter Try.func9, Try.ntmps9
  go_wp2_with fail
  refine (few_of _ [a, b] _ (strsV_new w [a, b] 9 (by simp [maxLen]))).mono ?_
  rintro ev w1 ⟨rfl, rfl⟩
  cases hf : fewB [a, b] with
  | false =>
    clear hf
    go_wp2_with fail
    refine (awake_of L.out.1 _).mono ?_
    rintro ev w1 ⟨rfl, hs⟩
    have B : Aside (Below w.heap.size w w1) := hb0.out.trans (hs.mono hb0.out.size)
    clear hs
    go_wp2
    go_ret
    exact ⟨rfl, B.out⟩
  | true =>
    have hf2 : a.size ≤ 2000 := by simp [fewB] at hf; exact hf.1
    clear hf
    go_wp2_with fail
    refine (L.out.1.common a b _ L.out.2.1 L.out.2.2.1).mono ?_
    rintro ev w1 ⟨rfl, hs⟩
    rw [K.out]
    rw [NK.out]
    have B1 : Aside (Below w.heap.size w w1) := hb0.out.trans (hs.mono hb0.out.size)
    clear hs
    rcases S.out with ⟨h1, rfl⟩ | ⟨h1, rfl⟩
    · clear S
      have g5 : decide (k = a.size) = false := decide_eq_false (by omega)
      have g6 : (k == a.size) = false := by simp; omega
      have g7 : ((k : Int) == (a.size : Int)) = false := by simp; omega
      go_wp2_with fail
      go_region_held3 (fun _ => True) (first | trivial | go_keep)
        (first
          | (go_at_call 15; (with_reducible refine (L.out.1.compare (a.extract 0 k) a _ L.out.2.2.2 L.out.2.1).mono ?_); rintro e x1 ⟨rfl, hs⟩; rw [X.out]; have M1 : Aside (Below w.heap.size w x1) := B1.out.drew.trans (hs.mono B1.out.drew.size); clear hs)
          | (go_at_call 15; (with_reducible refine (L.out.1.compare (a.extract 0 k) a _ L.out.2.2.2 L.out.2.1).mono ?_); rintro e x2 ⟨rfl, hs⟩; rw [X.out]; have M2 : Aside (Below w.heap.size w x2) := M1.out.trans (hs.mono M1.out.size); clear hs)
          | (go_at_call 14; (with_reducible refine (L.out.1.common b a _ L.out.2.2.1 L.out.2.1).mono ?_); rintro e x3 ⟨rfl, hs⟩; rw [K'.out]; have M3 : Aside (Below w.heap.size w x3) := M2.out.trans (hs.mono M2.out.size); clear hs)
          | (go_at_call 14; (with_reducible refine (L.out.1.common (a.extract 0 k) a _ L.out.2.2.2 L.out.2.1).mono ?_); rintro e x4 ⟨rfl, hs⟩; rw [Y.out]; have M4 : Aside (Below w.heap.size w x4) := M3.out.trans (hs.mono M3.out.size); clear hs)
          | (go_at_call 13; (with_reducible refine (awake_of L.out.1 _).mono ?_); rintro e x5 ⟨rfl, hs⟩; have M5 : Aside (Below w.heap.size w x5) := M4.out.trans (hs.mono M4.out.size); clear hs))
      go_wp2
      go_ret
      exact ⟨rfl, M5.out⟩
    · clear S
      have g5 : decide (k = a.size) = true := decide_eq_true (by omega)
      have g6 : (k == a.size) = true := by simp; omega
      have g7 : ((k : Int) == (a.size : Int)) = true := by simp; omega
      clear h1
      go_wp2_with fail
      go_region_held3 (fun _ => True) (first | trivial | go_keep)
        (first
          | (go_at_call 15; (with_reducible refine (L.out.1.compare (a.extract 0 k) a _ L.out.2.2.2 L.out.2.1).mono ?_); rintro e x1 ⟨rfl, hs⟩; rw [X.out]; have M1 : Aside (Below w.heap.size w x1) := B1.out.drew.trans (hs.mono B1.out.drew.size); clear hs)
          | (go_at_call 15; (with_reducible refine (L.out.1.compare (a.extract 0 k) a _ L.out.2.2.2 L.out.2.1).mono ?_); rintro e x2 ⟨rfl, hs⟩; rw [X.out]; have M2 : Aside (Below w.heap.size w x2) := M1.out.trans (hs.mono M1.out.size); clear hs)
          | (go_at_call 14; (with_reducible refine (L.out.1.common b a _ L.out.2.2.1 L.out.2.1).mono ?_); rintro e x3 ⟨rfl, hs⟩; rw [K'.out]; have M3 : Aside (Below w.heap.size w x3) := M2.out.trans (hs.mono M2.out.size); clear hs)
          | (go_at_call 14; (with_reducible refine (L.out.1.common (a.extract 0 k) a _ L.out.2.2.2 L.out.2.1).mono ?_); rintro e x4 ⟨rfl, hs⟩; rw [Y.out]; have M4 : Aside (Below w.heap.size w x4) := M3.out.trans (hs.mono M3.out.size); clear hs)
          | (go_at_call 13; (with_reducible refine (awake_of L.out.1 _).mono ?_); rintro e x5 ⟨rfl, hs⟩; have M5 : Aside (Below w.heap.size w x5) := M4.out.trans (hs.mono M4.out.size); clear hs))
      go_wp2
      go_ret
      exact ⟨rfl, M5.out⟩
theorem com_pre : ∀ (l : List UInt8) (k : Nat), k ≤ l.length → com (l.take k) l = k
  | _, 0, _ => by simp [com]
  | [], k + 1, h => by simp at h
  | x :: l, k + 1, h => by
    show (if x = x then com (l.take k) l + 1 else 0) = k + 1
    rw [if_pos rfl, com_pre l k (by simpa using h)]
theorem lawBegins (C : BkC) (a b : ByteArray) (n : Int) (w : World) (ha : a.size ≤ maxLen) (hb : b.size ≤ maxLen) (hn : 0 ≤ n ∧ n ≤ 65535) :
    Calls Try.prog 9 #[.string a, .string b, .int .u16 n] w fun ev w' => ev = .returned (.bool true) ∧ Below w.heap.size w w' := by
  have h1 : com a.data.toList b.data.toList ≤ a.size := by simpa using com_le_left a.data.toList b.data.toList
  have h2 : com a.data.toList b.data.toList ≤ b.size := by simpa using com_le_right a.data.toList b.data.toList
  obtain ⟨k, hk⟩ : ∃ k : Nat, n % ((a.size : Int) + 1) = k := ⟨(n % ((a.size : Int) + 1)).toNat, by have := Int.emod_nonneg n (b := (a.size : Int) + 1) (by omega); omega⟩
  have hka : k ≤ a.size := by have := Int.emod_lt_of_pos n (b := (a.size : Int) + 1) (by omega); omega
  have hkl : k ≤ a.data.toList.length := by simpa using hka
  refine begins_core C a b n k _ _ w ha hb hn hk hka rfl (com_comm _ _) h1 h2 (ext_com a b) rfl (by rw [ext_take]; exact com_pre _ _ hkl) ?_
  rw [ext_take]
  rcases Nat.lt_or_ge k a.size with h | h
  · refine .inl ⟨h, ?_⟩
    unfold cmp
    rw [take_bef _ _ (by simpa using h)]; rfl
  · have e : k = a.size := by omega
    refine .inr ⟨e, ?_⟩
    rw [List.take_of_length_le (by simp; omega)]
    exact cmp_self _
end Go.Proofs.Ytakdnhfohpmcpaa
