/- Package bkey's own functions, by contracts: Right, Compare, Common, Between, In. -/
import Derived.Test.YtaaikmompiejdaaB2Ref
import Derived.Lib.Bytealg
namespace Go.Proofs.Ytaaikmompiejdaa
open Go.RowKit

theorem right_any (a : ByteArray) (w : World) (ha : a.size ≤ maxLen) :
    Calls Try.prog 36 #[.string a] w fun ev w' => ev = .returned (.bool (rgt a.size)) ∧ w = w' := by
  unfold maxLen at ha
  by_cases h1 : 1 ≤ a.size
  · by_cases h2 : a.size ≤ 16
    · have HR := Lib.hid (show rgt a.size = true by unfold rgt; simp; omega)
      go_enter Try.func36, Try.ntmps36
      go_wp2
      go_ret
      first | exact ⟨retB HR.out.symm, rfl⟩ | exact ⟨retB (by rw [HR.out]; simp; omega), rfl⟩
    · have HR := Lib.hid (show rgt a.size = false by unfold rgt; simp; omega)
      go_enter Try.func36, Try.ntmps36
      go_wp2
      go_ret
      first | exact ⟨retB HR.out.symm, rfl⟩ | exact ⟨retB (by rw [HR.out]; simp; omega), rfl⟩
  · have HR := Lib.hid (show rgt a.size = false by unfold rgt; simp; omega)
    go_enter Try.func36, Try.ntmps36
    go_wp2
    go_ret
    first | exact ⟨retB HR.out.symm, rfl⟩ | exact ⟨retB (by rw [HR.out]; simp; omega), rfl⟩

/-- the library's comparison is the document's order -/
theorem cmpB_eq : ∀ a b : List UInt8, Lib.compareBytes a b = cmp a b
  | [], [] => rfl
  | [], _ :: _ => rfl
  | _ :: _, [] => rfl
  | x :: a, y :: b => by
    have ih := cmpB_eq a b
    unfold Lib.compareBytes
    unfold cmp
    rw [bef_cons, bef_cons]
    by_cases e : x = y
    · subst e
      have hlt : ¬ x < x := UInt8.lt_irrefl x
      rw [if_neg hlt, if_neg hlt, if_pos rfl, if_pos rfl, ih]
      rfl
    · rw [if_neg e, if_neg (fun h : y = x => e h.symm)]
      by_cases hlt : x < y
      · have h1 : x.toNat < y.toNat := UInt8.lt_iff_toNat_lt.1 hlt
        rw [if_pos hlt, if_pos (decide_eq_true h1)]
      · have h1 : ¬ x.toNat < y.toNat := fun h => hlt (UInt8.lt_iff_toNat_lt.2 h)
        have h2 : y < x := UInt8.lt_of_le_of_ne (UInt8.not_lt.1 hlt) (fun h => e h.symm)
        have h3 : y.toNat < x.toNat := UInt8.lt_iff_toNat_lt.1 h2
        rw [if_neg hlt, if_pos h2, if_neg (by simpa using h1), if_pos (decide_eq_true h3)]

theorem x_cmpstring (args : Array Value) (w : World) : (callFunc 50 args).run Try.prog w = ((Extern.BytealgCompare.compare args).run Try.prog w).andThen fun v w' => .ok (.value v) w' :=
  run_callFunc_extern (e := Extern.BytealgCompare.compare) Try.func50 (by kernel_rfl) (by kernel_rfl) (by kernel_rfl) (by kernel_rfl) args w
theorem compareString_any (a b : ByteArray) (w : World) :
    Calls Try.prog 49 #[.string a, .string b] w fun ev w' => ev = .returned (.int .i64 (cmp a.data.toList b.data.toList)) ∧ w = w' := by
  have hx := x_cmpstring
  have hc := @Lib.run_compareString Try.prog
  have he := cmpB_eq a.data.toList b.data.toList
  go_enter Try.func49, Try.ntmps49
  go_wp2
  go_ret
  exact ⟨by first | rfl | rw [he], rfl⟩
theorem stringsCompare_any (a b : ByteArray) (w : World) :
    Calls Try.prog 44 #[.string a, .string b] w fun ev w' => ev = .returned (.int .i64 (cmp a.data.toList b.data.toList)) ∧ w = w' := by
  go_enter Try.func44, Try.ntmps44
  go_wp2_with fail
  refine (compareString_any a b _).mono ?_
  rintro ev w1 ⟨rfl, rfl⟩
  go_wp2
  go_ret
  exact ⟨rfl, rfl⟩
theorem compare_any (a b : ByteArray) (w : World) :
    Calls Try.prog 31 #[.string a, .string b] w fun ev w' => ev = .returned (.int .i64 (cmp a.data.toList b.data.toList)) ∧ w = w' := by
  go_enter Try.func31, Try.ntmps31
  go_wp2_with fail
  refine (stringsCompare_any a b _).mono ?_
  rintro ev w1 ⟨rfl, rfl⟩
  go_wp2
  go_ret
  exact ⟨rfl, rfl⟩

theorem com_at (a b : List UInt8) (k : Nat) (ht : a.take k = b.take k) (ha : k ≤ a.length) (hb : k ≤ b.length) : com a b = k + com (a.drop k) (b.drop k) := by
  induction k generalizing a b with
  | zero => simp
  | succ k ih =>
    cases a with
    | nil => simp at ha
    | cons x a =>
      cases b with
      | nil => simp at hb
      | cons y b =>
        simp at ht ha hb
        show (if x = y then com a b + 1 else 0) = _
        rw [if_pos ht.1, ih a b ht.2 ha hb]
        simp; omega
set_option maxHeartbeats 2000000 in
theorem common_any (a b : ByteArray) (w : World) (ha : a.size ≤ maxLen) (_hb : b.size ≤ maxLen) :
    Calls Try.prog 48 #[.string a, .string b] w fun ev w' => ev = .returned (.int .i64 (com a.data.toList b.data.toList)) ∧ Below w.heap.size w w' := by
  unfold maxLen at ha _hb
  obtain ⟨m, hm, hma, hmb, hmm⟩ : ∃ m : Nat, (if (b.size : Int) < (a.size : Int) then (b.size : Int) else (a.size : Int)) = (m : Int) ∧ m ≤ a.size ∧ m ≤ b.size ∧ (m = a.size ∨ m = b.size) := by
    by_cases h : (b.size : Int) < (a.size : Int)
    · exact ⟨b.size, by rw [if_pos h], by omega, by omega, .inr rfl⟩
    · exact ⟨a.size, by rw [if_neg h], by omega, by omega, .inl rfl⟩
  have hmin : ∀ (w : World) (ts : Array TypeId) (t : TypeId), (Builtin.min_ ts t #[.int .i64 (a.size : Int), .int .i64 (b.size : Int)]).run Try.prog w = .ok (.int .i64 (m : Int)) w := fun w ts t => by
    rw [run_min_int2, hm]
  go_enter Try.func48, Try.ntmps48
  go_wp2
  go_loopg [13] m (fun n i wr => ∃ k : Nat, k + n = m ∧ i = .int .i64 k ∧ a.data.toList.take k = b.data.toList.take k ∧ Below w.heap.size w wr)
  case atStart => exact ⟨0, by omega, rfl, by simp, Below.refl _ _⟩
  case round =>
    obtain ⟨k, hk, rfl, ht, hB⟩ := hrel
    have hd := com_at a.data.toList b.data.toList k ht (by simp; omega) (by simp; omega)
    have A : Aside (a.data.toList.take k = b.data.toList.take k ∧ com a.data.toList b.data.toList = k + com (a.data.toList.drop k) (b.data.toList.drop k) ∧ Below w.heap.size w wr ∧ k + gk = m ∧ (m = a.size ∨ m = b.size)) := ⟨ht, hd, hB, hk, hmm⟩
    clear ht hd hB
    by_cases hkm : k < m
    · have hka : k < a.size := by omega
      have hkb : k < b.size := by omega
      have hda : a.data.toList.drop k = a[k] :: a.data.toList.drop (k + 1) := List.drop_eq_getElem_cons (by simpa using hka)
      have hdb : b.data.toList.drop k = b[k] :: b.data.toList.drop (k + 1) := List.drop_eq_getElem_cons (by simpa using hkb)
      have hta : a.data.toList.take (k + 1) = a.data.toList.take k ++ [a[k]] := by rw [List.take_succ_eq_append_getElem (by simpa using hka)]; rfl
      have htb : b.data.toList.take (k + 1) = b.data.toList.take k ++ [b[k]] := by rw [List.take_succ_eq_append_getElem (by simpa using hkb)]; rfl
      have D : Aside ((¬ a[k] = b[k] → com a.data.toList b.data.toList = k) ∧ (a[k] = b[k] → a.data.toList.take (k + 1) = b.data.toList.take (k + 1))) :=
        ⟨fun he => by rw [A.out.2.1, hda, hdb]; show k + (if a[k] = b[k] then _ else 0) = k; rw [if_neg he]; omega, fun he => by rw [hta, htb, A.out.1, he]⟩
      clear hda hdb hta htb hmm hm
      by_cases he : a[k] = b[k]
      · have E := Lib.hid he
        have hne : ((a[k].toNat : Int) != (b[k].toNat : Int)) = false := by rw [he]; simp
        clear hk he
        go_wp2
        go_quiet (fail)
        go_wp2
        go_roundg (m - (k + 1))
        case measure => have := A.out.2.2.2; omega
        case rel => exact ⟨k + 1, by omega, by go_num, D.out.2 E.out, below_drewN A.out.2.2.1 _⟩
      · have hne : ((a[k].toNat : Int) != (b[k].toNat : Int)) = true := by
          rw [bne_iff_ne]; intro e; exact u8_ne he (by omega)
        have E := Lib.hid he
        clear hk he
        go_wp2
        go_quiet (fail)
        go_wp2
        go_ret
        exact ⟨retI (by rw [D.out.1 E.out]), below_drewN A.out.2.2.1 _⟩
    · have D : Aside (com a.data.toList b.data.toList = m) := by
        show _ = _
        have e : k = m := by omega
        subst e
        rw [A.out.2.1]
        rcases A.out.2.2.2.2 with h | h
        · rw [List.drop_of_length_le (by simp; omega)]; simp [com]
        · rw [List.drop_of_length_le (l := b.data.toList) (by simp; omega)]; cases List.drop k a.data.toList <;> simp [com]
      clear hmm hm
      go_wp2
      go_ret
      exact ⟨retI (by rw [D.out]), A.out.2.2.1⟩

theorem between_no (a b : ByteArray) (w : World) (h : bef a.data.toList b.data.toList = false) :
    Calls Try.prog 42 #[.string a, .string b] w fun ev w' => ev = .returned (.tuple #[.string ⟨#[]⟩, .iface 40 (.int .i64 1)]) ∧ Below w.heap.size w w' := by
  have h0 : 0 ≤ cmp a.data.toList b.data.toList := by
    rcases Int.lt_or_le (cmp a.data.toList b.data.toList) 0 with h' | h'
    · rw [(cmp_neg_iff _ _).1 h'] at h; cases h
    · exact h'
  clear h
  go_enter Try.func42, Try.ntmps42
  go_wp2_with fail
  refine (compare_any a b _).mono ?_
  rintro ev w1 ⟨rfl, rfl⟩
  generalize cmp a.data.toList b.data.toList = c at *
  go_wp2
  go_ret2
  exact ⟨rfl, Below.refl _ _⟩
theorem between_yes (a b : ByteArray) (w : World) (ha : a.size ≤ maxLen) (hb : b.size ≤ maxLen) (h : bef a.data.toList b.data.toList = true) :
    Calls Try.prog 42 #[.string a, .string b] w fun ev w' => ev = .returned (.tuple #[.string (btw a b), .nilIface]) ∧ Below w.heap.size w w' := by
  have h0 : cmp a.data.toList b.data.toList < 0 := (cmp_neg_iff _ _).2 h
  obtain ⟨n, hn, hlt⟩ : ∃ n : Nat, com a.data.toList b.data.toList = n ∧ n < b.size := ⟨_, rfl, by simpa using com_lt_of_bef _ _ h⟩
  have L : Aside (a.size ≤ maxLen ∧ b.size ≤ maxLen ∧ com a.data.toList b.data.toList = n ∧ btw a b = b.extract 0 (n + 1)) := ⟨ha, hb, hn, by rw [← hn]; rfl⟩
  unfold maxLen at hb
  clear h ha hn
  go_enter Try.func42, Try.ntmps42
  go_wp2_with fail
  refine (compare_any a b _).mono ?_
  rintro ev w1 ⟨rfl, rfl⟩
  generalize cmp a.data.toList b.data.toList = c at *
  go_wp2_with fail
  refine (common_any a b _ L.out.1 L.out.2.1).mono ?_
  rintro ev w2 ⟨rfl, hs⟩
  rw [L.out.2.2.1]
  have B : Aside (Below w.heap.size w w2) := hs
  clear hs
  go_wp2
  go_ret2
  exact ⟨by rw [L.out.2.2.2]; rfl, B.out⟩
theorem inside_any (low high key : ByteArray) (unb : Bool) (w : World) :
    Calls Try.prog 46 #[.string low, .string high, .bool unb, .string key] w fun ev w' => ev = .returned (.bool (inn low.data.toList high.data.toList unb key.data.toList)) ∧ w = w' := by
  have hlo : decide (0 ≤ cmp key.data.toList low.data.toList) = !bef key.data.toList low.data.toList := by
    have := cmp_neg_iff key.data.toList low.data.toList
    cases h : bef key.data.toList low.data.toList with
    | true => have h1 := this.2 h; simp; omega
    | false => rw [h] at this; simp at this; simp; omega
  have hhi : decide (cmp key.data.toList high.data.toList < 0) = bef key.data.toList high.data.toList := by
    have := cmp_neg_iff key.data.toList high.data.toList
    cases h : bef key.data.toList high.data.toList with
    | true => have h1 := this.2 h; simp; omega
    | false => rw [h] at this; simp at this; simp; omega
  have R : Aside (inn low.data.toList high.data.toList unb key.data.toList = (decide (0 ≤ cmp key.data.toList low.data.toList) && (unb || decide (cmp key.data.toList high.data.toList < 0)))) := by
    show _ = _
    rw [hlo, hhi]; rfl
  clear hlo hhi
  obtain ⟨x, hx⟩ : ∃ x, cmp key.data.toList low.data.toList = x := ⟨_, rfl⟩
  obtain ⟨y, hy⟩ : ∃ y, cmp key.data.toList high.data.toList = y := ⟨_, rfl⟩
  rw [hx, hy] at R
  have X : Aside (cmp key.data.toList low.data.toList = x ∧ cmp key.data.toList high.data.toList = y) := ⟨hx, hy⟩
  clear hx hy
  by_cases h1 : 0 ≤ x
  · cases unb with
    | true =>
      go_enter Try.func46, Try.ntmps46
      go_wp2_with fail
      refine (compare_any key low _).mono ?_
      rintro ev w1 ⟨rfl, rfl⟩
      rw [X.out.1]
      go_wp2
      go_ret
      exact ⟨retB (by rw [R.out]; simp [h1]), rfl⟩
    | false =>
      go_enter Try.func46, Try.ntmps46
      go_wp2_with fail
      refine (compare_any key low _).mono ?_
      rintro ev w1 ⟨rfl, rfl⟩
      rw [X.out.1]
      go_wp2_with fail
      refine (compare_any key high _).mono ?_
      rintro ev w1 ⟨rfl, rfl⟩
      rw [X.out.2]
      go_wp2
      go_ret
      exact ⟨retB (by rw [R.out]; simp [h1]), rfl⟩
  · have E : Aside (inn low.data.toList high.data.toList unb key.data.toList = false) := by show _ = _; rw [R.out, decide_eq_false h1]; rfl
    go_enter Try.func46, Try.ntmps46
    go_wp2_with fail
    refine (compare_any key low _).mono ?_
    rintro ev w1 ⟨rfl, rfl⟩
    rw [X.out.1]
    go_wp2
    go_ret
    exact ⟨retB E.out.symm, rfl⟩
end Go.Proofs.Ytaaikmompiejdaa
