/- Package bkey's own functions, by contracts: Right, Compare, Common, Between, In. -/
import Derived.Test.YtkbfhpgcjljbbaaB2Ref
import Derived.Lib.Bytealg
namespace Go.Proofs.Ytkbfhpgcjljbbaa
open Go.RowKit

theorem right_any (a : ByteArray) (w : World) (ha : a.size ≤ maxLen) :
    Calls Try.prog 55 #[.string a] w fun ev w' => ev = .returned (.bool (rgt a.size)) ∧ w = w' := by
  unfold maxLen at ha
  by_cases h1 : 1 ≤ a.size
  · by_cases h2 : a.size ≤ 16
    · have HR := Lib.hid (show rgt a.size = true by unfold rgt; simp; omega)
      go_enter Try.func55, Try.ntmps55
      go_wp2
      go_ret
      first | exact ⟨retB HR.out.symm, rfl⟩ | exact ⟨retB (by rw [HR.out]; simp; omega), rfl⟩
    · have HR := Lib.hid (show rgt a.size = false by unfold rgt; simp; omega)
      go_enter Try.func55, Try.ntmps55
      go_wp2
      go_ret
      first | exact ⟨retB HR.out.symm, rfl⟩ | exact ⟨retB (by rw [HR.out]; simp; omega), rfl⟩
  · have HR := Lib.hid (show rgt a.size = false by unfold rgt; simp; omega)
    go_enter Try.func55, Try.ntmps55
    go_wp2
    go_ret
    first | exact ⟨retB HR.out.symm, rfl⟩ | exact ⟨retB (by rw [HR.out]; simp; omega), rfl⟩

/-- the library's comparison is the document's order -/
theorem cmpB_eq : ∀ a b : List UInt8, Lib.compareBytes a b = cmp a b
  | [], [] => rfl
  | [], _ :: _ => rfl
  | _ :: _, [] => rfl
  | x :: a, y :: b => by
    have ih := cmpB_eq a b
    unfold Lib.compareBytes
    unfold cmp
    rw [bef_cons, bef_cons]
    by_cases e : x = y
    · subst e
      have hlt : ¬ x < x := UInt8.lt_irrefl x
      rw [if_neg hlt, if_neg hlt, if_pos rfl, if_pos rfl, ih]
      rfl
    · rw [if_neg e, if_neg (fun h : y = x => e h.symm)]
      by_cases hlt : x < y
      · have h1 : x.toNat < y.toNat := UInt8.lt_iff_toNat_lt.1 hlt
        rw [if_pos hlt, if_pos (decide_eq_true h1)]
      · have h1 : ¬ x.toNat < y.toNat := fun h => hlt (UInt8.lt_iff_toNat_lt.2 h)
        have h2 : y < x := UInt8.lt_of_le_of_ne (UInt8.not_lt.1 hlt) (fun h => e h.symm)
        have h3 : y.toNat < x.toNat := UInt8.lt_iff_toNat_lt.1 h2
        rw [if_neg hlt, if_pos h2, if_neg (by simpa using h1), if_pos (decide_eq_true h3)]

theorem x_cmpstring (args : Array Value) (w : World) : (callFunc 70 args).run Try.prog w = ((Extern.BytealgCompare.compare args).run Try.prog w).andThen fun v w' => .ok (.value v) w' :=
  run_callFunc_extern (e := Extern.BytealgCompare.compare) Try.func70 (by kernel_rfl) (by kernel_rfl) (by kernel_rfl) (by kernel_rfl) args w
theorem compareString_any (a b : ByteArray) (w : World) :
    Calls Try.prog 69 #[.string a, .string b] w fun ev w' => ev = .returned (.int .i64 (cmp a.data.toList b.data.toList)) ∧ w = w' := by
  have hx := x_cmpstring
  have hc := @Lib.run_compareString Try.prog
  have he := cmpB_eq a.data.toList b.data.toList
  go_enter Try.func69, Try.ntmps69
  go_wp2
  go_ret
  exact ⟨by first | rfl | rw [he], rfl⟩
theorem stringsCompare_any (a b : ByteArray) (w : World) :
    Calls Try.prog 66 #[.string a, .string b] w fun ev w' => ev = .returned (.int .i64 (cmp a.data.toList b.data.toList)) ∧ w = w' := by
  go_enter Try.func66, Try.ntmps66
  go_wp2_with fail
  refine (compareString_any a b _).mono ?_
  rintro ev w1 ⟨rfl, rfl⟩
  go_wp2
  go_ret
  exact ⟨rfl, rfl⟩
theorem compare_any (a b : ByteArray) (w : World) :
    Calls Try.prog 56 #[.string a, .string b] w fun ev w' => ev = .returned (.int .i64 (cmp a.data.toList b.data.toList)) ∧ w = w' := by
  go_enter Try.func56, Try.ntmps56
  go_wp2_with fail
  refine (stringsCompare_any a b _).mono ?_
  rintro ev w1 ⟨rfl, rfl⟩
  go_wp2
  go_ret
  exact ⟨rfl, rfl⟩

theorem com_at (a b : List UInt8) (k : Nat) (ht : a.take k = b.take k) (ha : k ≤ a.length) (hb : k ≤ b.length) : com a b = k + com (a.drop k) (b.drop k) := by
  induction k generalizing a b with
  | zero => simp
  | succ k ih =>
    cases a with
    | nil => simp at ha
    | cons x a =>
      cases b with
      | nil => simp at hb
      | cons y b =>
        simp at ht ha hb
        show (if x = y then com a b + 1 else 0) = _
        rw [if_pos ht.1, ih a b ht.2 ha hb]
        simp; omega
theorem inside_any (low high key : ByteArray) (unb : Bool) (w : World) :
    Calls Try.prog 59 #[.string low, .string high, .bool unb, .string key] w fun ev w' => ev = .returned (.bool (inn low.data.toList high.data.toList unb key.data.toList)) ∧ w = w' := by
  have hlo : decide (0 ≤ cmp key.data.toList low.data.toList) = !bef key.data.toList low.data.toList := by
    have := cmp_neg_iff key.data.toList low.data.toList
    cases h : bef key.data.toList low.data.toList with
    | true => have h1 := this.2 h; simp; omega
    | false => rw [h] at this; simp at this; simp; omega
  have hhi : decide (cmp key.data.toList high.data.toList < 0) = bef key.data.toList high.data.toList := by
    have := cmp_neg_iff key.data.toList high.data.toList
    cases h : bef key.data.toList high.data.toList with
    | true => have h1 := this.2 h; simp; omega
    | false => rw [h] at this; simp at this; simp; omega
  have R : Aside (inn low.data.toList high.data.toList unb key.data.toList = (decide (0 ≤ cmp key.data.toList low.data.toList) && (unb || decide (cmp key.data.toList high.data.toList < 0)))) := by
    show _ = _
    rw [hlo, hhi]; rfl
  clear hlo hhi
  obtain ⟨x, hx⟩ : ∃ x, cmp key.data.toList low.data.toList = x := ⟨_, rfl⟩
  obtain ⟨y, hy⟩ : ∃ y, cmp key.data.toList high.data.toList = y := ⟨_, rfl⟩
  rw [hx, hy] at R
  have X : Aside (cmp key.data.toList low.data.toList = x ∧ cmp key.data.toList high.data.toList = y) := ⟨hx, hy⟩
  clear hx hy
  by_cases h1 : 0 ≤ x
  · cases unb with
    | true =>
      go_enter Try.func59, Try.ntmps59
      go_wp2_with fail
      refine (compare_any key low _).mono ?_
      rintro ev w1 ⟨rfl, rfl⟩
      rw [X.out.1]
      go_wp2
      go_ret
      exact ⟨retB (by rw [R.out]; simp [h1]), rfl⟩
    | false =>
      go_enter Try.func59, Try.ntmps59
      go_wp2_with fail
      refine (compare_any key low _).mono ?_
      rintro ev w1 ⟨rfl, rfl⟩
      rw [X.out.1]
      go_wp2_with fail
      refine (compare_any key high _).mono ?_
      rintro ev w1 ⟨rfl, rfl⟩
      rw [X.out.2]
      go_wp2
      go_ret
      exact ⟨retB (by rw [R.out]; simp [h1]), rfl⟩
  · have E : Aside (inn low.data.toList high.data.toList unb key.data.toList = false) := by show _ = _; rw [R.out, decide_eq_false h1]; rfl
    go_enter Try.func59, Try.ntmps59
    go_wp2_with fail
    refine (compare_any key low _).mono ?_
    rintro ev w1 ⟨rfl, rfl⟩
    rw [X.out.1]
    go_wp2
    go_ret
    exact ⟨retB E.out.symm, rfl⟩
end Go.Proofs.Ytkbfhpgcjljbbaa
