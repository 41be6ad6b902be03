/- Package rows' own functions (layer 3), by contracts: Find. -/
import Derived.Test.YtkbfhpgcjljbbaaDoorB2Ref
import Derived.Lib.Bytealg
import Derived.Test.YtkbfhpgcjljbbaaDoorRwC
namespace Go.Proofs.YtkbfhpgcjljbbaaDoor
open Go.RowKit

theorem right_any (a : ByteArray) (w : World) (ha : a.size ≤ maxLen) :
    Calls Tryd.prog 55 #[.string a] w fun ev w' => ev = .returned (.bool (rgt a.size)) ∧ w = w' := by
  unfold maxLen at ha
  by_cases h1 : 1 ≤ a.size
  · by_cases h2 : a.size ≤ 16
    · have HR := Lib.hid (show rgt a.size = true by unfold rgt; simp; omega)
      go_enter Tryd.func55, Tryd.ntmps55
      go_wp2
      go_ret
      first | exact ⟨retB HR.out.symm, rfl⟩ | exact ⟨retB (by rw [HR.out]; simp; omega), rfl⟩
    · have HR := Lib.hid (show rgt a.size = false by unfold rgt; simp; omega)
      go_enter Tryd.func55, Tryd.ntmps55
      go_wp2
      go_ret
      first | exact ⟨retB HR.out.symm, rfl⟩ | exact ⟨retB (by rw [HR.out]; simp; omega), rfl⟩
  · have HR := Lib.hid (show rgt a.size = false by unfold rgt; simp; omega)
    go_enter Tryd.func55, Tryd.ntmps55
    go_wp2
    go_ret
    first | exact ⟨retB HR.out.symm, rfl⟩ | exact ⟨retB (by rw [HR.out]; simp; omega), rfl⟩

/-- the library's comparison is the document's order -/
theorem cmpB_eq : ∀ a b : List UInt8, Lib.compareBytes a b = cmp a b
  | [], [] => rfl
  | [], _ :: _ => rfl
  | _ :: _, [] => rfl
  | x :: a, y :: b => by
    have ih := cmpB_eq a b
    unfold Lib.compareBytes
    unfold cmp
    rw [bef_cons, bef_cons]
    by_cases e : x = y
    · subst e
      have hlt : ¬ x < x := UInt8.lt_irrefl x
      rw [if_neg hlt, if_neg hlt, if_pos rfl, if_pos rfl, ih]
      rfl
    · rw [if_neg e, if_neg (fun h : y = x => e h.symm)]
      by_cases hlt : x < y
      · have h1 : x.toNat < y.toNat := UInt8.lt_iff_toNat_lt.1 hlt
        rw [if_pos hlt, if_pos (decide_eq_true h1)]
      · have h1 : ¬ x.toNat < y.toNat := fun h => hlt (UInt8.lt_iff_toNat_lt.2 h)
        have h2 : y < x := UInt8.lt_of_le_of_ne (UInt8.not_lt.1 hlt) (fun h => e h.symm)
        have h3 : y.toNat < x.toNat := UInt8.lt_iff_toNat_lt.1 h2
        rw [if_neg hlt, if_pos h2, if_neg (by simpa using h1), if_pos (decide_eq_true h3)]

theorem x_cmpstring (args : Array Value) (w : World) : (callFunc 63 args).run Tryd.prog w = ((Extern.BytealgCompare.compare args).run Tryd.prog w).andThen fun v w' => .ok (.value v) w' :=
  run_callFunc_extern (e := Extern.BytealgCompare.compare) Tryd.func63 (by kernel_rfl) (by kernel_rfl) (by kernel_rfl) (by kernel_rfl) args w
theorem compareString_any (a b : ByteArray) (w : World) :
    Calls Tryd.prog 62 #[.string a, .string b] w fun ev w' => ev = .returned (.int .i64 (cmp a.data.toList b.data.toList)) ∧ w = w' := by
  have hx := x_cmpstring
  have hc := @Lib.run_compareString Tryd.prog
  have he := cmpB_eq a.data.toList b.data.toList
  go_enter Tryd.func62, Tryd.ntmps62
  go_wp2
  go_ret
  exact ⟨by first | rfl | rw [he], rfl⟩
theorem stringsCompare_any (a b : ByteArray) (w : World) :
    Calls Tryd.prog 61 #[.string a, .string b] w fun ev w' => ev = .returned (.int .i64 (cmp a.data.toList b.data.toList)) ∧ w = w' := by
  go_enter Tryd.func61, Tryd.ntmps61
  go_wp2_with fail
  refine (compareString_any a b _).mono ?_
  rintro ev w1 ⟨rfl, rfl⟩
  go_wp2
  go_ret
  exact ⟨rfl, rfl⟩
theorem compare_any (a b : ByteArray) (w : World) :
    Calls Tryd.prog 56 #[.string a, .string b] w fun ev w' => ev = .returned (.int .i64 (cmp a.data.toList b.data.toList)) ∧ w = w' := by
  go_enter Tryd.func56, Tryd.ntmps56
  go_wp2_with fail
  refine (stringsCompare_any a b _).mono ?_
  rintro ev w1 ⟨rfl, rfl⟩
  go_wp2
  go_ret
  exact ⟨rfl, rfl⟩

theorem com_at (a b : List UInt8) (k : Nat) (ht : a.take k = b.take k) (ha : k ≤ a.length) (hb : k ≤ b.length) : com a b = k + com (a.drop k) (b.drop k) := by
  induction k generalizing a b with
  | zero => simp
  | succ k ih =>
    cases a with
    | nil => simp at ha
    | cons x a =>
      cases b with
      | nil => simp at hb
      | cons y b =>
        simp at ht ha hb
        show (if x = y then com a b + 1 else 0) = _
        rw [if_pos ht.1, ih a b ht.2 ha hb]
        simp; omega
open Go.RowKit

def nilS : Value := .slice none 0 0
/-- of rows of a call's own: what RwC asks of a copy -/
theorem OwnR.fresh {base : Nat} {w : World} {v : Value} {rs : List Rw} (h : OwnR base w v rs) (hs : Small rs) : FreshV base w v rs := by
  refine ⟨h.rows hs, fun hne => ?_⟩
  have h0 := h
  obtain ⟨_, h⟩ := h
  rcases h with ⟨rfl, hz⟩ | ⟨g, cap, cur, rfl, hb, hg, hn, hm, hz, ht⟩
  · exact absurd (List.eq_nil_of_length_eq_zero hz) hne
  · exact ⟨g, 0, cap, rfl, hb, fun j _ => World.ownsRow.frozenAt h0 _⟩

/-- one list, laid in a block of its own -/
theorem cell_new (w : World) (cs : Array Value) (ty : TypeId) (j : Nat) : (w.alloc (.cells cs ty)).cell? ⟨w.heap.size, j, none⟩ = cs[j]? := World.cell?_alloc_at _ _ _ _ rfl
open Go.RowKit

theorem cmp_lt {a b : List UInt8} (h : bef a b = true) : cmp a b < 0 := (cmp_neg_iff a b).2 h
theorem cmp_ge {a b : List UInt8} (h : bef a b = false) : 0 ≤ cmp a b := by
  rcases Int.lt_or_le (cmp a b) 0 with h' | h'
  · rw [(cmp_neg_iff _ _).1 h'] at h; cases h
  · exact h'
theorem cmp_eqB (a b : ByteArray) : (cmp a.data.toList b.data.toList == 0) = eqB a b := by
  rw [Bool.eq_iff_iff, beq_iff_eq, cmp_zero, eqB_iff]
  constructor
  · intro h
    obtain ⟨⟨a⟩⟩ := a
    obtain ⟨⟨b⟩⟩ := b
    simp at h
    rw [h]
  · rintro rfl; rfl
end Go.Proofs.YtkbfhpgcjljbbaaDoor
