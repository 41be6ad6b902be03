/- Package bkey's own functions, by contracts: Next, In; and with them the bundle. -/
import Derived.Test.YtakdnhfohpmcpaaBkCodeN
namespace Go.Proofs.Ytakdnhfohpmcpaa
open Go.RowKit

theorem next_arg0 (a : ByteArray) (w : World) (ha : a.size ≤ maxLen) (hr : rgt a.size = false) :
    Calls Try.prog 22 #[.string a] w fun ev w' => ev = .returned (.tuple #[.string ⟨#[]⟩, .iface 35 (.int .i64 1)]) ∧ Below w.heap.size w w' := by
  have hnot : ∀ (x : Bool) (w : World), (Op.unary .not (.bool x)).run Try.prog w = .ok (.bool (!x)) w := fun _ _ => rfl
  go_enter Try.func22, Try.ntmps22
  go_wp2_with fail
  refine (right_any a _ ha).mono ?_
  rintro ev w1 ⟨rfl, rfl⟩
  rw [hr]
  go_wp2
  go_ret2
  exact ⟨rfl, Below.refl _ _⟩
theorem next_short (a : ByteArray) (w : World) (h0 : 0 < a.size) (h16 : a.size < 16) :
    Calls Try.prog 22 #[.string a] w fun ev w' => ev = .returned (.tuple #[.string (a ++ ⟨#[0]⟩), .nilIface]) ∧ Below w.heap.size w w' := by
  have hnot : ∀ (x : Bool) (w : World), (Op.unary .not (.bool x)).run Try.prog w = .ok (.bool (!x)) w := fun _ _ => rfl
  have hr : rgt a.size = true := by unfold rgt; simp; omega
  have ha : a.size ≤ maxLen := by unfold maxLen; omega
  go_enter Try.func22, Try.ntmps22
  go_wp2_with fail
  refine (right_any a _ ha).mono ?_
  rintro ev w1 ⟨rfl, rfl⟩
  rw [hr]
  clear hr ha
  go_wp2
  go_ret2
  exact ⟨rfl, Below.refl _ _⟩
theorem next_none0 (a : ByteArray) (w : World) (h16 : a.size = 16) (hn : nxtAt a 16 = none) :
    Calls Try.prog 22 #[.string a] w fun ev w' => ev = .returned (.tuple #[.string ⟨#[]⟩, .iface 35 (.int .i64 6)]) ∧ Below w.heap.size w w' := by
  have hnot : ∀ (x : Bool) (w : World), (Op.unary .not (.bool x)).run Try.prog w = .ok (.bool (!x)) w := fun _ _ => rfl
  have hr : rgt a.size = true := by rw [h16]; rfl
  have ha : a.size ≤ maxLen := by unfold maxLen; omega
  have hl : lowAt a a.size = -1 := by rw [h16]; exact lowAt_none a 16 hn
  have H : Aside (a.size ≤ maxLen ∧ lowAt a a.size = -1) := ⟨ha, hl⟩
  have h3 : ¬ a.size < 16 := by omega
  clear hl hn h16
  go_enter Try.func22, Try.ntmps22
  go_wp2_with fail
  refine (right_any a _ ha).mono ?_
  rintro ev w1 ⟨rfl, rfl⟩
  rw [hr]
  clear hr ha
  go_wp2_with fail
  refine (last_any a _ H.out.1).mono ?_
  rintro ev w1 ⟨rfl, rfl⟩
  rw [H.out.2]
  go_wp2
  go_ret2
  exact ⟨rfl, Below.refl _ _⟩
set_option maxRecDepth 100000 in
set_option maxHeartbeats 4000000 in
theorem next_long0 (a s : ByteArray) (w : World) (h16 : a.size = 16) (hn : nxtAt a 16 = some s) :
    Calls Try.prog 22 #[.string a] w fun ev w' => ev = .returned (.tuple #[.string s, .nilIface]) ∧ Below w.heap.size w w' := by
  have hnot : ∀ (x : Bool) (w : World), (Op.unary .not (.bool x)).run Try.prog w = .ok (.bool (!x)) w := fun _ _ => rfl
  have hr : rgt a.size = true := by rw [h16]; rfl
  have ha : a.size ≤ maxLen := by unfold maxLen; omega
  obtain ⟨k, hka, hl, hk16, hlt, rfl⟩ := lowAt_some a 16 s (by omega) hn
  have H : Aside (a.size ≤ maxLen ∧ lowAt a a.size = k ∧ a.size = 16) := ⟨ha, by rw [h16]; exact hl, h16⟩
  have h3 : ¬ a.size < 16 := by omega
  have h4 : a.size < 17 := by omega
  clear hl hn h16
  go_enter Try.func22, Try.ntmps22
  go_wp2_with fail
  refine (right_any a _ ha).mono ?_
  rintro ev w1 ⟨rfl, rfl⟩
  rw [hr]
  clear hr ha
  go_wp2_with fail
  refine (last_any a _ H.out.1).mono ?_
  rintro ev w1 ⟨rfl, rfl⟩
  rw [H.out.2.1]
  have hcv := fun (W : World) (h : W.cell? ⟨w.heap.size, 0, none⟩ = some (.int .u8 ((a[k].toNat : Int) + 1))) => conv1 w.heap.size _ W h
  go_wp2
  go_region
  go_wp2
  go_ret2
  refine ⟨rfl, ?_⟩
  first | exact ((Below.refl _ _).alloc (Nat.le_refl _) _).drew | exact (Below.refl _ _).drew.alloc (Nat.le_refl _) _ | exact below_drewN ((Below.refl _ _).alloc (Nat.le_refl _) _) _
theorem inside_any (low high key : ByteArray) (unb : Bool) (w : World) :
    Calls Try.prog 24 #[.string low, .string high, .bool unb, .string key] w fun ev w' => ev = .returned (.bool (inn low.data.toList high.data.toList unb key.data.toList)) ∧ w = w' := by
  have hlo : decide (0 ≤ cmp key.data.toList low.data.toList) = !bef key.data.toList low.data.toList := by
    have := cmp_neg_iff key.data.toList low.data.toList
    cases h : bef key.data.toList low.data.toList with
    | true => have h1 := this.2 h; simp; omega
    | false => rw [h] at this; simp at this; simp; omega
  have hhi : decide (cmp key.data.toList high.data.toList < 0) = bef key.data.toList high.data.toList := by
    have := cmp_neg_iff key.data.toList high.data.toList
    cases h : bef key.data.toList high.data.toList with
    | true => have h1 := this.2 h; simp; omega
    | false => rw [h] at this; simp at this; simp; omega
  have R : Aside (inn low.data.toList high.data.toList unb key.data.toList = (decide (0 ≤ cmp key.data.toList low.data.toList) && (unb || decide (cmp key.data.toList high.data.toList < 0)))) := by
    show _ = _
    rw [hlo, hhi]; rfl
  clear hlo hhi
  obtain ⟨x, hx⟩ : ∃ x, cmp key.data.toList low.data.toList = x := ⟨_, rfl⟩
  obtain ⟨y, hy⟩ : ∃ y, cmp key.data.toList high.data.toList = y := ⟨_, rfl⟩
  rw [hx, hy] at R
  have X : Aside (cmp key.data.toList low.data.toList = x ∧ cmp key.data.toList high.data.toList = y) := ⟨hx, hy⟩
  clear hx hy
  by_cases h1 : 0 ≤ x
  · cases unb with
    | true =>
      go_enter Try.func24, Try.ntmps24
      go_wp2_with fail
      refine (compare_any key low _).mono ?_
      rintro ev w1 ⟨rfl, rfl⟩
      rw [X.out.1]
      go_wp2
      go_ret
      exact ⟨retB (by rw [R.out]; simp [h1]), rfl⟩
    | false =>
      go_enter Try.func24, Try.ntmps24
      go_wp2_with fail
      refine (compare_any key low _).mono ?_
      rintro ev w1 ⟨rfl, rfl⟩
      rw [X.out.1]
      go_wp2_with fail
      refine (compare_any key high _).mono ?_
      rintro ev w1 ⟨rfl, rfl⟩
      rw [X.out.2]
      go_wp2
      go_ret
      exact ⟨retB (by rw [R.out]; simp [h1]), rfl⟩
  · have E : Aside (inn low.data.toList high.data.toList unb key.data.toList = false) := by show _ = _; rw [R.out, decide_eq_false h1]; rfl
    go_enter Try.func24, Try.ntmps24
    go_wp2_with fail
    refine (compare_any key low _).mono ?_
    rintro ev w1 ⟨rfl, rfl⟩
    rw [X.out.1]
    go_wp2
    go_ret
    exact ⟨retB E.out.symm, rfl⟩

theorem still {P : Program} {id : FuncId} {args : Array Value} {w : World} {E : Ending → Prop} (h : Calls P id args w fun ev w' => E ev ∧ w = w') :
    Calls P id args w fun ev w' => E ev ∧ Below w.heap.size w w' := h.mono fun _ _ ⟨h1, h2⟩ => ⟨h1, h2 ▸ Below.refl _ _⟩
theorem bkc : BkC where
  right a w ha := still (right_any a w ha)
  common a b w ha hb := common_any a b w ha hb
  compare a b w _ _ := still (compare_any a b w)
  betweenYes a b w ha hb h := between_yes a b w ha hb h
  betweenNo a b w _ _ h := between_no a b w h
  nextArg a w ha h := next_arg0 a w ha h
  nextShort a w h0 h := next_short a w h0 h
  nextLong a s w h hn := next_long0 a s w h hn
  nextNone a w h hn := next_none0 a w h hn
  inside low high key unb w _ _ _ := still (inside_any low high key unb w)
end Go.Proofs.Ytakdnhfohpmcpaa
