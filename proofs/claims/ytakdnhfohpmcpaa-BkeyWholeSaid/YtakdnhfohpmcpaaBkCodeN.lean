/- Package bkey's own functions, by contracts: lastBelowTop (a goto back to a label), Next, In; and with them the bundle. -/
import Derived.Test.YtakdnhfohpmcpaaBkCode
import Derived.WalkMore
import Derived.ScopeJumps
namespace Go.Proofs.Ytakdnhfohpmcpaa
open Go.RowKit

/-- of the first n bytes the place of the last one that is below 255; -1 where there is none -/
def lowAt (a : ByteArray) : Nat → Int
  | 0 => -1
  | n + 1 => if (a.data.toList.getD n 0).toNat < 255 then n else lowAt a n
theorem lowAt_bd (a : ByteArray) : ∀ n, -1 ≤ lowAt a n ∧ lowAt a n < n
  | 0 => by unfold lowAt; omega
  | n + 1 => by
    have := lowAt_bd a n
    unfold lowAt
    split <;> omega
theorem lowAt_none (a : ByteArray) : ∀ n, nxtAt a n = none → lowAt a n = -1
  | 0, _ => rfl
  | n + 1, h => by
    unfold nxtAt at h
    unfold lowAt
    by_cases hx : (a.data.toList.getD n 0).toNat < 255
    · rw [if_pos hx] at h; cases h
    · rw [if_neg hx] at h ⊢; exact lowAt_none a n h
theorem lowAt_some (a : ByteArray) : ∀ n s, n ≤ a.size → nxtAt a n = some s → ∃ (i : Nat) (h : i < a.size), lowAt a n = i ∧ i < n ∧ a[i].toNat < 255 ∧ s = a.extract 0 i ++ ⟨#[a[i] + 1]⟩
  | 0, _, _, h => by cases h
  | n + 1, s, hn, h => by
    unfold nxtAt at h
    unfold lowAt
    have e : a.data.toList.getD n 0 = a[n]'(by omega) := by
      have hlt : n < a.data.toList.length := by simpa using Nat.lt_of_succ_le hn
      rw [List.getD, List.getElem?_eq_getElem hlt]; rfl
    rw [e] at h ⊢
    by_cases hx : (a[n]'(by omega)).toNat < 255
    · rw [if_pos hx] at h ⊢
      obtain rfl := Option.some.inj h
      exact ⟨n, by omega, rfl, by omega, hx, rfl⟩
    · rw [if_neg hx] at h ⊢
      obtain ⟨i, hi, h1, h2, h3, h4⟩ := lowAt_some a n s (by omega) h
      exact ⟨i, hi, h1, by omega, h3, h4⟩
theorem byte_at (a : ByteArray) (k : Nat) (h : k < a.size) : a.data.toList.getD k 0 = a[k] := by
  have hlt : k < a.data.toList.length := by simpa using h
  rw [List.getD, List.getElem?_eq_getElem hlt]; rfl
def intOf : Value → Int | .int _ q => q | _ => 0
set_option maxRecDepth 1000000 in
set_option maxHeartbeats 2000000 in
theorem last_any (a : ByteArray) (w : World) (ha : a.size ≤ maxLen) :
    Calls Try.prog 31 #[.string a] w fun ev w' => ev = .returned (.int .i64 (lowAt a a.size)) ∧ w = w' := by
  unfold maxLen at ha
  go_enter Try.func31, Try.ntmps31
  go_wp2
  refine wp_scope_jumps 0 (fun a' w' => w' = w ∧ ∃ (k : Nat) (u4 u5 u6 u7 u8 u9 u10 u11 u12 u13 u14 u15 : Value), a' = { tmps := #[.string a, undef, .int .i64 0, .int .i64 k, u4, u5, u6, u7, u8, u9, u10, u11, u12, u13, u14, u15, undef], defers := [] } ∧ lowAt a k = lowAt a a.size ∧ k ≤ a.size) (fun a' _ => (intOf (a'.tmps.getD 3 undef)).toNat) rfl ?_ ?_
  · go_wp2
    go_step3
    obtain ⟨n, hn⟩ : ∃ n, a.size = n := ⟨_, rfl⟩
    rw [hn]
    cases n with
    | zero =>
      have L : Aside (lowAt a a.size = -1) := by show _ = _; rw [hn]; rfl
      go_wp2
      simp only [Exit.jump]
      go_ret
      exact ⟨retI L.out.symm, rfl⟩
    | succ k =>
      have e1 : (((k + 1 : Nat) : Int)) = (k : Int) + 1 := rfl
      rw [e1]
      clear e1
      have hka : k < a.size := by omega
      have D := byte_at a k hka
      by_cases hb : a[k].toNat < 255
      · have hne : ((a[k].toNat : Int) == 255) = false := by simp; omega
        have L : Aside (lowAt a a.size = k) := by show _ = _; rw [hn, lowAt, D, if_pos hb]
        clear D
        go_wp2
        simp only [Exit.jump]
        go_ret
        exact ⟨retI L.out.symm, rfl⟩
      · have hne : ((a[k].toNat : Int) == 255) = true := by have := a[k].toNat_lt; simp; omega
        have L : Aside (lowAt a k = lowAt a a.size) := by show _ = _; rw [hn, lowAt, D, if_neg hb]
        clear D
        go_wp2
        go_step3
        exact ⟨rfl, rfl, k, _, _, _, _, _, _, _, _, _, _, _, _, rfl, L.out, by omega⟩
  · rintro a' w' ⟨rfl, n, u4, u5, u6, u7, u8, u9, u10, u11, u12, u13, u14, u15, rfl, hl, hn⟩
    cases n with
    | zero =>
      have L : Aside (lowAt a a.size = -1) := by show _ = _; rw [← hl]; rfl
      clear hl
      go_wp2
      simp only [Exit.jump]
      go_ret
      exact ⟨retI L.out.symm, rfl⟩
    | succ k =>
      have e1 : (((k + 1 : Nat) : Int)) = (k : Int) + 1 := rfl
      have M : Aside ((intOf (.int .i64 ((k : Int) + 1))).toNat = k + 1) := by show (((k : Int) + 1).toNat = k + 1); omega
      rw [e1]
      clear e1
      have hka : k < a.size := by omega
      have D := byte_at a k hka
      by_cases hb : a[k].toNat < 255
      · have hne : ((a[k].toNat : Int) == 255) = false := by simp; omega
        have L : Aside (lowAt a a.size = k) := by show _ = _; rw [← hl, lowAt, D, if_pos hb]
        clear D hl
        go_wp2
        simp only [Exit.jump]
        go_ret
        exact ⟨retI L.out.symm, rfl⟩
      · have hne : ((a[k].toNat : Int) == 255) = true := by have := a[k].toNat_lt; simp; omega
        have L : Aside (lowAt a k = lowAt a a.size) := by show _ = _; rw [← hl, lowAt, D, if_neg hb]
        clear D hl
        go_wp2
        go_step3
        refine ⟨rfl, ⟨rfl, k, _, _, _, _, _, _, _, _, _, _, _, _, rfl, L.out, by omega⟩, ?_⟩
        simp [intOf]
end Go.Proofs.Ytakdnhfohpmcpaa
