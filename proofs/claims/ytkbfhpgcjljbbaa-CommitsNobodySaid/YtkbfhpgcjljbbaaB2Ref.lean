/- The document's own functions on texts (layer 2), by contracts: Before, Right, In, Between give what the plain functions on lists of bytes give. -/
import Derived.Test.YtkbfhpgcjljbbaaBkMath
import Derived.Test.YtkbfhpgcjljbbaaProg
import Derived.Deep.LoopGhost
import Derived.Deep.QuietTactic
import Derived.BigQuiet
import Derived.WalkSmall
import Derived.Lib.Hide
import Derived.RegionTactic
namespace Go.Proofs.Ytkbfhpgcjljbbaa
open Go.RowKit

theorem retB {a b : Bool} (h : a = b) : Ending.returned (.bool a) = .returned (.bool b) := by rw [h]
theorem retI {k : IntKind} {a b : Int} (h : a = b) : Ending.returned (.int k a) = .returned (.int k b) := by rw [h]

set_option maxHeartbeats 2000000 in
theorem refBefore_any (a b : ByteArray) (w : World) (ha : a.size ≤ maxLen) (_hb : b.size ≤ maxLen) :
    Calls Try.prog 38 #[.string a, .string b] w fun ev w' => ev = .returned (.bool (bef a.data.toList b.data.toList)) ∧ Below w.heap.size w w' := by
  unfold maxLen at ha _hb
  go_enter Try.func38, Try.ntmps38
  go_wp2
  go_loopg [5] b.size (fun n i wr => ∃ k : Nat, k + n = b.size ∧ k ≤ a.size ∧ i = .int .i64 k ∧ a.data.toList.take k = b.data.toList.take k ∧ Below w.heap.size w wr)
  case atStart => exact ⟨0, by omega, by omega, rfl, by simp, Below.refl _ _⟩
  case round =>
    obtain ⟨k, hk, hka, rfl, ht, hB⟩ := hrel
    have hd := bef_drop a.data.toList b.data.toList k ht (by simpa using hka) (by simp; omega)
    have A : Aside (a.data.toList.take k = b.data.toList.take k ∧ bef a.data.toList b.data.toList = bef (a.data.toList.drop k) (b.data.toList.drop k) ∧ Below w.heap.size w wr ∧ k + gk = b.size) := ⟨ht, hd, hB, hk⟩
    clear ht hd hB
    by_cases hkb : k < b.size
    · by_cases hka2 : k < a.size
      · have hda : a.data.toList.drop k = a[k] :: a.data.toList.drop (k + 1) := List.drop_eq_getElem_cons (by simpa using hka2)
        have hdb : b.data.toList.drop k = b[k] :: b.data.toList.drop (k + 1) := List.drop_eq_getElem_cons (by simpa using hkb)
        have hta : a.data.toList.take (k + 1) = a.data.toList.take k ++ [a[k]] := by rw [List.take_succ_eq_append_getElem (by simpa using hka2)]; rfl
        have htb : b.data.toList.take (k + 1) = b.data.toList.take k ++ [b[k]] := by rw [List.take_succ_eq_append_getElem (by simpa using hkb)]; rfl
        have D : Aside (bef a.data.toList b.data.toList = (if a[k] = b[k] then bef (a.data.toList.drop (k + 1)) (b.data.toList.drop (k + 1)) else decide (a[k].toNat < b[k].toNat)) ∧ (a[k] = b[k] → a.data.toList.take (k + 1) = b.data.toList.take (k + 1))) :=
          ⟨by rw [A.out.2.1, hda, hdb, bef_cons], fun he => by rw [hta, htb, A.out.1, he]⟩
        clear hda hdb hta htb
        by_cases he : a[k] = b[k]
        · have E := Lib.hid he
          have hne : ((a[k].toNat : Int) != (b[k].toNat : Int)) = false := by rw [he]; simp
          clear hk he
          go_wp2
          go_quiet (fail)
          go_wp2
          go_roundg (b.size - (k + 1))
          case measure => have := A.out.2.2.2; omega
          case rel => exact ⟨k + 1, by omega, by omega, by go_num, D.out.2 E.out, below_drewN A.out.2.2.1 _⟩
        · have hne : ((a[k].toNat : Int) != (b[k].toNat : Int)) = true := by
            rw [bne_iff_ne]; intro e; exact u8_ne he (by omega)
          have E := Lib.hid he
          clear hk he
          go_wp2
          go_quiet (fail)
          go_wp2
          go_quiet (fail)
          go_wp2
          go_ret
          exact ⟨retB (by rw [D.out.1, if_neg E.out]), below_drewN (below_drewN A.out.2.2.1 _) _⟩
      · obtain rfl : k = a.size := by omega
        clear hk
        have D : Aside (bef a.data.toList b.data.toList = true) := by
          show _ = _
          rw [A.out.2.1, List.drop_of_length_le (by simp), nil_bef]
          simp; omega
        go_wp2
        go_ret
        exact ⟨retB D.out.symm, A.out.2.2.1⟩
    · obtain rfl : k = b.size := by omega
      clear hk
      have D : Aside (bef a.data.toList b.data.toList = false) := by
        show _ = _
        rw [A.out.2.1, List.drop_of_length_le (l := b.data.toList) (by simp), bef_nil]
      go_wp2
      go_ret
      exact ⟨retB D.out.symm, A.out.2.2.1⟩

/-- may a text of n bytes be a key? -/
def rgt (n : Nat) : Bool := decide (0 < n) && decide (n < 17)
theorem refRight_any (a : ByteArray) (w : World) (ha : a.size ≤ maxLen) :
    Calls Try.prog 54 #[.string a] w fun ev w' => ev = .returned (.bool (rgt a.size)) ∧ w = w' := by
  unfold maxLen at ha
  by_cases h1 : 0 < a.size
  · by_cases h2 : a.size < 17
    · have HR := Lib.hid (show rgt a.size = true by unfold rgt; simp; omega)
      go_enter Try.func54, Try.ntmps54
      go_wp2
      go_ret
      first | exact ⟨retB HR.out.symm, rfl⟩ | exact ⟨retB (by rw [HR.out]; simp; omega), rfl⟩
    · have HR := Lib.hid (show rgt a.size = false by unfold rgt; simp; omega)
      go_enter Try.func54, Try.ntmps54
      go_wp2
      go_ret
      first | exact ⟨retB HR.out.symm, rfl⟩ | exact ⟨retB (by rw [HR.out]; simp; omega), rfl⟩
  · have HR := Lib.hid (show rgt a.size = false by unfold rgt; simp; omega)
    go_enter Try.func54, Try.ntmps54
    go_wp2
    go_ret
    first | exact ⟨retB HR.out.symm, rfl⟩ | exact ⟨retB (by rw [HR.out]; simp; omega), rfl⟩

/-- is key in the span? -/
def inn (low high : List UInt8) (unb : Bool) (key : List UInt8) : Bool := !bef key low && (unb || bef key high)
theorem refIn_any (low high key : ByteArray) (unb : Bool) (w : World) (hl : low.size ≤ maxLen) (hh : high.size ≤ maxLen) (hk : key.size ≤ maxLen) :
    Calls Try.prog 24 #[.string low, .string high, .bool unb, .string key] w fun ev w' => ev = .returned (.bool (inn low.data.toList high.data.toList unb key.data.toList)) ∧ Below w.heap.size w w' := by
  have A : Aside (low.size ≤ maxLen ∧ high.size ≤ maxLen ∧ key.size ≤ maxLen) := ⟨hl, hh, hk⟩
  have hnot : ∀ (x : Bool) (w : World), (Op.unary .not (.bool x)).run Try.prog w = .ok (.bool (!x)) w := fun _ _ => rfl
  clear hl hh hk
  cases h1 : bef key.data.toList low.data.toList with
  | true =>
    have H := Lib.hid h1
    clear h1
    go_enter Try.func24, Try.ntmps24
    go_wp2_with fail
    refine (refBefore_any key low _ A.out.2.2 A.out.1).mono ?_
    rintro ev w1 ⟨rfl, hs⟩
    rw [H.out]
    have B : Aside (Below _ _ _) := hs
    clear hs
    go_wp2
    go_ret
    exact ⟨retB (by unfold inn; rw [H.out]; rfl), B.out⟩
  | false =>
    have H := Lib.hid h1
    clear h1
    cases unb with
    | true =>
      go_enter Try.func24, Try.ntmps24
      go_wp2_with fail
      refine (refBefore_any key low _ A.out.2.2 A.out.1).mono ?_
      rintro ev w1 ⟨rfl, hs⟩
      rw [H.out]
      have B : Aside (Below _ _ _) := hs
      clear hs
      go_wp2
      go_ret
      exact ⟨retB (by unfold inn; rw [H.out]; rfl), B.out⟩
    | false =>
      go_enter Try.func24, Try.ntmps24
      go_wp2_with fail
      refine (refBefore_any key low _ A.out.2.2 A.out.1).mono ?_
      rintro ev w1 ⟨rfl, hs⟩
      rw [H.out]
      have B : Aside (Below _ _ _) := hs
      clear hs
      go_wp2_with fail
      refine (refBefore_any key high _ A.out.2.2 A.out.2.1).mono ?_
      rintro ev w2 ⟨rfl, hs⟩
      have C : Aside (Below w.heap.size w w2) := B.out.trans (hs.mono B.out.size)
      clear hs
      have D := Lib.hid (show inn low.data.toList high.data.toList false key.data.toList = bef key.data.toList high.data.toList by unfold inn; rw [H.out]; simp)
      generalize bef key.data.toList high.data.toList = z at *
      go_wp2
      go_ret
      exact ⟨retB D.out.symm, C.out⟩

/-- the least beginning of b that is behind a -/
def btw (a b : ByteArray) : ByteArray := b.extract 0 (com a.data.toList b.data.toList + 1)
theorem ext_take (b : ByteArray) (k : Nat) : (b.extract 0 k).data.toList = b.data.toList.take k := by simp
theorem ext_size (b : ByteArray) (k : Nat) (h : k ≤ b.size) : (b.extract 0 k).size = k := by simp; omega
end Go.Proofs.Ytkbfhpgcjljbbaa
