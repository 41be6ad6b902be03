/- The laws' own given over writes (layer 16), by contract. -/
import Derived.Test.YtkbfhpgcjljbbaaCmC
namespace Go.Proofs.Ytkbfhpgcjljbbaa
set_option linter.unusedVariables false
set_option linter.unusedSimpArgs false
open Go.RowKit

set_option maxRecDepth 100000 in
set_option maxHeartbeats 4000000 in
theorem given_any (v : Value) (xs : List Wr) (w : World) (hv : WrV lDw w v xs) (hl : xs.length ≤ 1000) :
    Calls Try.prog 14 #[v] w fun ev w' => ∃ v', ev = .returned v' ∧ OwnS lPw w.heap.size w' v' xs ∧ Below w.heap.size w w' := by
  obtain ⟨a, cap, rfl, hlc, hcm⟩ := hv.1.lenform
  obtain ⟨n, hn⟩ : ∃ n, xs.length = n := ⟨_, rfl⟩
  rw [hn] at hv hlc hl ⊢
  have V := Lib.hid hv
  have LN := Lib.hid hn
  clear hv hn
  go_enter Try.func14, Try.ntmps14
  go_wp2
  go_loopg [3, 8] n (fun c s i wr => ∃ k : Nat, k + c = n ∧ i = .int .i64 k ∧ OwnS lPw w.heap.size wr s (xs.take k) ∧ Below w.heap.size w wr)
  case atStart => exact ⟨0, by omega, rfl, OwnS.nil _ _ _, Below.refl _ _⟩
  case round =>
    obtain ⟨k, hk, rfl, hO, hB⟩ := hrel
    have A := Lib.hid (show Below w.heap.size w wr ∧ k + gk = n from ⟨hB, hk⟩)
    have O := Lib.hid hO
    clear hB hO
    by_cases hlt : k < n
    · obtain ⟨x, hx⟩ : ∃ x, xs[k]? = some x := ⟨_, List.getElem?_eq_getElem (by rw [LN.out]; exact hlt)⟩
      obtain ⟨b, off, ha⟩ := V.out.1.addr (by rw [LN.out]; omega)
      subst ha
      obtain ⟨x0, x1, x2⟩ := (V.out.below A.out.1).cells hx
      have T := Lib.hid (wtake_at1 hx)
      have j3 : (0 : Int) ≤ (k : Int) := by omega
      have j4 : (k : Int) < (n : Int) := by omega
      have ba := alloc_below0 wr (.cells #[.string x.1, .string x.2.1, .bool x.2.2] 54)
      have bb := alloc_below0 (wr.alloc (.cells #[.string x.1, .string x.2.1, .bool x.2.2] 54)) (.cells #[.string x.1, .string x.2.1, .bool x.2.2] 41)
      have BA := Lib.hid (A.out.1.trans ((ba.trans (bb.mono ba.size)).mono A.out.1.size))
      have O2 := Lib.hid ((O.out.below ba).below bb)
      have SR := Lib.hid (OwnS.lit lPw w.heap.size (wr.alloc (.cells #[.string x.1, .string x.2.1, .bool x.2.2] 54)) (wr.heap.size + 1) (by simp) [x] (by have := A.out.1.size; omega) (by simp [maxLen])).sv
      have LT := Lib.hid (show (xs.take k).length + 1 ≤ 100000 by rw [List.length_take]; omega)
      clear hx ba bb
      go_wp2_with (at_builtin; go_must (refine wpList_appS lPw 29 Try.underlying29 lPw_known (by decide) (by decide) rfl (.tmp 12) (.tmp 20) rfl w.heap.size rfl rfl O2.out SR LT.out BA.out.size ?_; intro v2 w2 ho2 hg2))
      have F := Lib.hid (show OwnS lPw w.heap.size w2 v2 (xs.take (k + 1)) ∧ Below w.heap.size w w2 from ⟨by rw [T.out]; exact ho2, BA.out.trans ((Kept.of_grown hg2).below (fun j hj => (O2.out.bounds j hj.symm).1) BA.out.size)⟩)
      clear ho2 hg2
      go_wp2
      go_roundg (n - (k + 1))
      case measure => have := A.out.2; omega
      case rel => exact ⟨k + 1, by omega, by go_num, F.out.1, F.out.2⟩
    · obtain rfl : k = n := by omega
      have F := Lib.hid (show xs.take k = xs from List.take_of_length_le (Nat.le_of_eq LN.out))
      go_wp2
      go_ret
      exact ⟨_, rfl, by rw [F.out] at O; exact O.out, A.out.1⟩
end Go.Proofs.Ytkbfhpgcjljbbaa
