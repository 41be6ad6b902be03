/- The laws' own same over writes (layer 16), of lists that are the same; fews, by contract. -/
import Derived.Test.YtkbfhpgcjljbbaaDoorCmFew
import Derived.Test.YtkbfhpgcjljbbaaDoorCmAny
namespace Go.Proofs.YtkbfhpgcjljbbaaDoor
set_option linter.unusedVariables false
set_option linter.unusedSimpArgs false
open Go.RowKit

set_option maxRecDepth 100000 in
set_option maxHeartbeats 4000000 in
theorem same_eq (v u : Value) (xs : List Wr) (w : World) (hv : WrV lPw w v xs) (hu : WrV lDw w u xs) :
    Calls Tryd.prog 23 #[v, u] w fun ev w' => ev = .returned (.bool true) ∧ Below w.heap.size w w' := by
  obtain ⟨a, cap, rfl, hlc, hcm⟩ := hv.1.lenform
  obtain ⟨b, cbp, rfl, hlb, hbm⟩ := hu.1.lenform
  obtain ⟨n, hn⟩ : ∃ n, xs.length = n := ⟨_, rfl⟩
  rw [hn] at hv hu hlc ⊢
  have V := Lib.hid hv
  have U := Lib.hid hu
  have LN := Lib.hid hn
  unfold maxLen at hcm hbm
  have hnn : n ≤ 2 ^ 63 - 1 := by omega
  clear hv hu hn hlb hlc
  go_enter Tryd.func23, Tryd.ntmps23
  go_wp2
  go_loopg [13] n (fun c i wr => ∃ k : Nat, k + c = n ∧ i = .int .i64 k ∧ Below w.heap.size w wr)
  case atStart => exact ⟨0, by omega, rfl, Below.refl _ _⟩
  case round =>
    obtain ⟨k, hk, rfl, hB⟩ := hrel
    have A := Lib.hid (show Below w.heap.size w wr ∧ k + gk = n from ⟨hB, hk⟩)
    by_cases hlt : k < n
    · obtain ⟨⟨x, y, g⟩, hx⟩ : ∃ x, xs[k]? = some x := ⟨_, List.getElem?_eq_getElem (by rw [LN.out]; exact hlt)⟩
      obtain ⟨b1, o1, ha⟩ := V.out.1.addr (by rw [LN.out]; omega)
      obtain ⟨b2, o2, hb⟩ := U.out.1.addr (by rw [LN.out]; omega)
      subst ha hb
      obtain ⟨x0, x1, x2⟩ := (V.out.below hB).cellsP hx
      obtain ⟨y0, y1, y2⟩ := (U.out.below hB).cells hx
      simp only at x0 x1 x2 y0 y1 y2
      have j3 : (0 : Int) ≤ (k : Int) := by omega
      have j4 : (k : Int) < (n : Int) := by omega
      clear hx hB
      go_wp2
      go_quiet (fail)
      go_wp2
      go_roundg (n - (k + 1))
      case measure => have := A.out.2; omega
      case rel => exact ⟨k + 1, by omega, by go_num, below_drewN A.out.1 _⟩
    · obtain rfl : n = k := by have := A.out.2; omega
      go_wp2
      go_ret
      exact ⟨rfl, A.out.1⟩
end Go.Proofs.YtkbfhpgcjljbbaaDoor
