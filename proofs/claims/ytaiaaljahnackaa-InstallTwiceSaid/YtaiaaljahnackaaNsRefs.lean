/- The document's own comparison of refs, by contract. -/
import Derived.Test.YtaiaaljahnackaaNsCrew
namespace Go.Proofs.Ytaiaaljahnackaa
open Go.RowKit

set_option maxRecDepth 100000 in
set_option maxHeartbeats 4000000 in
theorem rf_same (v u : Value) (xs : List Rf) (w : World) (hv : SV lRef w v xs) (hu : SV lRef w u xs) :
    Calls Try.prog 21 #[v, u] w fun ev w' => ev = .returned (.bool true) ∧ Below w.heap.size w w' := by
  obtain ⟨va, vc, rfl, hlc, hcm⟩ := hv.lenform
  obtain ⟨ua, uc, rfl, hlc2, hcm2⟩ := hu.lenform
  obtain ⟨N, hN⟩ : ∃ N, xs.length = N := ⟨_, rfl⟩
  have LN := Lib.hid hN
  have V := Lib.hid hv
  have U := Lib.hid hu
  unfold maxLen at hcm
  rw [hN] at V U hlc ⊢
  clear hv hu hN hlc2 hcm2
  go_enter Try.func21, Try.ntmps21
  go_wp2
  go_loopg [5] N (fun r i wr => ∃ k : Nat, k + r = N ∧ i = .int .i64 k ∧ Below w.heap.size w wr)
  case atStart => exact ⟨0, by omega, rfl, Below.refl _ _⟩
  case round =>
    obtain ⟨k, hk, rfl, hB⟩ := hrel
    have A := Lib.hid (show Below w.heap.size w wr ∧ k + gk = N from ⟨hB, hk⟩)
    have V := Lib.hid (V.out.below hB)
    have U := Lib.hid (U.out.below hB)
    clear hB hk
    by_cases hlt : k < N
    · obtain ⟨⟨p, q⟩, hx⟩ : ∃ d, xs[k]? = some d := ⟨_, List.getElem?_eq_getElem (by rw [LN.out]; exact hlt)⟩
      obtain ⟨b, off, ha⟩ := V.out.addr (by rw [LN.out]; omega)
      subst ha
      obtain ⟨b2, off2, ha⟩ := U.out.addr (by rw [LN.out]; omega)
      subst ha
      have x0 := V.out.cellAt (j := 0) hx rfl
      have x1 := V.out.cellAt (j := 1) hx rfl
      have y0 := U.out.cellAt (j := 0) hx rfl
      have y1 := U.out.cellAt (j := 1) hx rfl
      simp only [lRef, Nat.add_zero] at x0 x1 y0 y1
      have j3 : (0 : Int) ≤ (k : Int) := by omega
      have j4 : (k : Int) < (N : Int) := by omega
      have e1 : (p == p) = true := by simp
      have e2 : (q == q) = true := by simp
      clear hx
      go_wp2
      go_quiet (fail)
      go_wp2
      go_roundg (N - (k + 1))
      case measure => have := A.out.2; omega
      case rel => exact ⟨k + 1, by omega, by go_num, below_drewN A.out.1 _⟩
    · obtain rfl : k = N := by have := A.out.2; omega
      go_wp2
      go_ret
      exact ⟨rfl, A.out.1⟩
end Go.Proofs.Ytaiaaljahnackaa
