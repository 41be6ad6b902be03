/- The laws' own helpers over writes (layer 16): few, given, same, by contracts. -/
import Derived.Test.YtkbfhpgcjljbbaaCmC
import Derived.Test.YtkbfhpgcjljbbaaRwFew
namespace Go.Proofs.Ytkbfhpgcjljbbaa
set_option linter.unusedVariables false
set_option linter.unusedSimpArgs false
open Go.RowKit

def sumW : List Wr → Nat
  | [] => 0
  | x :: xs => (min x.1.size 1001 + min x.2.1.size 1001) + sumW xs
theorem sumW_append : ∀ a b, sumW (a ++ b) = sumW a + sumW b
  | [], _ => by simp [sumW]
  | r :: a, b => by simp [sumW, sumW_append a b]; omega
theorem sumW_le : ∀ xs : List Wr, sumW xs ≤ 2002 * xs.length
  | [] => by simp [sumW]
  | r :: rs => by have := sumW_le rs; simp [sumW]; omega
def fewW (xs : List Wr) : Bool := decide (xs.length ≤ 40) && decide (sumW xs ≤ 1000)
theorem fewW_len {xs : List Wr} (h : fewW xs = true) : xs.length ≤ 40 := by unfold fewW at h; simp at h; exact h.1
theorem sumW_size : ∀ {xs : List Wr}, sumW xs ≤ 1000 → ∀ x ∈ xs, x.1.size ≤ 1000 ∧ x.2.1.size ≤ 1000
  | [], _, _, hx => by cases hx
  | y :: ys, h, x, hx => by
    unfold sumW at h
    rcases List.mem_cons.1 hx with rfl | hx
    · omega
    · exact sumW_size (xs := ys) (by omega) x hx
theorem fewW_size {xs : List Wr} (h : fewW xs = true) : ∀ x ∈ xs, x.1.size ≤ 1000 ∧ x.2.1.size ≤ 1000 := by unfold fewW at h; simp at h; exact sumW_size h.2
theorem min_run1 (x : Nat) (w : World) (ts : Array TypeId) (t : TypeId) : (Builtin.min_ ts t #[.int .i64 (x : Int), .int .i64 1001]).run Try.prog w = .ok (.int .i64 ((min x 1001 : Nat) : Int)) w := by
  rw [run_min_int2]
  congr 2
  by_cases h : (1001 : Int) < (x : Int)
  · rw [if_pos h]; omega
  · rw [if_neg h]; omega
set_option maxRecDepth 100000 in
set_option maxHeartbeats 4000000 in
theorem wfew_any (v : Value) (xs : List Wr) (w : World) (hv : WrV lDw w v xs) :
    Calls Try.prog 11 #[v] w fun ev w' => ev = .returned (.bool (fewW xs)) ∧ Below w.heap.size w w' := by
  obtain ⟨a, cap, rfl, hlc, hcm⟩ := hv.1.lenform
  obtain ⟨n, hn⟩ : ∃ n, xs.length = n := ⟨_, rfl⟩
  rw [hn] at hv hlc ⊢
  have V := Lib.hid hv
  have LN := Lib.hid hn
  obtain ⟨m, hm, hm1, hm2⟩ : ∃ m, m = min n 41 ∧ m ≤ n ∧ m ≤ 41 := ⟨_, rfl, by omega, by omega⟩
  unfold maxLen at hcm
  clear hv hn
  go_enter Try.func11, Try.ntmps11
  go_wp2
  go_loopg [3, 4] m (fun c s i wr => ∃ k : Nat, k + c = m ∧ i = .int .i64 k ∧ s = .int .i64 (sumW (xs.take k)) ∧ Below w.heap.size w wr)
  case atStart => exact ⟨0, by omega, rfl, rfl, Below.refl _ _⟩
  case round =>
    obtain ⟨k, hk, rfl, rfl, hB⟩ := hrel
    have A : Aside (Below w.heap.size w wr ∧ k + gk = m) := ⟨hB, hk⟩
    clear hB
    by_cases hlt : k < m
    · have hkl : k < n := by omega
      have hk1 : k ≤ 40 := by omega
      have g1 : decide (k < n) = true := decide_eq_true hkl
      have g2 : decide ((k : Int) ≤ 40) = true := decide_eq_true (by omega)
      have g3 : decide (k ≤ 40) = true := decide_eq_true (by omega)
      obtain ⟨x, hx⟩ : ∃ x, xs[k]? = some x := ⟨_, List.getElem?_eq_getElem (by rw [LN.out]; exact hkl)⟩
      obtain ⟨b, off, ha⟩ := V.out.1.addr (by rw [LN.out]; omega)
      subst ha
      obtain ⟨hc0, hc1, -⟩ := (V.out.below A.out.1).cells hx
      have T : Aside (sumW (xs.take (k + 1)) = sumW (xs.take k) + (min x.1.size 1001 + min x.2.1.size 1001)) := by
        show _ = _; rw [wtake_at1 hx, sumW_append]; simp [sumW]
      have hsb : sumW (xs.take k) ≤ 2002 * 41 := by have := sumW_le (xs.take k); rw [List.length_take] at this; omega
      have m1 := min_run1 x.1.size
      have m2 := min_run1 x.2.1.size
      have p1 : min x.1.size 1001 ≤ 1001 := by omega
      have p2 : min x.2.1.size 1001 ≤ 1001 := by omega
      generalize x.1 = y at *
      generalize x.2.1 = z at *
      generalize min y.size 1001 = p at *
      generalize min z.size 1001 = q at *
      generalize sumW (xs.take k) = s at *
      have s1 : IntKind.i64.wrap ((p : Int) + (q : Int)) = (p : Int) + (q : Int) := Go.IntWalk.i64_in _ (by omega)
      have s2 : IntKind.i64.wrap ((s : Int) + ((p : Int) + (q : Int))) = (s : Int) + ((p : Int) + (q : Int)) := Go.IntWalk.i64_in _ (by omega)
      clear hx
      go_wp2
      go_quiet (fail)
      go_wp2
      go_roundg (m - (k + 1))
      case measure => have := A.out.2; omega
      case rel => exact ⟨k + 1, by omega, by go_num, by rw [T.out]; go_num, below_drewN A.out.1 _⟩
    · have hkm : k = m := by omega
      by_cases h100 : n ≤ 40
      · have e : k = n := by omega
        subst e
        rw [List.take_of_length_le (Nat.le_of_eq LN.out)]
        clear hm hm1 hm2 hkm hk
        have hsb : sumW xs ≤ 2002 * 41 := by have := sumW_le xs; rw [LN.out] at this; omega
        by_cases h2 : sumW xs ≤ 1000
        · have G : Aside (fewW xs = true) := by show _ = _; unfold fewW; simp [LN.out, h100, h2]
          generalize sumW xs = s at *
          go_wp2
          go_ret
          first | exact ⟨retB G.out.symm, A.out.1⟩ | exact ⟨retB (by rw [G.out]; simp; omega), A.out.1⟩
        · have G : Aside (fewW xs = false) := by show _ = _; unfold fewW; simp [h2]
          generalize sumW xs = s at *
          go_wp2
          go_ret
          first | exact ⟨retB G.out.symm, A.out.1⟩ | exact ⟨retB (by rw [G.out]; simp; omega), A.out.1⟩
      · have G : Aside (fewW xs = false) := by show _ = _; unfold fewW; simp [LN.out, h100]
        have e : k = 41 := by omega
        clear hm hm1 hm2 hkm hk hlt
        subst e
        generalize sumW (xs.take 41) = s at *
        by_cases h101 : 41 < n
        · go_wp2
          go_ret
          first | exact ⟨retB G.out.symm, A.out.1⟩ | exact ⟨retB (by rw [G.out]; simp; omega), A.out.1⟩
        · go_wp2
          go_ret
          first | exact ⟨retB G.out.symm, A.out.1⟩ | exact ⟨retB (by rw [G.out]; simp; omega), A.out.1⟩
end Go.Proofs.Ytkbfhpgcjljbbaa
