/- The laws' own 'few' over texts (layer 2): are all of at most 2000 bytes? -/
import Derived.Test.YtakdnhfohpmcpaaBkRef
import Derived.Test.YtakdnhfohpmcpaaKit
namespace Go.Proofs.Ytakdnhfohpmcpaa
open Go.RowKit

def fewB (ss : List ByteArray) : Bool := ss.all fun s => decide (s.size ≤ 2000)
theorem fewB_snoc (l : List ByteArray) (s : ByteArray) : fewB (l ++ [s]) = (fewB l && decide (s.size ≤ 2000)) := by simp [fewB]
theorem fewB_false (l : List ByteArray) (k : Nat) (h : k < l.length) (hs : ¬ (l.getD k ByteArray.empty).size ≤ 2000) : fewB l = false := by
  unfold fewB
  rw [List.all_eq_false]
  refine ⟨l[k], List.getElem_mem h, ?_⟩
  simp [List.getD, h] at hs
  simpa using hs
set_option maxHeartbeats 2000000 in
theorem few_of (v : Value) (ss : List ByteArray) (w : World) (hp : StrsV w v ss) :
    Calls Try.prog 12 #[v] w fun ev w' => ev = .returned (.bool (fewB ss)) ∧ w = w' := by
  obtain ⟨a, cap, rfl, hm, hr⟩ := hp
  unfold maxLen at hm
  have R : Aside (∀ i, i < ss.length → ∃ b off, a = some ⟨b, off, none⟩ ∧ w.cell? ⟨b, off + i, none⟩ = some (.string (ss.getD i ByteArray.empty))) := hr
  clear hr
  go_enter Try.func12, Try.ntmps12
  go_wp2
  go_loopg [7] ss.length (fun n i wr => ∃ k : Nat, k + n = ss.length ∧ i = .int .i64 k ∧ fewB (ss.take k) = true ∧ wr = w)
  case atStart => exact ⟨0, by omega, rfl, rfl, rfl⟩
  case round =>
    obtain ⟨k, hk, rfl, hf, rfl⟩ := hrel
    have A : Aside (fewB (ss.take k) = true ∧ k + gk = ss.length) := ⟨hf, hk⟩
    clear hf hk
    by_cases hlt : k < ss.length
    · obtain ⟨b, off, rfl, hc⟩ := R.out k hlt
      have T : Aside (ss.take (k + 1) = ss.take k ++ [ss.getD k ByteArray.empty]) := by
        show _ = _
        rw [List.take_succ_eq_append_getElem hlt]; simp [List.getD, hlt]
      by_cases hs : (ss.getD k ByteArray.empty).size ≤ 2000
      · have D : Aside (fewB (ss.take (k + 1)) = true) := by show _ = _; rw [T.out, fewB_snoc, A.out.1]; simpa using hs
        generalize ss.getD k ByteArray.empty = s at *
        go_wp2
        go_roundg (ss.length - (k + 1))
        case measure => have := A.out.2; omega
        case rel => exact ⟨k + 1, by omega, by go_num, D.out, rfl⟩
      · have D : Aside (fewB ss = false) := fewB_false ss k hlt hs
        generalize ss.getD k ByteArray.empty = s at *
        go_wp2
        go_ret
        exact ⟨retB D.out.symm, rfl⟩
    · have D : Aside (fewB ss = true) := by
        have h1 := A.out.1
        rw [List.take_of_length_le (by omega)] at h1
        exact h1
      go_wp2
      go_ret
      exact ⟨retB D.out.symm, rfl⟩
/-- texts laid side by side in a new block -/
theorem strsV_new (w : World) (ss : List ByteArray) (t : TypeId) (h : ss.length ≤ maxLen) : StrsV (w.alloc (.cells (ss.map Value.string).toArray t)) (.slice (some ⟨w.heap.size, 0, none⟩) ss.length ss.length) ss := by
  refine ⟨_, _, rfl, h, fun i hi => ⟨_, _, rfl, ?_⟩⟩
  rw [World.cell?_alloc_at _ _ _ _ rfl]
  simp [List.getD, hi]
end Go.Proofs.Ytakdnhfohpmcpaa
