/- Package arena's New, by contracts. -/
import Derived.Test.YtkkmfacngmginaaMm
import Derived.Test.YtkkmfacngmginaaArPut
namespace Go.Proofs.Ytkkmfacngmginaa
open Go.RowKit

set_option maxRecDepth 100000 in
set_option maxHeartbeats 4000000 in
theorem ar_new_no (n l : Int) (w : World) (h : okN n l = false) : Calls Try.prog 74 #[.int .i64 n, .int .i64 l] w fun ev w' => ev = .returned (.pointer none) ∧ Below w.heap.size w w' := by
  unfold okN at h
  by_cases h1 : n < 1
  · clear h
    go_enter Try.func74, Try.ntmps74
    go_wp2
    go_ret
    exact ⟨rfl, Below.refl _ _⟩
  · by_cases h2 : 4096 < n
    · clear h
      go_enter Try.func74, Try.ntmps74
      go_wp2
      go_ret
      exact ⟨rfl, Below.refl _ _⟩
    · by_cases h3 : l < 1
      · clear h
        go_enter Try.func74, Try.ntmps74
        go_wp2
        go_ret
        exact ⟨rfl, Below.refl _ _⟩
      · have h4 : 1099511627776 < l := by
          rw [decide_eq_true (show 1 ≤ n by omega), decide_eq_true (show n ≤ 4096 by omega), decide_eq_true (show 1 ≤ l by omega)] at h
          simp at h
          omega
        clear h
        go_enter Try.func74, Try.ntmps74
        go_wp2
        go_ret
        exact ⟨rfl, Below.refl _ _⟩
/-- the slots when the first k have their numbers -/
def fresh0 (n k : Nat) : List Sl := (List.range n).map fun i => (if i < k then ((i : Int) + 1) else 0, 0, none)
theorem fresh0_at {n k i : Nat} (h : i < n) : (fresh0 n k)[i]? = some (if i < k then ((i : Int) + 1) else 0, 0, none) := by
  unfold fresh0
  rw [List.getElem?_map, List.getElem?_range h]; rfl
theorem fresh0_len (n k : Nat) : (fresh0 n k).length = n := by simp [fresh0]
theorem fresh0_set {n k : Nat} (h : k < n) : fresh0 n (k + 1) = (fresh0 n k).set k ((k : Int) + 1, 0, none) := by
  apply List.ext_getElem?
  intro i
  by_cases hi : i < n
  · rw [fresh0_at hi, List.getElem?_set, fresh0_len, fresh0_at hi]
    by_cases e : k = i
    · subst e; simp [h]
    · rw [if_neg e]
      congr 3
      simp only [eq_iff_iff]
      omega
  · rw [List.getElem?_eq_none (by rw [fresh0_len]; omega), List.getElem?_eq_none (by rw [List.length_set, fresh0_len]; omega)]
theorem made_slots (n : Nat) : madeCells #[.int .i64 0, .int .i64 0, .pointer none] (n * 3) = (lSlot.flat (fresh0 n 0)).toArray := by
  apply Array.ext_getElem?
  intro i
  by_cases hi : i < n * 3
  · have hq : i / 3 < n := by omega
    have e := lSlot.flat_at (fresh0 n 0) (i / 3) (i % 3) _ (fresh0_at hq) (Nat.mod_lt _ (by decide))
    rw [show i / 3 * lSlot.sz + i % 3 = i from Nat.div_add_mod' i 3] at e
    rw [show (lSlot.flat (fresh0 n 0)).toArray[i]? = (lSlot.flat (fresh0 n 0))[i]? by simp, e]
    have h3 : i % 3 = 0 ∨ i % 3 = 1 ∨ i % 3 = 2 := by omega
    unfold madeCells
    rw [Array.getElem?_map, Array.getElem?_range, if_pos hi]
    rcases h3 with h | h | h <;> simp [h, lSlot]
  · rw [Array.getElem?_eq_none (by rw [size_madeCells]; omega), Array.getElem?_eq_none (by simp [Lay.flat_len, fresh0_len, lSlot]; omega)]
theorem run_makeSl (n : Nat) (hn : n ≤ 100000) (w : World) : (Instr.makeSlice 149 (.int .i64 (n : Int)) (.int .i64 (n : Int))).run Try.prog w = .ok (.slice (some ⟨w.heap.size, 0, none⟩) n n) (w.alloc (.cells (lSlot.flat (fresh0 n 0)).toArray 145)) := by
  obtain ⟨i, hi, hzz⟩ := Option.map_eq_some_iff.1 slotInfo
  simp only [Prod.mk.injEq] at hzz
  obtain ⟨hz, hs, hb⟩ := hzz
  have h := run_make (P := Try.prog) w 149 145 i _ Try.underlying149 hi hz .i64 .i64 n n (by omega) (Int.le_refl _) (by rw [hb]; omega) (by omega)
  simp only [Int.toNat_natCast, hs] at h
  rw [← made_slots]
  exact h
set_option maxRecDepth 100000 in
set_option maxHeartbeats 4000000 in
theorem ar_new_any (n l : Nat) (w : World) (h : okN n l = true) : Calls Try.prog 74 #[.int .i64 (n : Int), .int .i64 (l : Int)] w fun ev w' => ∃ a S, ev = .returned (.pointer (some a)) ∧ ArInv w' a S n l [] ∧ (∀ k, S k → w.heap.size ≤ k) ∧ Below w.heap.size w w' := by
  obtain ⟨g1, g2, g3, g4⟩ := okN_of h
  have OK := Lib.hid h
  have h1 : ¬ (n : Int) < 1 := by omega
  have h2 : ¬ (4096 : Int) < n := by omega
  have h3 : ¬ (l : Int) < 1 := by omega
  have h4 : ¬ (1099511627776 : Int) < l := by omega
  have hmk := run_makeSl n (by omega)
  clear h
  go_enter Try.func74, Try.ntmps74
  go_wp2
  go_loopg [27] n (fun r i wr => ∃ k : Nat, k + r = n ∧ i = .int .i64 k ∧ OwnS lSlot w.heap.size wr (.slice (some ⟨w.heap.size, 0, none⟩) n n) (fresh0 n k) ∧ wr.heap[w.heap.size + 1]? = some (.cells #[.slice (some ⟨w.heap.size, 0, none⟩) n n, .int .i64 (l : Int)] 151 (0, 0)) ∧ Below w.heap.size w wr)
  case atStart =>
    refine ⟨0, by omega, rfl, ?_, ?_, ?_⟩
    · have h := OwnS.lit lSlot w.heap.size w w.heap.size rfl (fresh0 n 0) (Nat.le_refl _) (by rw [fresh0_len]; simp [maxLen]; omega)
      rw [fresh0_len] at h
      exact h.below (alloc_below0 _ _)
    · have h := blk_new (w.alloc (.cells (lSlot.flat (fresh0 n 0)).toArray 145)) (.cells #[.slice (some ⟨w.heap.size, 0, none⟩) n n, .int .i64 (l : Int)] 151)
      rw [show (w.alloc (.cells (lSlot.flat (fresh0 n 0)).toArray 145)).heap.size = w.heap.size + 1 by simp] at h
      exact h
    · exact ((alloc_below0 w _).trans ((alloc_below0 _ _).mono (alloc_below0 w _).size))
  case round =>
    obtain ⟨k, hk, rfl, hO, hA, hB⟩ := hrel
    have A := Lib.hid (show _ ∧ _ ∧ _ ∧ k + gk = n from ⟨hO, hA, hB, hk⟩)
    have c0 : wr.cell? ⟨w.heap.size + 1, 0, none⟩ = some (.slice (some ⟨w.heap.size, 0, none⟩) n n) := blk_cell hA 0
    clear hA hB hO
    by_cases hlt : k < n
    · have i1 : IntKind.i64.wrap ((k : Int) + 1) = (k : Int) + 1 := Go.IntWalk.i64_in _ (by omega)
      have i2 : (0 : Int) ≤ (k : Int) := by omega
      have i3 : (k : Int) < (n : Int) := by omega
      have e0 := A.out.1.sv.cellAt (i := k) (j := 0) (fresh0_at hlt) rfl
      have f0 := A.out.1.free (k * 3)
      simp only [lSlot, Nat.zero_add, Nat.add_zero] at e0
      go_wp2
      go_roundg (n - (k + 1))
      case measure => have := A.out.2.2.2; omega
      case rel =>
        refine ⟨k + 1, by omega, by go_num, ?_, blk_off A.out.2.1 (by omega) _ _, below_set A.out.2.2.1 (Nat.le_refl _) _ _⟩
        rw [fresh0_set hlt]
        exact A.out.1.set (j := 0) (fresh0_at hlt) (by decide) (by simp [lSlot])
    · obtain rfl : k = n := by omega
      go_wp2
      go_ret
      refine ⟨_, fun j => j = w.heap.size ∨ j = w.heap.size + 1, rfl, ⟨_, w.heap.size, _, rfl, OK.out, Valid.nil k, GenLe.nil l, ?_, .inr rfl, .inl rfl, A.out.2.1, A.out.1.mono (Nat.zero_le _), fresh0_len k k, fun i hi => ⟨none, ?_, rfl⟩⟩, fun j hj => by omega, A.out.2.2.1⟩
      · have := (Array.getElem?_eq_some_iff.1 A.out.2.1).1
        intro j hj
        omega
      · rw [fresh0_at hi, if_pos hi]; rfl
end Go.Proofs.Ytkkmfacngmginaa
