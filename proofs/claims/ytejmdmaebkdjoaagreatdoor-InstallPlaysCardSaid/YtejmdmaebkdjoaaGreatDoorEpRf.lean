/- The document's own clock: its value; New, Bump and Oldest, by contracts. -/
import Derived.Test.YtejmdmaebkdjoaaGreatDoorMm
import Derived.Test.YtejmdmaebkdjoaaGreatDoorEpMore
namespace Go.Proofs.YtejmdmaebkdjoaaGreatDoor
set_option linter.unusedVariables false
set_option linter.unusedSimpArgs false
set_option maxRecDepth 100000
set_option maxHeartbeats 4000000
open Go.RowKit Go.Maps
open Go.RowKit
open Go.RowKit
def refC (c : Ck) (v : Value) : Value := .agg #[.int .i64 c.n, .int .i64 c.l, v]
def refO (n l : Int) (v : Value) : Obj := .cells #[.int .i64 n, .int .i64 l, v] 41
theorem rng3 {w : World} {b : Nat} {T : TypeId} {u0 u1 u2 : Value} (h : w.heap[b]? = some (.cells #[u0, u1, u2] T (0, 0))) : w.rangeAt b 0 [u0, u1, u2] := fun j u hj => by
 rw [Nat.zero_add, blk_cell h, ← hj, ← Array.getElem?_toList]
/-! ### New -/
theorem rf_no (t l : Int) (w : World) (h : ¬ Ck.may t l) : Calls Tryz.prog 31 #[.int .i64 t, .int .i64 l] w fun ev w' => ev = .returned (.tuple #[.agg #[.int .i64 0, .int .i64 0, .slice none 0 0], .bool false]) ∧ Below w.heap.size w w' := by
 have N := Lib.hid h
 have B := Lib.hid (alloc_below0 w (refO 0 0 (.slice none 0 0)))
 clear h
 by_cases h1 : t < 1
 ·go_enter Tryz.func31, Tryz.ntmps31
  go_wp2
  exact bodyPost_ret (v := .tuple #[.agg #[.int .i64 0, .int .i64 0, .slice none 0 0], .bool false]) (results_cellT rfl _ _ w.heap.size [.int .i64 0, .int .i64 0, .slice none 0 0] _ (.bool false) rfl rfl (rng3 (blk_new w _)) Tryz.underlying41 rfl (by kernel_rfl)) rfl ⟨rfl, B.out⟩
 ·by_cases h2 : 64 < t
  ·go_enter Tryz.func31, Tryz.ntmps31
   go_wp2
   exact bodyPost_ret (v := .tuple #[.agg #[.int .i64 0, .int .i64 0, .slice none 0 0], .bool false]) (results_cellT rfl _ _ w.heap.size [.int .i64 0, .int .i64 0, .slice none 0 0] _ (.bool false) rfl rfl (rng3 (blk_new w _)) Tryz.underlying41 rfl (by kernel_rfl)) rfl ⟨rfl, B.out⟩
  ·by_cases h3 : l < 1
   ·go_enter Tryz.func31, Tryz.ntmps31
    go_wp2
    exact bodyPost_ret (v := .tuple #[.agg #[.int .i64 0, .int .i64 0, .slice none 0 0], .bool false]) (results_cellT rfl _ _ w.heap.size [.int .i64 0, .int .i64 0, .slice none 0 0] _ (.bool false) rfl rfl (rng3 (blk_new w _)) Tryz.underlying41 rfl (by kernel_rfl)) rfl ⟨rfl, B.out⟩
   ·have h4 : 1099511627776 < l := by have := N.out; unfold Ck.may at this; omega
    go_enter Tryz.func31, Tryz.ntmps31
    go_wp2
    exact bodyPost_ret (v := .tuple #[.agg #[.int .i64 0, .int .i64 0, .slice none 0 0], .bool false]) (results_cellT rfl _ _ w.heap.size [.int .i64 0, .int .i64 0, .slice none 0 0] _ (.bool false) rfl rfl (rng3 (blk_new w _)) Tryz.underlying41 rfl (by kernel_rfl)) rfl ⟨rfl, B.out⟩
theorem run_makeInt (n : Nat) (hn : n ≤ 100000) (w : World) : (Instr.makeSlice 39 (.int .i64 (n : Int)) (.int .i64 (n : Int))).run Tryz.prog w = .ok (.slice (some ⟨w.heap.size, 0, none⟩) n n) (w.alloc (.cells (lInt.flat (List.replicate n 0)).toArray 3)) := by
 obtain ⟨i, hi, hzz⟩ := Option.map_eq_some_iff.1 intInfo
 simp only [Prod.mk.injEq] at hzz
 obtain ⟨hz, hs, hb⟩ := hzz
 have h := run_make (P := Tryz.prog) w 39 3 i _ Tryz.underlying39 hi hz .i64 .i64 n n (by omega) (Int.le_refl _) (by rw [hb]; omega) (by omega)
 simp only [Int.toNat_natCast, hs] at h
 have e : madeCells #[.int .i64 0] (n * 1) = (lInt.flat (List.replicate n 0)).toArray := by
  apply Array.ext_getElem?
  intro i
  by_cases hi : i < n
  ·have q := lInt.flat_at (List.replicate n 0) i 0 0 (by rw [List.getElem?_replicate, if_pos hi]) (by decide)
   simp only [lInt, Nat.mul_one, Nat.add_zero] at q
   rw [show (lInt.flat (List.replicate n 0)).toArray[i]? = (lInt.flat (List.replicate n 0))[i]? by simp]
   unfold lInt
   rw [q]
   unfold madeCells
   rw [Array.getElem?_map, Array.getElem?_range, if_pos (by omega)]
   simp [Nat.mod_one]
  ·rw [Array.getElem?_eq_none (by rw [size_madeCells]; omega), Array.getElem?_eq_none (by simp [Lay.flat_len, lInt]; omega)]
 rw [← e]
 exact h
theorem ep_rf_new (t : Nat) (l : Int) (w : World) (h : Ck.may t l) : Calls Tryz.prog 31 #[.int .i64 (t : Int), .int .i64 l] w fun ev w' => ∃ v, ev = .returned (.tuple #[refC (Ck.new t l) v, .bool true]) ∧ OwnS lInt w.heap.size w' v (Ck.new t l).L ∧ Below w.heap.size w w' := by
 have hmm := run_makeInt t (by unfold Ck.may at h; omega)
 have h1 : ¬ (t : Int) < 1 := by unfold Ck.may at h; omega
 have h2 : ¬ (64 : Int) < t := by unfold Ck.may at h; omega
 have h3 : ¬ l < 1 := by unfold Ck.may at h; omega
 have h4 : ¬ 1099511627776 < l := by unfold Ck.may at h; omega
 have N := Lib.hid h
 clear h
 go_enter Tryz.func31, Tryz.ntmps31
 go_wp2
 have b1 := alloc_below0 w (refO 1 l (.slice (some ⟨w.heap.size + 1, 0, none⟩) t t))
 have k1 := blk_new w (refO 1 l (.slice (some ⟨w.heap.size + 1, 0, none⟩) t t))
 have z1 : (w.alloc (refO 1 l (.slice (some ⟨w.heap.size + 1, 0, none⟩) t t))).heap.size = w.heap.size + 1 := by simp
 have b2 := alloc_below0 (w.alloc (refO 1 l (.slice (some ⟨w.heap.size + 1, 0, none⟩) t t))) (.cells (lInt.flat (List.replicate t 0)).toArray 3)
 have o2 := OwnS.lit lInt w.heap.size (w.alloc (refO 1 l (.slice (some ⟨w.heap.size + 1, 0, none⟩) t t))) (w.heap.size + 1) z1 (List.replicate t 0) (by omega) (by simp [maxLen]; omega)
 rw [List.length_replicate] at o2
 unfold refO at b1 k1 b2 o2
 exact bodyPost_ret (v := .tuple #[.agg #[.int .i64 1, .int .i64 l, .slice (some ⟨w.heap.size + 1, 0, none⟩) t t], .bool true]) (results_cellT rfl _ _ w.heap.size [.int .i64 1, .int .i64 l, .slice (some ⟨w.heap.size + 1, 0, none⟩) t t] _ (.bool true) rfl rfl (rng3 (blk_step k1 b2)) Tryz.underlying41 rfl (by kernel_rfl)) rfl ⟨_, rfl, o2, b1.trans (b2.mono b1.size)⟩
end Go.Proofs.YtejmdmaebkdjoaaGreatDoor
