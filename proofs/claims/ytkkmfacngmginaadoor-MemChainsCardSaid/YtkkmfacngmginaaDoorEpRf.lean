/- The document's own clock: its value; New, Bump and Oldest, by contracts. -/
import Derived.Test.YtkkmfacngmginaaDoorMm
import Derived.Test.YtkkmfacngmginaaDoorEpMore
namespace Go.Proofs.YtkkmfacngmginaaDoor
open Go.RowKit Go.Maps

theorem cs_low {n cb mb : Nat} (h1 : n ≤ cb) (h2 : n ≤ mb) : ∀ k, CS cb mb k → n ≤ k := fun k e => by
  rcases e with rfl | rfl
  · exact h1
  · exact h2
open Go.RowKit

def ep_doVal (v t a : Int) : Value := .agg #[.int .i64 v, .int .i64 t, .int .i64 a]
structure ep_DoAt (w : World) (b : Nat) (v t a : Int) : Prop where
  c0 : w.cell? ⟨b, 0, none⟩ = some (.int .i64 v)
  c1 : w.cell? ⟨b, 1, none⟩ = some (.int .i64 t)
  c2 : w.cell? ⟨b, 2, none⟩ = some (.int .i64 a)
theorem ep_DoAt.step {w w' : World} {b : Nat} {v t a : Int} (h : ep_DoAt w b v t a) (hs : Below w.heap.size w w') : ep_DoAt w' b v t a := ⟨cell_step h.c0 hs, cell_step h.c1 hs, cell_step h.c2 hs⟩
theorem ep_DoAt.keep {w w' : World} {b : Nat} {v t a : Int} (h : ep_DoAt w b v t a) {S : Nat → Prop} (hk : Kept S w w') (hn : ¬ S b) : ep_DoAt w' b v t a := ⟨hk.cell hn h.c0, hk.cell hn h.c1, hk.cell hn h.c2⟩

open Go.RowKit

def refC (c : Ck) (v : Value) : Value := .agg #[.int .i64 c.n, .int .i64 c.l, v]
def refO (n l : Int) (v : Value) : Obj := .cells #[.int .i64 n, .int .i64 l, v] 88
theorem rng3 {w : World} {b : Nat} {T : TypeId} {u0 u1 u2 : Value} (h : w.heap[b]? = some (.cells #[u0, u1, u2] T (0, 0))) : w.rangeAt b 0 [u0, u1, u2] := fun j u hj => by
  rw [Nat.zero_add, blk_cell h, ← hj, ← Array.getElem?_toList]
theorem results_cellTT {fn : Func} {p u v : Tmp} {ty : TypeId} (h : fn.results = #[.cell p ty, .tmp u, .tmp v]) (tmps : Array Value) (w : World) (b : Nat) (cs : List Value) (d : TypeDesc) (ev fv : Value) (hp : tmps.getD p undef = .pointer (some ⟨b, 0, none⟩)) (hev : tmps.getD u undef = ev) (hfv : tmps.getD v undef = fv) (hc : w.rangeAt b 0 cs)
    (hu : Tryd.prog.underlying ty = some d) (hd : d.isRow = true) (hi : (Tryd.prog.info? ty).map (·.size) = some cs.length) : (results fn tmps).run Tryd.prog w = .ok (.tuple #[.agg cs.toArray, ev, fv]) w := by
  have hl := run_loadVar_mid w b 0 ty cs d hc hu hd hi
  have hp' : tmps[p]?.getD undef = .pointer (some ⟨b, 0, none⟩) := by simpa using hp
  have hev' : tmps[u]?.getD undef = ev := by simpa using hev
  have hfv' : tmps[v]?.getD undef = fv := by simpa using hfv
  simp only [results, h]
  simp [hp', hev', hfv', asAddr, hl]
/-! ### New -/
set_option maxRecDepth 100000 in
set_option maxHeartbeats 4000000 in
theorem rf_no (t l : Int) (w : World) (h : ¬ Ck.may t l) : Calls Tryd.prog 62 #[.int .i64 t, .int .i64 l] w fun ev w' => ev = .returned (.tuple #[.agg #[.int .i64 0, .int .i64 0, .slice none 0 0], .bool false]) ∧ Below w.heap.size w w' := by
  have N := Lib.hid h
  have B := Lib.hid (alloc_below0 w (refO 0 0 (.slice none 0 0)))
  clear h
  by_cases h1 : t < 1
  · go_enter Tryd.func62, Tryd.ntmps62
    go_wp2
    exact bodyPost_ret (v := .tuple #[.agg #[.int .i64 0, .int .i64 0, .slice none 0 0], .bool false]) (results_cellT rfl _ _ w.heap.size [.int .i64 0, .int .i64 0, .slice none 0 0] _ (.bool false) rfl rfl (rng3 (blk_new w _)) Tryd.underlying88 rfl (by kernel_rfl)) rfl ⟨rfl, B.out⟩
  · by_cases h2 : 64 < t
    · go_enter Tryd.func62, Tryd.ntmps62
      go_wp2
      exact bodyPost_ret (v := .tuple #[.agg #[.int .i64 0, .int .i64 0, .slice none 0 0], .bool false]) (results_cellT rfl _ _ w.heap.size [.int .i64 0, .int .i64 0, .slice none 0 0] _ (.bool false) rfl rfl (rng3 (blk_new w _)) Tryd.underlying88 rfl (by kernel_rfl)) rfl ⟨rfl, B.out⟩
    · by_cases h3 : l < 1
      · go_enter Tryd.func62, Tryd.ntmps62
        go_wp2
        exact bodyPost_ret (v := .tuple #[.agg #[.int .i64 0, .int .i64 0, .slice none 0 0], .bool false]) (results_cellT rfl _ _ w.heap.size [.int .i64 0, .int .i64 0, .slice none 0 0] _ (.bool false) rfl rfl (rng3 (blk_new w _)) Tryd.underlying88 rfl (by kernel_rfl)) rfl ⟨rfl, B.out⟩
      · have h4 : 1099511627776 < l := by have := N.out; unfold Ck.may at this; omega
        go_enter Tryd.func62, Tryd.ntmps62
        go_wp2
        exact bodyPost_ret (v := .tuple #[.agg #[.int .i64 0, .int .i64 0, .slice none 0 0], .bool false]) (results_cellT rfl _ _ w.heap.size [.int .i64 0, .int .i64 0, .slice none 0 0] _ (.bool false) rfl rfl (rng3 (blk_new w _)) Tryd.underlying88 rfl (by kernel_rfl)) rfl ⟨rfl, B.out⟩
theorem run_makeInt (n : Nat) (hn : n ≤ 100000) (w : World) : (Instr.makeSlice 86 (.int .i64 (n : Int)) (.int .i64 (n : Int))).run Tryd.prog w = .ok (.slice (some ⟨w.heap.size, 0, none⟩) n n) (w.alloc (.cells (lInt.flat (List.replicate n 0)).toArray 3)) := by
  obtain ⟨i, hi, hzz⟩ := Option.map_eq_some_iff.1 intInfo
  simp only [Prod.mk.injEq] at hzz
  obtain ⟨hz, hs, hb⟩ := hzz
  have h := run_make (P := Tryd.prog) w 86 3 i _ Tryd.underlying86 hi hz .i64 .i64 n n (by omega) (Int.le_refl _) (by rw [hb]; omega) (by omega)
  simp only [Int.toNat_natCast, hs] at h
  have e : madeCells #[.int .i64 0] (n * 1) = (lInt.flat (List.replicate n 0)).toArray := by
    apply Array.ext_getElem?
    intro i
    by_cases hi : i < n
    · have q := lInt.flat_at (List.replicate n 0) i 0 0 (by rw [List.getElem?_replicate, if_pos hi]) (by decide)
      simp only [lInt, Nat.mul_one, Nat.add_zero] at q
      rw [show (lInt.flat (List.replicate n 0)).toArray[i]? = (lInt.flat (List.replicate n 0))[i]? by simp]
      unfold lInt
      rw [q]
      unfold madeCells
      rw [Array.getElem?_map, Array.getElem?_range, if_pos (by omega)]
      simp [Nat.mod_one]
    · rw [Array.getElem?_eq_none (by rw [size_madeCells]; omega), Array.getElem?_eq_none (by simp [Lay.flat_len, lInt]; omega)]
  rw [← e]
  exact h
set_option maxRecDepth 100000 in
set_option maxHeartbeats 4000000 in
theorem ep_rf_new (t : Nat) (l : Int) (w : World) (h : Ck.may t l) : Calls Tryd.prog 62 #[.int .i64 (t : Int), .int .i64 l] w fun ev w' => ∃ v, ev = .returned (.tuple #[refC (Ck.new t l) v, .bool true]) ∧ OwnS lInt w.heap.size w' v (Ck.new t l).L ∧ Below w.heap.size w w' := by
  have hmm := run_makeInt t (by unfold Ck.may at h; omega)
  have h1 : ¬ (t : Int) < 1 := by unfold Ck.may at h; omega
  have h2 : ¬ (64 : Int) < t := by unfold Ck.may at h; omega
  have h3 : ¬ l < 1 := by unfold Ck.may at h; omega
  have h4 : ¬ 1099511627776 < l := by unfold Ck.may at h; omega
  have N := Lib.hid h
  clear h
  go_enter Tryd.func62, Tryd.ntmps62
  go_wp2
  have b1 := alloc_below0 w (refO 1 l (.slice (some ⟨w.heap.size + 1, 0, none⟩) t t))
  have k1 := blk_new w (refO 1 l (.slice (some ⟨w.heap.size + 1, 0, none⟩) t t))
  have z1 : (w.alloc (refO 1 l (.slice (some ⟨w.heap.size + 1, 0, none⟩) t t))).heap.size = w.heap.size + 1 := by simp
  have b2 := alloc_below0 (w.alloc (refO 1 l (.slice (some ⟨w.heap.size + 1, 0, none⟩) t t))) (.cells (lInt.flat (List.replicate t 0)).toArray 3)
  have o2 := OwnS.lit lInt w.heap.size (w.alloc (refO 1 l (.slice (some ⟨w.heap.size + 1, 0, none⟩) t t))) (w.heap.size + 1) z1 (List.replicate t 0) (by omega) (by simp [maxLen]; omega)
  rw [List.length_replicate] at o2
  unfold refO at b1 k1 b2 o2
  exact bodyPost_ret (v := .tuple #[.agg #[.int .i64 1, .int .i64 l, .slice (some ⟨w.heap.size + 1, 0, none⟩) t t], .bool true]) (results_cellT rfl _ _ w.heap.size [.int .i64 1, .int .i64 l, .slice (some ⟨w.heap.size + 1, 0, none⟩) t t] _ (.bool true) rfl rfl (rng3 (blk_step k1 b2)) Tryd.underlying88 rfl (by kernel_rfl)) rfl ⟨_, rfl, o2, b1.trans (b2.mono b1.size)⟩
end Go.Proofs.YtkkmfacngmginaaDoor
