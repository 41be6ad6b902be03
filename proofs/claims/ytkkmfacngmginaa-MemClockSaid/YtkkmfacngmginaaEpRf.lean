/- The document's own clock: its value; New, Bump and Oldest, by contracts. -/
import Derived.Test.YtkkmfacngmginaaMm
import Derived.Test.YtkkmfacngmginaaEpDo
namespace Go.Proofs.Ytkkmfacngmginaa
open Go.RowKit

def refC (c : Ck) (v : Value) : Value := .agg #[.int .i64 c.n, .int .i64 c.l, v]
def refO (n l : Int) (v : Value) : Obj := .cells #[.int .i64 n, .int .i64 l, v] 89
theorem rng3 {w : World} {b : Nat} {T : TypeId} {u0 u1 u2 : Value} (h : w.heap[b]? = some (.cells #[u0, u1, u2] T (0, 0))) : w.rangeAt b 0 [u0, u1, u2] := fun j u hj => by
  rw [Nat.zero_add, blk_cell h, ← hj, ← Array.getElem?_toList]
theorem results_cellTT {fn : Func} {p u v : Tmp} {ty : TypeId} (h : fn.results = #[.cell p ty, .tmp u, .tmp v]) (tmps : Array Value) (w : World) (b : Nat) (cs : List Value) (d : TypeDesc) (ev fv : Value) (hp : tmps.getD p undef = .pointer (some ⟨b, 0, none⟩)) (hev : tmps.getD u undef = ev) (hfv : tmps.getD v undef = fv) (hc : w.rangeAt b 0 cs)
    (hu : Try.prog.underlying ty = some d) (hd : d.isRow = true) (hi : (Try.prog.info? ty).map (·.size) = some cs.length) : (results fn tmps).run Try.prog w = .ok (.tuple #[.agg cs.toArray, ev, fv]) w := by
  have hl := run_loadVar_mid w b 0 ty cs d hc hu hd hi
  have hp' : tmps[p]?.getD undef = .pointer (some ⟨b, 0, none⟩) := by simpa using hp
  have hev' : tmps[u]?.getD undef = ev := by simpa using hev
  have hfv' : tmps[v]?.getD undef = fv := by simpa using hfv
  simp only [results, h]
  simp [hp', hev', hfv', asAddr, hl]
/-! ### New -/
set_option maxRecDepth 100000 in
set_option maxHeartbeats 4000000 in
theorem rf_no (t l : Int) (w : World) (h : ¬ Ck.may t l) : Calls Try.prog 38 #[.int .i64 t, .int .i64 l] w fun ev w' => ev = .returned (.tuple #[.agg #[.int .i64 0, .int .i64 0, .slice none 0 0], .bool false]) ∧ Below w.heap.size w w' := by
  have N := Lib.hid h
  have B := Lib.hid (alloc_below0 w (refO 0 0 (.slice none 0 0)))
  clear h
  by_cases h1 : t < 1
  · go_enter Try.func38, Try.ntmps38
    go_wp2
    exact bodyPost_ret (v := .tuple #[.agg #[.int .i64 0, .int .i64 0, .slice none 0 0], .bool false]) (results_cellT rfl _ _ w.heap.size [.int .i64 0, .int .i64 0, .slice none 0 0] _ (.bool false) rfl rfl (rng3 (blk_new w _)) Try.underlying89 rfl (by kernel_rfl)) rfl ⟨rfl, B.out⟩
  · by_cases h2 : 64 < t
    · go_enter Try.func38, Try.ntmps38
      go_wp2
      exact bodyPost_ret (v := .tuple #[.agg #[.int .i64 0, .int .i64 0, .slice none 0 0], .bool false]) (results_cellT rfl _ _ w.heap.size [.int .i64 0, .int .i64 0, .slice none 0 0] _ (.bool false) rfl rfl (rng3 (blk_new w _)) Try.underlying89 rfl (by kernel_rfl)) rfl ⟨rfl, B.out⟩
    · by_cases h3 : l < 1
      · go_enter Try.func38, Try.ntmps38
        go_wp2
        exact bodyPost_ret (v := .tuple #[.agg #[.int .i64 0, .int .i64 0, .slice none 0 0], .bool false]) (results_cellT rfl _ _ w.heap.size [.int .i64 0, .int .i64 0, .slice none 0 0] _ (.bool false) rfl rfl (rng3 (blk_new w _)) Try.underlying89 rfl (by kernel_rfl)) rfl ⟨rfl, B.out⟩
      · have h4 : 1099511627776 < l := by have := N.out; unfold Ck.may at this; omega
        go_enter Try.func38, Try.ntmps38
        go_wp2
        exact bodyPost_ret (v := .tuple #[.agg #[.int .i64 0, .int .i64 0, .slice none 0 0], .bool false]) (results_cellT rfl _ _ w.heap.size [.int .i64 0, .int .i64 0, .slice none 0 0] _ (.bool false) rfl rfl (rng3 (blk_new w _)) Try.underlying89 rfl (by kernel_rfl)) rfl ⟨rfl, B.out⟩
theorem run_makeInt (n : Nat) (hn : n ≤ 100000) (w : World) : (Instr.makeSlice 76 (.int .i64 (n : Int)) (.int .i64 (n : Int))).run Try.prog w = .ok (.slice (some ⟨w.heap.size, 0, none⟩) n n) (w.alloc (.cells (lInt.flat (List.replicate n 0)).toArray 3)) := by
  obtain ⟨i, hi, hzz⟩ := Option.map_eq_some_iff.1 intInfo
  simp only [Prod.mk.injEq] at hzz
  obtain ⟨hz, hs, hb⟩ := hzz
  have h := run_make (P := Try.prog) w 76 3 i _ Try.underlying76 hi hz .i64 .i64 n n (by omega) (Int.le_refl _) (by rw [hb]; omega) (by omega)
  simp only [Int.toNat_natCast, hs] at h
  have e : madeCells #[.int .i64 0] (n * 1) = (lInt.flat (List.replicate n 0)).toArray := by
    apply Array.ext_getElem?
    intro i
    by_cases hi : i < n
    · have q := lInt.flat_at (List.replicate n 0) i 0 0 (by rw [List.getElem?_replicate, if_pos hi]) (by decide)
      simp only [lInt, Nat.mul_one, Nat.add_zero] at q
      rw [show (lInt.flat (List.replicate n 0)).toArray[i]? = (lInt.flat (List.replicate n 0))[i]? by simp]
      unfold lInt
      rw [q]
      unfold madeCells
      rw [Array.getElem?_map, Array.getElem?_range, if_pos (by omega)]
      simp [Nat.mod_one]
    · rw [Array.getElem?_eq_none (by rw [size_madeCells]; omega), Array.getElem?_eq_none (by simp [Lay.flat_len, lInt]; omega)]
  rw [← e]
  exact h
set_option maxRecDepth 100000 in
set_option maxHeartbeats 4000000 in
theorem rf_new (t : Nat) (l : Int) (w : World) (h : Ck.may t l) : Calls Try.prog 38 #[.int .i64 (t : Int), .int .i64 l] w fun ev w' => ∃ v, ev = .returned (.tuple #[refC (Ck.new t l) v, .bool true]) ∧ OwnS lInt w.heap.size w' v (Ck.new t l).L ∧ Below w.heap.size w w' := by
  have hmm := run_makeInt t (by unfold Ck.may at h; omega)
  have h1 : ¬ (t : Int) < 1 := by unfold Ck.may at h; omega
  have h2 : ¬ (64 : Int) < t := by unfold Ck.may at h; omega
  have h3 : ¬ l < 1 := by unfold Ck.may at h; omega
  have h4 : ¬ 1099511627776 < l := by unfold Ck.may at h; omega
  have N := Lib.hid h
  clear h
  go_enter Try.func38, Try.ntmps38
  go_wp2
  have b1 := alloc_below0 w (refO 1 l (.slice (some ⟨w.heap.size + 1, 0, none⟩) t t))
  have k1 := blk_new w (refO 1 l (.slice (some ⟨w.heap.size + 1, 0, none⟩) t t))
  have z1 : (w.alloc (refO 1 l (.slice (some ⟨w.heap.size + 1, 0, none⟩) t t))).heap.size = w.heap.size + 1 := by simp
  have b2 := alloc_below0 (w.alloc (refO 1 l (.slice (some ⟨w.heap.size + 1, 0, none⟩) t t))) (.cells (lInt.flat (List.replicate t 0)).toArray 3)
  have o2 := OwnS.lit lInt w.heap.size (w.alloc (refO 1 l (.slice (some ⟨w.heap.size + 1, 0, none⟩) t t))) (w.heap.size + 1) z1 (List.replicate t 0) (by omega) (by simp [maxLen]; omega)
  rw [List.length_replicate] at o2
  unfold refO at b1 k1 b2 o2
  exact bodyPost_ret (v := .tuple #[.agg #[.int .i64 1, .int .i64 l, .slice (some ⟨w.heap.size + 1, 0, none⟩) t t], .bool true]) (results_cellT rfl _ _ w.heap.size [.int .i64 1, .int .i64 l, .slice (some ⟨w.heap.size + 1, 0, none⟩) t t] _ (.bool true) rfl rfl (rng3 (blk_step k1 b2)) Try.underlying89 rfl (by kernel_rfl)) rfl ⟨_, rfl, o2, b1.trans (b2.mono b1.size)⟩
set_option maxRecDepth 100000 in
set_option maxHeartbeats 4000000 in
theorem rf_bump (c : Ck) (v : Value) (w : World) (hok : c.ok) (hv : OwnS lInt 0 w v c.L) : Calls Try.prog 39 #[refC c v] w fun ev w' => ev = .returned (.tuple #[refC c.bump v, .int .i64 c.bump.n, .int .i64 c.bumpE]) ∧ Below w.heap.size w w' := by
  obtain ⟨va, vc, rfl, -, -⟩ := hv.lenN (n := c.L.length) rfl
  obtain ⟨N, hN⟩ : ∃ N, c.L.length = N := ⟨_, rfl⟩
  rw [hN]
  clear hN hv
  by_cases h1 : c.l ≤ c.n
  · have h2 : (c.n == c.l) = true := by have := hok.nl; simp; omega
    have E := Lib.hid (show c.bumpE = 5 ∧ c.bump = c by unfold Ck.bumpE Ck.bump; rw [if_pos h1, if_pos h1]; exact ⟨rfl, rfl⟩)
    obtain ⟨W, hW⟩ : ∃ W, W = (w.alloc (refO c.n c.l (.slice va N vc))).alloc (refO 0 0 (.slice none 0 0)) := ⟨_, rfl⟩
    have b1 := alloc_below0 w (refO c.n c.l (.slice va N vc))
    have b2 := alloc_below0 (w.alloc (refO c.n c.l (.slice va N vc))) (refO 0 0 (.slice none 0 0))
    have z1 : (w.alloc (refO c.n c.l (.slice va N vc))).heap.size = w.heap.size + 1 := by simp
    have k1 : W.heap[w.heap.size]? = some (refO c.n c.l (.slice va N vc)) := by rw [hW]; exact blk_step (blk_new w _) b2
    have k2 : W.heap[w.heap.size + 1]? = some (refO 0 0 (.slice none 0 0)) := by rw [hW, ← z1]; exact blk_new _ _
    have B0 := Lib.hid (show Below w.heap.size w W by rw [hW]; exact b1.trans (b2.mono b1.size))
    have K1 := Lib.hid k1
    have K2 := Lib.hid k2
    unfold refO at hW
    unfold refC
    clear b1 b2 z1 k1 k2
    go_enter Try.func39, Try.ntmps39
    go_wp2_with fail
    rw [← hW]
    have t0 : W.cell? ⟨w.heap.size, 0, none⟩ = some (.int .i64 c.n) := blk_cell K1.out 0
    have t1 : W.cell? ⟨w.heap.size, 1, none⟩ = some (.int .i64 c.l) := blk_cell K1.out 1
    have t2 : W.cell? ⟨w.heap.size, 2, none⟩ = some (.slice va N vc) := blk_cell K1.out 2
    obtain ⟨q0, q1, q2, q3, q4, q5, q6⟩ := three_facts K2.out (.int .i64 c.n) (.int .i64 c.l) (.slice va N vc)
    clear hW
    go_region_held3 (fun w' => w'.cell? ⟨w.heap.size, 0, none⟩ = some (.int .i64 c.n) ∧ w'.cell? ⟨w.heap.size, 1, none⟩ = some (.int .i64 c.l) ∧ w'.cell? ⟨w.heap.size, 2, none⟩ = some (.slice va N vc)) (first | exact ⟨by assumption, by assumption, by assumption⟩ | go_keep) (fail)
    · have B9 : Below w.heap.size w (((W.setCell ⟨w.heap.size + 1, 0, none⟩ (.int .i64 c.n)).setCell ⟨w.heap.size + 1, 1, none⟩ (.int .i64 c.l)).setCell ⟨w.heap.size + 1, 2, none⟩ (.slice va N vc)) := below_set (below_set (below_set B0.out (by omega) _ _) (by omega) _ _) (by omega) _ _
      have Q6 := Lib.hid q6
      go_wp2
      rw [E.out.1, E.out.2]
      exact bodyPost_ret (v := .tuple #[.agg #[.int .i64 c.n, .int .i64 c.l, .slice va N vc], .int .i64 c.n, .int .i64 5]) (results_cellTT rfl _ _ (w.heap.size + 1) [.int .i64 c.n, .int .i64 c.l, .slice va N vc] _ (.int .i64 c.n) (.int .i64 5) rfl rfl rfl (rng3 Q6.out) Try.underlying89 rfl (by kernel_rfl)) rfl ⟨rfl, B9.drew⟩
  · have h2 : (c.n == c.l) = false := by simp; omega
    have i1 : IntKind.i64.wrap (c.n + 1) = c.n + 1 := Go.IntWalk.i64_in _ (by have := hok.n1; have := hok.lm; omega)
    have E := Lib.hid (show c.bumpE = 0 ∧ c.bump = ⟨c.n + 1, c.l, c.L⟩ by unfold Ck.bumpE Ck.bump; rw [if_neg h1, if_neg h1]; exact ⟨rfl, rfl⟩)
    obtain ⟨W, hW⟩ : ∃ W, W = (w.alloc (refO (c.n + 1) c.l (.slice va N vc))).alloc (refO 0 0 (.slice none 0 0)) := ⟨_, rfl⟩
    have b1 := alloc_below0 w (refO (c.n + 1) c.l (.slice va N vc))
    have b2 := alloc_below0 (w.alloc (refO (c.n + 1) c.l (.slice va N vc))) (refO 0 0 (.slice none 0 0))
    have z1 : (w.alloc (refO (c.n + 1) c.l (.slice va N vc))).heap.size = w.heap.size + 1 := by simp
    have k1 : W.heap[w.heap.size]? = some (refO (c.n + 1) c.l (.slice va N vc)) := by rw [hW]; exact blk_step (blk_new w _) b2
    have k2 : W.heap[w.heap.size + 1]? = some (refO 0 0 (.slice none 0 0)) := by rw [hW, ← z1]; exact blk_new _ _
    have B0 := Lib.hid (show Below w.heap.size w W by rw [hW]; exact b1.trans (b2.mono b1.size))
    have K1 := Lib.hid k1
    have K2 := Lib.hid k2
    unfold refO at hW
    unfold refC
    clear b1 b2 z1 k1 k2
    go_enter Try.func39, Try.ntmps39
    go_wp2_with fail
    rw [← hW]
    have t0 : W.cell? ⟨w.heap.size, 0, none⟩ = some (.int .i64 (c.n + 1)) := blk_cell K1.out 0
    have t1 : W.cell? ⟨w.heap.size, 1, none⟩ = some (.int .i64 c.l) := blk_cell K1.out 1
    have t2 : W.cell? ⟨w.heap.size, 2, none⟩ = some (.slice va N vc) := blk_cell K1.out 2
    obtain ⟨q0, q1, q2, q3, q4, q5, q6⟩ := three_facts K2.out (.int .i64 (c.n + 1)) (.int .i64 c.l) (.slice va N vc)
    clear hW
    go_region_held3 (fun w' => w'.cell? ⟨w.heap.size, 0, none⟩ = some (.int .i64 (c.n + 1)) ∧ w'.cell? ⟨w.heap.size, 1, none⟩ = some (.int .i64 c.l) ∧ w'.cell? ⟨w.heap.size, 2, none⟩ = some (.slice va N vc)) (first | exact ⟨by assumption, by assumption, by assumption⟩ | go_keep) (fail)
    · have B9 : Below w.heap.size w (((W.setCell ⟨w.heap.size + 1, 0, none⟩ (.int .i64 (c.n + 1))).setCell ⟨w.heap.size + 1, 1, none⟩ (.int .i64 c.l)).setCell ⟨w.heap.size + 1, 2, none⟩ (.slice va N vc)) := below_set (below_set (below_set B0.out (by omega) _ _) (by omega) _ _) (by omega) _ _
      have Q6 := Lib.hid q6
      go_wp2
      rw [E.out.1, E.out.2]
      exact bodyPost_ret (v := .tuple #[.agg #[.int .i64 (c.n + 1), .int .i64 c.l, .slice va N vc], .int .i64 (c.n + 1), .int .i64 0]) (results_cellTT rfl _ _ (w.heap.size + 1) [.int .i64 (c.n + 1), .int .i64 c.l, .slice va N vc] _ (.int .i64 (c.n + 1)) (.int .i64 0) rfl rfl rfl (rng3 Q6.out) Try.underlying89 rfl (by kernel_rfl)) rfl ⟨rfl, B9.drew⟩
end Go.Proofs.Ytkkmfacngmginaa
