/- slices.Backward over lists of writes, by contract: the lists come, the last one first (layer 16). -/
import Derived.Test.YtkbfhpgcjljbbaaCmInv
import Derived.RangeFuncNested
import Derived.RangeFuncBound
import Derived.RangeFuncCalls
import Derived.RangeFuncLeaves
import Derived.RangeFuncBox
import Derived.Shelf.Abstract
import Derived.Shelf.RegionOpen
import Derived.WalkKit
import Derived.OwnWalkIn
import Derived.TacticsInMore
import Derived.LoopNIn
import Derived.LoopIn
namespace Go.Proofs.Ytkbfhpgcjljbbaa
set_option linter.unusedVariables false
set_option linter.unusedSimpArgs false
open Go.RowKit Go.Shelf

attribute [local go_sem] Oper.semAt_some

/-- what has come when k rounds are over -/
def downTo (m k : Nat) : List (Fin m) := (List.finRange m).reverse.take k
theorem downTo_len {m k : Nat} (h : k ≤ m) : (downTo m k).length = k := by unfold downTo; simp; omega
theorem downTo_succ {m k r : Nat} (h : k + (r + 1) = m) (hr : r < m) : downTo m (k + 1) = downTo m k ++ [⟨r, hr⟩] := by
  unfold downTo
  have hk : k < (List.finRange m).reverse.length := by simp; omega
  rw [List.take_succ_eq_append_getElem hk]
  congr 2
  rw [List.getElem_reverse]
  simp only [List.getElem_finRange, List.length_finRange, Fin.cast_mk, Fin.mk.injEq]
  omega
theorem downTo_all (m : Nat) : downTo m m = (List.finRange m).reverse := by unfold downTo; rw [List.take_of_length_le (by simp)]
def slD : Sl := (none, 0, 0)
def slV (ss : List Sl) (i : Nat) : Value := (ss.getD i slD).v
/-- what a round is handed: the number, and the list -/
def bwdE (ss : List Sl) (m : Nat) (i : Fin m) : Array Value := #[.int .i64 (i.1 : Int), slV ss i.1]
set_option maxRecDepth 100000 in
set_option maxHeartbeats 2000000 in
theorem bwd1_in (F : Fence) (n : Nat) (h7 : F.fn 57) (hro : F.round = none) (hn : 1 ≤ n) (l Bs n₀ m cap : Nat) (a : Option Addr) (ss : List Sl) (hm : m ≤ 1000) (J Jx : List (Fin m) → World → Prop)
    (hY : ∀ pre x W, J pre W → pre.length < m → YieldAt F (n - 1) Try.prog l (bwdE ss m x) W fun e W' =>
      (e = .returned (.bool true) ∧ J (pre ++ [x]) W' ∧ Below n₀ W W') ∨ (e = .returned (.bool false) ∧ Jx (pre ++ [x]) W'))
    (W : World) (hBs : W.cell? ⟨Bs, 0, none⟩ = some (.slice a m cap)) (hBn : Bs < n₀) (hc : 0 < m → ∃ b off, a = some ⟨b, off, none⟩ ∧ b < n₀ ∧ ∀ j, j < m → W.cell? ⟨b, off + j, none⟩ = some (slV ss j)) (h0 : J [] W) :
    CallsIn F n Try.prog 57 #[.func (.yield l) #[] #[], .pointer (some ⟨Bs, 0, none⟩)] W fun e W' => (∃ v, e = .returned v) ∧
      ((∃ ys, ys = downTo m m ∧ J ys W') ∨ (∃ pre, (∃ k, k ≤ m ∧ pre = downTo m k) ∧ Jx pre W')) := by
  refine callsIn_of_wp Try.func57 rfl h7 ?_ hro
  simp only [Try.ntmps57, List.size_toArray, List.length_cons, List.length_nil, Nat.reduceAdd, Nat.reduceSub, Array.replicate_succ, Array.replicate_zero, List.push_toArray, List.append_toArray, List.nil_append, List.cons_append]
  have i1 : IntKind.i64.wrap ((m : Int) - 1) = (m : Int) - 1 := Go.IntWalk.i64_in _ (by omega)
  gi_wp2
  gi_loopw [3] (fun i wr => ∃ k r : Nat, k + r = m ∧ i = .int .i64 ((r : Int) - 1) ∧ J (downTo m k) wr ∧ Below n₀ W wr)
    (fun i _ => (intOf i + 1).toNat)
  case atStart => exact ⟨0, m, by omega, rfl, h0, Below.refl _ _⟩
  case round =>
    obtain ⟨k, r, hk, rfl, hJs, hnx⟩ := hrel
    cases r with
    | zero =>
      gi_wp2
      go_end0
      exact ⟨⟨_, rfl⟩, .inl ⟨_, by rw [show k = m by omega], hJs⟩⟩
    | succ r =>
      obtain ⟨b, off, ea, hb, hcs⟩ := hc (by omega)
      subst ea
      obtain ⟨a2, n2, c2, es⟩ : ∃ a2 n2 c2, slV ss r = .slice a2 n2 c2 := ⟨_, _, _, rfl⟩
      have x0 : wr.cell? ⟨b, off + r, none⟩ = some (.slice a2 n2 c2) := by
        have := (hnx.cell (p := ⟨b, off + r, none⟩) hb).trans (hcs r (by omega))
        rw [es] at this; exact this
      have x1 : wr.cell? ⟨Bs, 0, none⟩ = some (.slice (some ⟨b, off, none⟩) m cap) := (hnx.cell (p := ⟨Bs, 0, none⟩) hBn).trans hBs
      have hr : r < m := by omega
      have HK := Lib.hid hk
      have HN := Lib.hid hnx
      have HD := Lib.hid (downTo_succ hk hr)
      have i2 : IntKind.i64.wrap ((r : Int) - 1) = (r : Int) - 1 := Go.IntWalk.i64_in _ (by omega)
      have j1 : (0 : Int) ≤ (r : Int) := by omega
      have j2 : (r : Int) < (m : Int) := by omega
      obtain ⟨fn, tmps, assign, body, hy, hR⟩ := hY _ ⟨r, hr⟩ wr hJs (by rw [downTo_len (by omega)]; omega)
      unfold bwdE at hy
      simp only [es] at hy
      clear hk hnx hcs hc hY
      rw [show ((r + 1 : Nat) : Int) - 1 = (r : Int) by omega]
      gi_wp2
      refine hR.mono ?_
      rintro e W3 (⟨rfl, hJ3, hk3⟩ | ⟨rfl, hJx3⟩)
      · gi_wp2
        go_roundw
        case rel => exact ⟨k + 1, r, by have := HK.out; omega, rfl, by rw [HD.out]; exact hJ3, HN.out.trans hk3⟩
        case measure => simp [intOf]
      · gi_wp2
        refine bodyPost_ret (results_none rfl _ _ _) rfl ?_
        exact ⟨⟨_, rfl⟩, .inr ⟨_, ⟨k + 1, by have := HK.out; omega, HD.out.symm⟩, hJx3⟩⟩
set_option maxHeartbeats 1000000 in
theorem bwd_in (F : Fence) (n : Nat) (h5 : F.fn 43) (hro : F.round = none) (a : Option Addr) (len cap : Nat) (w : World) :
    CallsIn F n Try.prog 43 #[.slice a len cap] w fun e w' => e = .returned (.func (.func 57) #[] #[.pointer (some ⟨w.heap.size, 0, none⟩)]) ∧ w' = w.alloc (.cells #[.slice a len cap] 84) := by
  refine callsIn_of_wp Try.func43 rfl h5 ?_ hro
  simp only [Try.ntmps43, List.size_toArray, List.length_cons, List.length_nil, Nat.reduceAdd, Nat.reduceSub, Array.replicate_succ, Array.replicate_zero, List.push_toArray, List.append_toArray, List.nil_append, List.cons_append]
  gi_wp2
  go_ret
  exact ⟨rfl, rfl⟩
/-- slices.Backward(parts): the parts come, the last one first -/
theorem bwd_stops (F : Fence) (n : Nat) (h7 : F.fn 57) (hro : F.round = none) (hn : 1 ≤ n) (Bs m cap : Nat) (a : Option Addr) (ss : List Sl) (hm : m ≤ 1000) (w : World) (hBs : Bs < w.heap.size)
    (hcell : w.cell? ⟨Bs, 0, none⟩ = some (.slice a m cap)) (hc : 0 < m → ∃ b off, a = some ⟨b, off, none⟩ ∧ b < w.heap.size ∧ ∀ j, j < m → w.cell? ⟨b, off + j, none⟩ = some (slV ss j)) :
    SeqStopsK F n Try.prog 57 #[.pointer (some ⟨Bs, 0, none⟩)] (bwdE ss m) (Below w.heap.size) (fun ys => ys = downTo m m) (fun pre => ∃ k, k ≤ m ∧ pre = downTo m k) m w := fun l J Jx W hW _ _ hY h0 =>
  bwd1_in F n h7 hro hn l Bs w.heap.size m cap a ss hm J Jx hY W ((hW.cell (p := ⟨Bs, 0, none⟩) hBs).trans hcell) hBs (fun h => let ⟨b, off, e, hb, hj⟩ := hc h; ⟨b, off, e, hb, fun j hj' => (hW.cell (p := ⟨b, off + j, none⟩) hb).trans (hj j hj')⟩) h0
end Go.Proofs.Ytkbfhpgcjljbbaa
