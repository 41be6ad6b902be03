/- The document's own SameEntries and Same (layer 8) of what reads the same; the laws' own view; by contracts. -/
import Derived.Test.YtghdlfpobfimlaaInHelp
namespace Go.Proofs.Ytghdlfpobfimlaa
open Go.RowKit

set_option maxRecDepth 100000 in
set_option maxHeartbeats 4000000 in
theorem sameEnts_any (v u : Value) (es : List En) (w : World) (hv : SV lEnt w v es) (hu : SV lEnt w u es) :
    Calls Try.prog 16 #[v, u] w fun ev w' => ev = .returned (.bool true) ∧ Below w.heap.size w w' := by
  obtain ⟨a1, c1, rfl, k1, m1⟩ := hv.lenform
  obtain ⟨a2, c2, rfl, k2, m2⟩ := hu.lenform
  obtain ⟨m, hm⟩ : ∃ m, es.length = m := ⟨_, rfl⟩
  rw [hm] at hv hu k1 k2 ⊢
  have V := Lib.hid (show SV lEnt w (.slice a1 m c1) es ∧ SV lEnt w (.slice a2 m c2) es from ⟨hv, hu⟩)
  have LN := Lib.hid hm
  have t1 : ((m : Int) != (m : Int)) = false := by simp
  unfold maxLen at m1 m2
  clear hv hu hm
  go_enter Try.func16, Try.ntmps16
  go_wp2
  go_loopg [5] m (fun r i wr => ∃ k : Nat, k + r = m ∧ i = .int .i64 k ∧ Below w.heap.size w wr)
  case atStart => exact ⟨0, by omega, rfl, Below.refl _ _⟩
  case round =>
    obtain ⟨k, hk, rfl, hB⟩ := hrel
    have A := Lib.hid (And.intro hB hk)
    clear hB
    by_cases hlt : k < m
    · obtain ⟨b1, o1, hb1⟩ := V.out.1.addr (by rw [LN.out]; omega)
      obtain ⟨b2, o2, hb2⟩ := V.out.2.addr (by rw [LN.out]; omega)
      subst hb1 hb2
      obtain ⟨x, hx⟩ : ∃ x, es[k]? = some x := ⟨_, List.getElem?_eq_getElem (by rw [LN.out]; exact hlt)⟩
      obtain ⟨p, q⟩ := x
      have x1 := cell_step (V.out.1.cellAt (j := 0) hx rfl) A.out.1
      have x2 := cell_step (V.out.1.cellAt (j := 1) hx rfl) A.out.1
      have y1 := cell_step (V.out.2.cellAt (j := 0) hx rfl) A.out.1
      have y2 := cell_step (V.out.2.cellAt (j := 1) hx rfl) A.out.1
      simp only [lEnt, Nat.add_zero] at x1 x2 y1 y2
      have j1 : (0 : Int) ≤ (k : Int) := by omega
      have j2 : (k : Int) < (m : Int) := by omega
      have e1 : (p.toList == p.toList) = true := by simp
      have e2 : (q == q) = true := by simp
      clear hx
      go_wp2
      go_quiet (fail)
      go_wp2
      go_roundg (m - (k + 1))
      case measure => have := A.out.2; omega
      case rel => exact ⟨k + 1, by omega, by go_num, below_drewN A.out.1 _⟩
    · go_wp2
      go_ret
      exact ⟨rfl, A.out.1⟩
def ivObjR (v : IvD) (en : Value) : Obj := .cells #[.string v.low, .string v.high, .bool v.unb, .int .i64 v.right, en, .bool v.held, .int .i64 v.hp, .int .i64 v.hl, .string v.hk] 56
def ivCells (v : IvD) (en : Value) : List Value := [.string v.low, .string v.high, .bool v.unb, .int .i64 v.right, en, .bool v.held, .int .i64 v.hp, .int .i64 v.hl, .string v.hk]
set_option maxRecDepth 100000 in
set_option maxHeartbeats 4000000 in
theorem sameI_any (v : IvD) (en un : Value) (w : World) (hv : SV lEnt w en v.ents) (hu : SV lEnt w un v.ents) :
    Calls Try.prog 19 #[ivVal v en, ivVal v un] w fun ev w' => ev = .returned (.bool true) ∧ Below w.heap.size w w' := by
  obtain ⟨a1, c1, rfl, -, -⟩ := hv.lenform
  obtain ⟨a2, c2, rfl, -, -⟩ := hu.lenform
  obtain ⟨m, hm⟩ : ∃ m, v.ents.length = m := ⟨_, rfl⟩
  rw [hm] at hv hu ⊢
  clear hm
  have bb := (alloc_below0 w (ivObjR v (.slice a1 m c1))).trans ((alloc_below0 (w.alloc (ivObjR v (.slice a1 m c1))) (ivObjR v (.slice a2 m c2))).mono (alloc_below0 w _).size)
  have B := Lib.hid bb
  have V := Lib.hid (show SV lEnt ((w.alloc (ivObjR v (.slice a1 m c1))).alloc (ivObjR v (.slice a2 m c2))) (.slice a1 m c1) v.ents ∧ SV lEnt ((w.alloc (ivObjR v (.slice a1 m c1))).alloc (ivObjR v (.slice a2 m c2))) (.slice a2 m c2) v.ents from ⟨hv.below bb, hu.below bb⟩)
  clear hv hu bb
  unfold ivObjR at B V
  have e1 : (v.low.toList == v.low.toList) = true := by simp
  have e2 : (v.high.toList == v.high.toList) = true := by simp
  have e3 : (v.unb == v.unb) = true := by simp
  have e4 : (v.right == v.right) = true := by simp
  have e5 : (v.held == v.held) = true := by simp
  have e6 : (v.hp == v.hp) = true := by simp
  have e7 : (v.hl == v.hl) = true := by simp
  have e8 : (v.hk.toList == v.hk.toList) = true := by simp
  unfold ivVal
  go_enter Try.func19, Try.ntmps19
  go_wp2_with fail
  refine (sameEnts_any _ _ v.ents _ V.out.1 V.out.2).mono ?_
  rintro ev w1 ⟨rfl, hs⟩
  have B1 := Lib.hid (B.out.trans (hs.mono B.out.size))
  clear hs
  go_wp2
  go_ret
  exact ⟨rfl, B1.out⟩
set_option maxHeartbeats 4000000 in
theorem viewI_any (v : IvD) (a : Option Addr) (n c : Nat) (w : World) : Calls Try.prog 20 #[ivVal v (.slice a n c)] w fun ev w' => ev = .returned (ivVal v (.slice a n c)) ∧ Below w.heap.size w w' := by
  have hz : (w.alloc (ivObj v (.slice a n c))).heap.size = w.heap.size + 1 := by simp
  have B := Lib.hid ((alloc_below0 w (ivObj v (.slice a n c))).trans ((alloc_below0 (w.alloc (ivObj v (.slice a n c))) (ivObjR v (.slice a n c))).mono (alloc_below0 w _).size))
  have R := Lib.hid (show ((w.alloc (ivObj v (.slice a n c))).alloc (ivObjR v (.slice a n c))).rangeAt (w.heap.size + 1) 0 (ivCells v (.slice a n c)) from fun j u hj => by
    rw [Nat.zero_add, ivObjR, World.cell?_alloc_at _ _ _ _ hz.symm]
    rw [← hj, ← Array.getElem?_toList]; rfl)
  clear hz
  unfold ivObj ivObjR at B R
  unfold ivVal
  go_enter Try.func20, Try.ntmps20
  go_wp2
  (try simp only [Exit.inBlock, Exit.then])
  refine bodyPost_ret (v := .agg (ivCells v (.slice a n c)).toArray) (results_cell1 rfl _ _ (w.heap.size + 1) _ _ rfl R.out Try.underlying56 rfl (by kernel_rfl)) rfl ⟨rfl, B.out⟩
end Go.Proofs.Ytghdlfpobfimlaa
