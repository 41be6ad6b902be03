/- The document's own SameEntries and Same (layer 8) of what reads the same; the laws' own view; by contracts. -/
import Derived.Test.YtkkmfacngmginaaInHelp
namespace Go.Proofs.Ytkkmfacngmginaa
open Go.RowKit

set_option maxRecDepth 100000 in
set_option maxHeartbeats 4000000 in
theorem sameEnts_any (v u : Value) (es : List En) (w : World) (hv : SV lEnt w v es) (hu : SV lEnt w u es) :
    Calls Try.prog 12 #[v, u] w fun ev w' => ev = .returned (.bool true) ∧ Below w.heap.size w w' := by
  obtain ⟨a1, c1, rfl, k1, m1⟩ := hv.lenform
  obtain ⟨a2, c2, rfl, k2, m2⟩ := hu.lenform
  obtain ⟨m, hm⟩ : ∃ m, es.length = m := ⟨_, rfl⟩
  rw [hm] at hv hu k1 k2 ⊢
  have V := Lib.hid (show SV lEnt w (.slice a1 m c1) es ∧ SV lEnt w (.slice a2 m c2) es from ⟨hv, hu⟩)
  have LN := Lib.hid hm
  have t1 : ((m : Int) != (m : Int)) = false := by simp
  unfold maxLen at m1 m2
  clear hv hu hm
  go_enter Try.func12, Try.ntmps12
  go_wp2
  go_loopg [5] m (fun r i wr => ∃ k : Nat, k + r = m ∧ i = .int .i64 k ∧ Below w.heap.size w wr)
  case atStart => exact ⟨0, by omega, rfl, Below.refl _ _⟩
  case round =>
    obtain ⟨k, hk, rfl, hB⟩ := hrel
    have A := Lib.hid (And.intro hB hk)
    clear hB
    by_cases hlt : k < m
    · obtain ⟨b1, o1, hb1⟩ := V.out.1.addr (by rw [LN.out]; omega)
      obtain ⟨b2, o2, hb2⟩ := V.out.2.addr (by rw [LN.out]; omega)
      subst hb1 hb2
      obtain ⟨x, hx⟩ : ∃ x, es[k]? = some x := ⟨_, List.getElem?_eq_getElem (by rw [LN.out]; exact hlt)⟩
      obtain ⟨p, q⟩ := x
      have x1 := cell_step (V.out.1.cellAt (j := 0) hx rfl) A.out.1
      have x2 := cell_step (V.out.1.cellAt (j := 1) hx rfl) A.out.1
      have y1 := cell_step (V.out.2.cellAt (j := 0) hx rfl) A.out.1
      have y2 := cell_step (V.out.2.cellAt (j := 1) hx rfl) A.out.1
      simp only [lEnt, Nat.add_zero] at x1 x2 y1 y2
      have j1 : (0 : Int) ≤ (k : Int) := by omega
      have j2 : (k : Int) < (m : Int) := by omega
      have e1 : (p.toList == p.toList) = true := by simp
      have e2 : (q == q) = true := by simp
      clear hx
      go_wp2
      go_quiet (fail)
      go_wp2
      go_roundg (m - (k + 1))
      case measure => have := A.out.2; omega
      case rel => exact ⟨k + 1, by omega, by go_num, below_drewN A.out.1 _⟩
    · go_wp2
      go_ret
      exact ⟨rfl, A.out.1⟩
def ivCells (v : IvD) (en : Value) : List Value := [.string v.low, .string v.high, .bool v.unb, .int .i64 v.right, en, .bool v.held, .int .i64 v.hp, .int .i64 v.hl, .string v.hk]
end Go.Proofs.Ytkkmfacngmginaa
