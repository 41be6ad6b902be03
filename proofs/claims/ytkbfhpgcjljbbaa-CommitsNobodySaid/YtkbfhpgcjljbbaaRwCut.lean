/- Package rows' own functions (layer 3), by contracts: Cut, Drop, Put. -/
import Derived.Test.YtkbfhpgcjljbbaaRwRight
namespace Go.Proofs.Ytkbfhpgcjljbbaa
open Go.RowKit

theorem lists_of (w : World) (n : Nat) (hn : w.heap.size = n) (vs : List Value) (rss : List (List Rw)) (ty : TypeId) (h : ∀ j, j < vs.length → RowsV w (vs.getD j nilS) (rss.getD j [])) :
    ∀ j, j < vs.length → (w.alloc (.cells vs.toArray ty)).cell? ⟨n, j, none⟩ = some (vs.getD j nilS) ∧ RowsV (w.alloc (.cells vs.toArray ty)) (vs.getD j nilS) (rss.getD j []) := fun j hj => by
  subst hn
  exact ⟨by rw [cell_new]; simp [List.getD, hj], (h j hj).alloc _⟩
theorem concat2 (w : World) (n : Nat) (hn : w.heap.size = n) (v1 v2 : Value) (r1 r2 : List Rw) (h1 : RowsV w v1 r1) (h2 : RowsV w v2 r2) (hl : r1.length + r2.length ≤ 10000) :
    Calls Try.prog 63 #[.slice (some ⟨n, 0, none⟩) 2 2] (w.alloc (.cells #[v1, v2] 38)) fun ev w' => ∃ v', ev = .returned v' ∧ OwnR n w' v' (r1 ++ r2) ∧ Below n w w' := by
  have h := lists_of w n hn [v1, v2] [r1, r2] 38 (fun j hj => by
    rcases j with _ | _ | j
    · exact h1
    · exact h2
    · simp at hj; omega)
  refine (concat_any n 2 [v1, v2] [r1, r2] _ h (by omega) rfl (by simpa using hl)).mono ?_
  rintro ev w' ⟨v', rfl, ho, hs⟩
  subst hn
  have hb := (alloc_below0 w (.cells #[v1, v2] 38))
  exact ⟨v', rfl, by simpa using ho.mono hb.size, hb.trans (hs.mono hb.size)⟩
theorem concat3 (w : World) (n : Nat) (hn : w.heap.size = n) (v1 v2 v3 : Value) (r1 r2 r3 : List Rw) (h1 : RowsV w v1 r1) (h2 : RowsV w v2 r2) (h3 : RowsV w v3 r3) (hl : r1.length + r2.length + r3.length ≤ 10000) :
    Calls Try.prog 63 #[.slice (some ⟨n, 0, none⟩) 3 3] (w.alloc (.cells #[v1, v2, v3] 38)) fun ev w' => ∃ v', ev = .returned v' ∧ OwnR n w' v' (r1 ++ (r2 ++ r3)) ∧ Below n w w' := by
  have h := lists_of w n hn [v1, v2, v3] [r1, r2, r3] 38 (fun j hj => by
    rcases j with _ | _ | _ | j
    · exact h1
    · exact h2
    · exact h3
    · simp at hj; omega)
  refine (concat_any n 3 [v1, v2, v3] [r1, r2, r3] _ h (by omega) rfl (by simp; omega)).mono ?_
  rintro ev w' ⟨v', rfl, ho, hs⟩
  subst hn
  have hb := (alloc_below0 w (.cells #[v1, v2, v3] 38))
  exact ⟨v', rfl, by simpa using ho.mono hb.size, hb.trans (hs.mono hb.size)⟩

theorem RowsV.dropE {w : World} {b off n cap : Nat} {rs : List Rw} (h : RowsV w (.slice (some ⟨b, off, none⟩) n cap) rs) (hk : cap ≤ rs.length) (hk2 : rs.length ≤ cap) : RowsV w (.slice (some ⟨b, off, none⟩) 0 0) (rs.drop cap) := by
  have e := h.dropI hk
  have e2 : rs.length - cap = 0 := by omega
  rw [e2] at e
  simpa using e
end Go.Proofs.Ytkbfhpgcjljbbaa
