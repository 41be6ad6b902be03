/- errors.as at **api.Fault, errors.As at both targets, and fault.Code over a chain, by contracts. -/
import Derived.Test.YtejmdmaebkdjoaaGreatDoorFltChain
import Derived.Defers
import Derived.Recover
namespace Go.Proofs.YtejmdmaebkdjoaaGreatDoor.Fl
set_option linter.unusedVariables false
set_option linter.unusedSimpArgs false
set_option maxRecDepth 100000
set_option maxHeartbeats 4000000
open Go.RowKit Go.Extern.Stop Go.Stop Go.Extern
def Glob (w : World) : Prop := w.cell? ⟨0, 0, none⟩ = some (.iface 208 (.agg #[.pointer (some ⟨1, 30, none⟩)]))
theorem Glob.below {w w' : World} (hb : Below w.heap.size w w') (h : Glob w) : Glob w' := by
 unfold Glob at h ⊢
 rw [hb.cell (p := ⟨0, 0, none⟩) (lt_of_cell h)]; exact h
def SetB (w : World) (tb : Nat) (v : Value) (w' : World) : Prop := Below w.heap.size (w.setCell ⟨tb, 0, none⟩ v) w'
theorem setCell_size (w : World) (a : Addr) (v : Value) : (w.setCell a v).heap.size = w.heap.size := by simp [World.setCell]
theorem SetB.cell {w w' : World} {tb : Nat} {v old : Value} (h : SetB w tb v w') (ht : w.cell? ⟨tb, 0, none⟩ = some old) : w'.cell? ⟨tb, 0, none⟩ = some v := by
 have hlt := lt_of_cell ht
 rw [Below.cell (p := ⟨tb, 0, none⟩) h hlt, World.cell?_setCell_same' _ _ _ (by simp [ht])]
theorem SetB.frozen {w w' : World} {tb : Nat} {v : Value} (h : SetB w tb v w') (b : Nat) (hb : b < w.heap.size) : w'.frozen? ⟨b, 0, none⟩ = w.frozen? ⟨b, 0, none⟩ := by
 rw [Below.frozen (p := ⟨b, 0, none⟩) h hb, World.frozen?_setCell]
theorem SetB.below {w w' : World} {tb : Nat} {v : Value} (h : SetB w tb v w') (hle : tb ≤ w.heap.size) : Below tb w w' :=
 ((Below.refl tb w).setCell (p := ⟨tb, 0, none⟩) (Nat.le_refl _) v).trans (h.mono hle)
theorem SetB.mk2 {w : World} {tb : Nat} {v : Value} (a b : Obj) : SetB w tb v (((w.setCell ⟨tb, 0, none⟩ v).alloc a).alloc b) :=
 ((Below.refl _ _).alloc (by rw [setCell_size]; exact Nat.le_refl _) a).alloc (by simp) b
theorem as_codeB (l : List (ByteArray × Int)) (c : Int) (e : Value) (tb ab : Nat) (old : Value) (w : World) (h : Chn w e l c) (ha : w.cell? ⟨ab, 0, none⟩ = some (.pointer (some ⟨tb, 0, none⟩))) (ht : w.cell? ⟨tb, 0, none⟩ = some old) (hf : w.frozen? ⟨tb, 0, none⟩ = false) :
  Calls Tryz.prog 96 #[e, .iface 134 (.pointer (some ⟨tb, 0, none⟩)), .agg #[.pointer (some ⟨1, 134, none⟩), .pointer (some ⟨ab, 0, none⟩), .int .u64 150], .iface 208 (.agg #[.pointer (some ⟨1, 65, none⟩)])] w fun ev w' => ev = .returned (.bool true) ∧ SetB w tb (.int .i64 c) w' := by
 have hlt := lt_of_cell ht
 refine (as_code l c e tb ab old w h ha ht hf).mono ?_
 rintro ev w' ⟨rfl, rfl⟩
 refine ⟨rfl, ?_⟩
 rw [World.setCell_alloc_past _ _ _ _ (by simp; omega), World.setCell_alloc_past _ _ _ _ hlt]
 exact SetB.mk2 _ _
theorem As_nil (t : Value) (w : World) :
  Calls Tryz.prog 63 #[.nilIface, t] w fun e w' => e = .returned (.bool false) ∧ w = w' := by
 go_enter Tryz.func63, Tryz.ntmps63
 go_wp2
 go_ret
 exact ⟨rfl, rfl⟩
def asW (T tb : Nat) (w : World) : World := (w.alloc (.cells #[.pointer (some ⟨tb, 0, none⟩)] T)).alloc (.cells #[.pointer (some ⟨1, T, none⟩), .pointer (some ⟨w.heap.size, 0, none⟩), .int .u64 150] 185)
theorem As_C (u : Nat) (v : Value) (tb : Nat) (old : Value) (w : World) (hg : Glob w) (ht : w.cell? ⟨tb, 0, none⟩ = some old) (post : Ending → World → Prop)
  (h : Calls Tryz.prog 96 #[.iface u v, .iface 134 (.pointer (some ⟨tb, 0, none⟩)), .agg #[.pointer (some ⟨1, 134, none⟩), .pointer (some ⟨w.heap.size, 0, none⟩), .int .u64 150], .iface 208 (.agg #[.pointer (some ⟨1, 65, none⟩)])] (asW 134 tb w) fun ev w' => ∃ x, ev = .returned (.bool x) ∧ post ev w') :
  Calls Tryz.prog 63 #[.iface u v, .iface 134 (.pointer (some ⟨tb, 0, none⟩))] w post := by
 have x3 := x_valueOf
 have x4 := x_type
 have x5 := x_isNil
 have x6 := x_kind
 have x7 := x_elem
 have x8 := x_implements
 have m1 := m_kind
 have m2 := m_elem
 have m3 := m_implements
 have v1 := valueOfPC
 have t1 := typePC
 have k1 := kindPC
 have k2 := kindC
 have e1 := elemPC
 have i1 := implC
 have hlt := lt_of_cell ht
 have hlg : 0 < w.heap.size := lt_of_cell hg
 have n8 := isNilPC ⟨w.heap.size, 0, none⟩ ⟨tb, 0, none⟩ (asW 134 tb w) (by unfold asW; simp)
 have hg2 : (asW 134 tb w).cell? ⟨0, 0, none⟩ = some (.iface 208 (.agg #[.pointer (some ⟨1, 30, none⟩)])) := by
  unfold asW
  rw [World.cell?_alloc_lt _ _ ⟨0, 0, none⟩ (by simp), World.cell?_alloc_lt _ _ ⟨0, 0, none⟩ hlg]; exact hg
 have A : Aside (Calls _ _ _ _ _) := h
 clear h
 unfold asW at n8 hg2
 go_enter Tryz.func63, Tryz.ntmps63
 go_wp2_with fail
 refine A.out.mono ?_
 rintro ev w' ⟨x, rfl, hp⟩
 have B : Aside (post (.returned (.bool x)) w') := hp
 clear hp A
 go_wp2
 exact B.out
theorem asW_below (T tb : Nat) (w : World) : Below w.heap.size w (asW T tb w) :=
 ((Below.refl _ _).alloc (Nat.le_refl _) _).alloc (by simp) _
theorem asW_size (T tb : Nat) (w : World) : (asW T tb w).heap.size = w.heap.size + 2 := by simp [asW]
theorem asW_val (T tb : Nat) (w : World) : (asW T tb w).cell? ⟨w.heap.size, 0, none⟩ = some (.pointer (some ⟨tb, 0, none⟩)) := by
 unfold asW; rw [World.cell?_alloc_lt _ _ ⟨w.heap.size, 0, none⟩ (by simp)]; simp
theorem SetB.ofAs {T tb : Nat} {w w' : World} {v : Value} (hlt : tb < w.heap.size) (h : SetB (asW T tb w) tb v w') : SetB w tb v w' := by
 have e : (asW T tb w).setCell ⟨tb, 0, none⟩ v = ((w.setCell ⟨tb, 0, none⟩ v).alloc (.cells #[.pointer (some ⟨tb, 0, none⟩)] T)).alloc (.cells #[.pointer (some ⟨1, T, none⟩), .pointer (some ⟨w.heap.size, 0, none⟩), .int .u64 150] 185) := by
  unfold asW
  rw [World.setCell_alloc_past _ _ _ _ (by simp; omega), World.setCell_alloc_past _ _ _ _ hlt]
 unfold SetB at h ⊢
 rw [e] at h
 exact (SetB.mk2 _ _).trans (h.mono (by rw [asW_size]; omega))
theorem As_code (l : List (ByteArray × Int)) (c : Int) (e : Value) (tb : Nat) (old : Value) (w : World) (h : Chn w e l c) (hg : Glob w) (ht : w.cell? ⟨tb, 0, none⟩ = some old) (hf : w.frozen? ⟨tb, 0, none⟩ = false) :
  Calls Tryz.prog 63 #[e, .iface 134 (.pointer (some ⟨tb, 0, none⟩))] w fun ev w' => ev = .returned (.bool true) ∧ SetB w tb (.int .i64 c) w' := by
 have hlt := lt_of_cell ht
 obtain ⟨u, v, rfl⟩ := h.held
 refine As_C u v tb old w hg ht _ ((as_codeB l c _ tb w.heap.size old _ (h.below (asW_below _ _ _)) (asW_val _ _ _) ?_ ?_).mono ?_)
 ·rw [(asW_below _ tb w).cell (p := ⟨tb, 0, none⟩) hlt]; exact ht
 ·rw [(asW_below _ tb w).frozen (p := ⟨tb, 0, none⟩) hlt]; exact hf
 ·rintro ev w' ⟨rfl, hs⟩
  exact ⟨_, rfl, rfl, hs.ofAs hlt⟩
end Go.Proofs.YtejmdmaebkdjoaaGreatDoor.Fl
