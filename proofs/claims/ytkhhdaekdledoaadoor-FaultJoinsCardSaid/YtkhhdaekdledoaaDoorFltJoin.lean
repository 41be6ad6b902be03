/- fault.Code, fault.findFault and fault.firstFault at whatever errors.As finds, by contracts; two errors joined in memory, and errors.as over such a join. -/
import Derived.Test.YtkhhdaekdledoaaDoorFltMade
namespace Go.Proofs.YtkhhdaekdledoaaDoor
open Go.RowKit Go.Extern.Stop Go.Stop Go.Extern

set_option maxRecDepth 100000 in
set_option maxHeartbeats 4000000 in
theorem Code_of (c : Int) (e : Value) (w : World) (h : ∀ w0, Below w.heap.size w w0 → w0.cell? ⟨w.heap.size, 0, none⟩ = some (.int .i64 0) → w0.frozen? ⟨w.heap.size, 0, none⟩ = false → Calls Tryd.prog 27 #[e, .iface 56 (.pointer (some ⟨w.heap.size, 0, none⟩))] w0 fun ev w' => ev = .returned (.bool true) ∧ SetB w0 w.heap.size (.int .i64 c) w') :
    Calls Tryd.prog 13 #[e] w fun ev w' => ev = .returned (.int .i64 c) ∧ Below w.heap.size w w' := by
  have hmf := run_makeFunc
  have hnot := run_not
  have hb : Below w.heap.size w (w.alloc (.cells #[.int .i64 0] 24)) := (Below.refl _ _).alloc (Nat.le_refl _) _
  have hC := h (w.alloc (.cells #[.int .i64 0] 24)) hb (by simp) (by simp [go_sem])
  have A : Aside (Calls _ _ _ _ _) := hC
  have B0 : Aside (Below _ _ _) := hb
  clear hC h hb
  go_enter_defers Tryd.func13, Tryd.ntmps13
  go_wp2_with fail
  refine A.out.mono ?_
  rintro ev w1 ⟨rfl, hs⟩
  have hc1 := hs.cell (old := .int .i64 0) (by simp)
  have hf1 := hs.frozen w.heap.size (by simp)
  simp [go_sem] at hf1
  have B : Aside (Below _ _ _) := hs.below (by simp)
  have hlt := lt_of_cell hc1
  clear hs A
  go_wp2
  refine leaves_cons (f := 26) (args := #[.pointer (some ⟨w.heap.size, 0, none⟩)]) (by simp) (by simp [go_sem]) ?_
  refine (code_idle ⟨w.heap.size, 0, none⟩ _).mono ?_
  rintro e u' w'' ⟨rfl, rfl, rfl⟩
  have hd : Below w.heap.size w (w1.setCell ⟨w.heap.size, 0, none⟩ (.int .i64 c)) := (B0.out.trans B.out).setCell (Nat.le_refl _) _
  have hv : (w1.setCell ⟨w.heap.size, 0, none⟩ (.int .i64 c)).cell? ⟨w.heap.size, 0, none⟩ = some (.int .i64 c) := World.cell?_setCell_same' _ _ _ (by simp [hc1])
  have D : Aside (Below _ _ _) := hd
  clear hd B0 B
  simp [Leaves, settle, results, Tryd.results13, go_sem, hv]
  exact D.out
set_option maxHeartbeats 4000000 in
/-- findFault where errors.As finds a fault. -/
theorem find_of (e : Value) (b : Nat) (w : World) (h : ∀ w0, Below w.heap.size w w0 → w0.cell? ⟨w.heap.size, 0, none⟩ = some (.pointer none) → w0.frozen? ⟨w.heap.size, 0, none⟩ = false → Calls Tryd.prog 27 #[e, .iface 79 (.pointer (some ⟨w.heap.size, 0, none⟩))] w0 fun ev w' => ev = .returned (.bool true) ∧ SetB w0 w.heap.size (.pointer (some ⟨b, 0, none⟩)) w') :
    Calls Tryd.prog 28 #[e] w fun ev w' => ev = .returned (.tuple #[.pointer (some ⟨b, 0, none⟩), .bool true]) ∧ Below w.heap.size w w' := by
  have hmf := run_makeFunc
  have hnot := run_not
  have hb : Below w.heap.size w ((w.alloc (.cells #[.pointer none] 50)).alloc (.cells #[.bool false] 4)) := ((Below.refl _ _).alloc (Nat.le_refl _) _).alloc (by simp) _
  have c0 : ((w.alloc (.cells #[.pointer none] 50)).alloc (.cells #[.bool false] 4)).cell? ⟨w.heap.size, 0, none⟩ = some (.pointer none) := by rw [World.cell?_alloc_lt _ _ ⟨w.heap.size, 0, none⟩ (by simp)]; simp
  have f0 : ((w.alloc (.cells #[.pointer none] 50)).alloc (.cells #[.bool false] 4)).frozen? ⟨w.heap.size, 0, none⟩ = false := by rw [World.frozen?_alloc_old _ _ ⟨w.heap.size, 0, none⟩ (by simp)]; simp [go_sem]
  have c1 : ((w.alloc (.cells #[.pointer none] 50)).alloc (.cells #[.bool false] 4)).cell? ⟨w.heap.size + 1, 0, none⟩ = some (.bool false) := by rw [World.cell?_alloc_at _ _ _ _ (by simp)]; rfl
  have f1 : ((w.alloc (.cells #[.pointer none] 50)).alloc (.cells #[.bool false] 4)).frozen? ⟨w.heap.size + 1, 0, none⟩ = false := by simp [go_sem]
  have hz : ((w.alloc (.cells #[.pointer none] 50)).alloc (.cells #[.bool false] 4)).heap.size = w.heap.size + 2 := by simp
  have hC := h ((w.alloc (.cells #[.pointer none] 50)).alloc (.cells #[.bool false] 4)) hb c0 f0
  have A : Aside (Calls _ _ _ _ _) := hC
  have B0 : Aside (Below _ _ _) := hb
  have C : Aside (_ = some (Value.pointer none) ∧ _ = false ∧ _ = some (Value.bool false) ∧ _ = false ∧ _ = w.heap.size + 2) := ⟨c0, f0, c1, f1, hz⟩
  clear hC h hb c0 f0 c1 f1 hz
  go_enter_defers Tryd.func28, Tryd.ntmps28
  go_wp2_with fail
  refine A.out.mono ?_
  rintro ev w1 ⟨rfl, hs⟩
  obtain ⟨c0, f0, c1, f1, hz⟩ := C.out
  have hc1 := hs.cell c0
  have hf1 := (hs.frozen w.heap.size (by omega)).trans f0
  have hc2 := (hs.other (w.heap.size + 1) (by omega) (by omega)).trans c1
  have hf2 := (hs.frozen (w.heap.size + 1) (by omega)).trans f1
  have B : Aside (Below _ _ _) := B0.out.trans (hs.below (by omega))
  have hlt := lt_of_cell hc2
  clear hs A c0 f0 c1 f1 hz C B0
  go_wp2
  refine leaves_cons (f := 37) (args := #[.pointer (some ⟨w.heap.size, 0, none⟩), .pointer (some ⟨w.heap.size + 1, 0, none⟩)]) (by simp) (by simp [go_sem]) ?_
  refine (find_idle ⟨w.heap.size, 0, none⟩ ⟨w.heap.size + 1, 0, none⟩ _).mono ?_
  rintro e u' w'' ⟨rfl, rfl, rfl⟩
  have D : Aside (Below w.heap.size w ((w1.setCell ⟨w.heap.size, 0, none⟩ (.pointer (some ⟨b, 0, none⟩))).setCell ⟨w.heap.size + 1, 0, none⟩ (.bool true))) := (B.out.setCell (p := ⟨w.heap.size, 0, none⟩) (Nat.le_refl _) _).setCell (p := ⟨w.heap.size + 1, 0, none⟩) (by simp) _
  have hv1 : (w1.setCell ⟨w.heap.size, 0, none⟩ (.pointer (some ⟨b, 0, none⟩))).cell? ⟨w.heap.size + 1, 0, none⟩ = some (.bool false) := by
    rw [cell_other _ _ _ _ _ _ (by omega)]; exact hc2
  have hv2 : ((w1.setCell ⟨w.heap.size, 0, none⟩ (.pointer (some ⟨b, 0, none⟩))).setCell ⟨w.heap.size + 1, 0, none⟩ (.bool true)).cell? ⟨w.heap.size + 1, 0, none⟩ = some (.bool true) :=
    World.cell?_setCell_same' _ _ _ (by simp [hv1])
  have hv0 : ((w1.setCell ⟨w.heap.size, 0, none⟩ (.pointer (some ⟨b, 0, none⟩))).setCell ⟨w.heap.size + 1, 0, none⟩ (.bool true)).cell? ⟨w.heap.size, 0, none⟩ = some (.pointer (some ⟨b, 0, none⟩)) := by
    rw [cell_other _ _ _ _ _ _ (by omega)]
    exact World.cell?_setCell_same' _ _ _ (by simp [hc1])
  clear B hc1 hc2 hf1 hf2 hlt hv1
  simp [Leaves, settle, results, Tryd.results28, go_sem, hv0, hv2]
  exact D.out

set_option maxHeartbeats 4000000 in
/-- findFault where errors.As finds none. -/
theorem find_ofNone (e : Value) (w : World) (h : ∀ w0, Below w.heap.size w w0 → w0.cell? ⟨w.heap.size, 0, none⟩ = some (.pointer none) → w0.frozen? ⟨w.heap.size, 0, none⟩ = false → Calls Tryd.prog 27 #[e, .iface 79 (.pointer (some ⟨w.heap.size, 0, none⟩))] w0 fun ev w' => ev = .returned (.bool false) ∧ Below w0.heap.size w0 w') :
    Calls Tryd.prog 28 #[e] w fun ev w' => ev = .returned (.tuple #[.pointer none, .bool false]) ∧ Below w.heap.size w w' := by
  have hmf := run_makeFunc
  have hnot := run_not
  have hb : Below w.heap.size w ((w.alloc (.cells #[.pointer none] 50)).alloc (.cells #[.bool false] 4)) := ((Below.refl _ _).alloc (Nat.le_refl _) _).alloc (by simp) _
  have c0 : ((w.alloc (.cells #[.pointer none] 50)).alloc (.cells #[.bool false] 4)).cell? ⟨w.heap.size, 0, none⟩ = some (.pointer none) := by rw [World.cell?_alloc_lt _ _ ⟨w.heap.size, 0, none⟩ (by simp)]; simp
  have f0 : ((w.alloc (.cells #[.pointer none] 50)).alloc (.cells #[.bool false] 4)).frozen? ⟨w.heap.size, 0, none⟩ = false := by rw [World.frozen?_alloc_old _ _ ⟨w.heap.size, 0, none⟩ (by simp)]; simp [go_sem]
  have c1 : ((w.alloc (.cells #[.pointer none] 50)).alloc (.cells #[.bool false] 4)).cell? ⟨w.heap.size + 1, 0, none⟩ = some (.bool false) := by rw [World.cell?_alloc_at _ _ _ _ (by simp)]; rfl
  have f1 : ((w.alloc (.cells #[.pointer none] 50)).alloc (.cells #[.bool false] 4)).frozen? ⟨w.heap.size + 1, 0, none⟩ = false := by simp [go_sem]
  have hz : ((w.alloc (.cells #[.pointer none] 50)).alloc (.cells #[.bool false] 4)).heap.size = w.heap.size + 2 := by simp
  have hC := h ((w.alloc (.cells #[.pointer none] 50)).alloc (.cells #[.bool false] 4)) hb c0 f0
  have A : Aside (Calls _ _ _ _ _) := hC
  have B0 : Aside (Below _ _ _) := hb
  have C : Aside (_ = some (Value.pointer none) ∧ _ = false ∧ _ = some (Value.bool false) ∧ _ = false ∧ _ = w.heap.size + 2) := ⟨c0, f0, c1, f1, hz⟩
  clear hC h hb c0 f0 c1 f1 hz
  go_enter_defers Tryd.func28, Tryd.ntmps28
  go_wp2_with fail
  refine A.out.mono ?_
  rintro ev w1 ⟨rfl, hs⟩
  obtain ⟨c0, f0, c1, f1, hz⟩ := C.out
  have hc1 := (hs.cell (p := ⟨w.heap.size, 0, none⟩) (by rw [hz]; simp)).trans c0
  have hf1 := (hs.frozen (p := ⟨w.heap.size, 0, none⟩) (by rw [hz]; simp)).trans f0
  have hc2 := (hs.cell (p := ⟨w.heap.size + 1, 0, none⟩) (by rw [hz]; simp)).trans c1
  have hf2 := (hs.frozen (p := ⟨w.heap.size + 1, 0, none⟩) (by rw [hz]; simp)).trans f1
  have B : Aside (Below _ _ _) := B0.out.trans (hs.mono (by omega))
  have hlt := lt_of_cell hc2
  clear hs A c0 f0 c1 f1 hz C B0
  go_wp2
  refine leaves_cons (f := 37) (args := #[.pointer (some ⟨w.heap.size, 0, none⟩), .pointer (some ⟨w.heap.size + 1, 0, none⟩)]) (by simp) (by simp [go_sem]) ?_
  refine (find_idle ⟨w.heap.size, 0, none⟩ ⟨w.heap.size + 1, 0, none⟩ _).mono ?_
  rintro e u' w'' ⟨rfl, rfl, rfl⟩
  have D : Aside (Below w.heap.size w ((w1.setCell ⟨w.heap.size, 0, none⟩ (.pointer none)).setCell ⟨w.heap.size + 1, 0, none⟩ (.bool false))) := (B.out.setCell (p := ⟨w.heap.size, 0, none⟩) (Nat.le_refl _) _).setCell (p := ⟨w.heap.size + 1, 0, none⟩) (by simp) _
  have hv1 : (w1.setCell ⟨w.heap.size, 0, none⟩ (.pointer none)).cell? ⟨w.heap.size + 1, 0, none⟩ = some (.bool false) := by
    rw [cell_other _ _ _ _ _ _ (by omega)]; exact hc2
  have hv2 : ((w1.setCell ⟨w.heap.size, 0, none⟩ (.pointer none)).setCell ⟨w.heap.size + 1, 0, none⟩ (.bool false)).cell? ⟨w.heap.size + 1, 0, none⟩ = some (.bool false) :=
    World.cell?_setCell_same' _ _ _ (by simp [hv1])
  have hv0 : ((w1.setCell ⟨w.heap.size, 0, none⟩ (.pointer none)).setCell ⟨w.heap.size + 1, 0, none⟩ (.bool false)).cell? ⟨w.heap.size, 0, none⟩ = some (.pointer none) := by
    rw [cell_other _ _ _ _ _ _ (by omega)]
    exact World.cell?_setCell_same' _ _ _ (by simp [hc1])
  clear B hc1 hc2 hf1 hf2 hlt hv1
  simp [Leaves, settle, results, Tryd.results28, go_sem, hv0, hv2]
  exact D.out


theorem first_of (e : Value) (b : Nat) (w : World) (h : Calls Tryd.prog 28 #[e] w fun ev w' => ev = .returned (.tuple #[.pointer (some ⟨b, 0, none⟩), .bool true]) ∧ Below w.heap.size w w') :
    Calls Tryd.prog 23 #[e] w fun ev w' => ev = .returned (.pointer (some ⟨b, 0, none⟩)) ∧ Below w.heap.size w w' := by
  have hnot := run_not
  have A : Aside (Calls _ _ _ _ _) := h
  clear h
  go_enter Tryd.func23, Tryd.ntmps23
  go_wp2_with fail
  refine A.out.mono ?_
  rintro ev w1 ⟨rfl, hs⟩
  have B : Aside (Below _ _ _) := hs
  clear hs A
  go_wp2
  go_ret
  exact ⟨rfl, B.out⟩
theorem first_ofNone (e : Value) (w : World) (h : Calls Tryd.prog 28 #[e] w fun ev w' => ev = .returned (.tuple #[.pointer none, .bool false]) ∧ Below w.heap.size w w') :
    Calls Tryd.prog 23 #[e] w fun ev w' => ev = .returned (.pointer none) ∧ Below w.heap.size w w' := by
  have hnot := run_not
  have A : Aside (Calls _ _ _ _ _) := h
  clear h
  go_enter Tryd.func23, Tryd.ntmps23
  go_wp2_with fail
  refine A.out.mono ?_
  rintro ev w1 ⟨rfl, hs⟩
  have B : Aside (Below _ _ _) := hs
  clear hs A
  go_wp2
  go_ret
  exact ⟨rfl, B.out⟩

/-- e is a join of x and y. -/
def Jn (w : World) (e x y : Value) : Prop := ∃ jb g cap, e = .iface 60 (.pointer (some ⟨jb, 0, none⟩)) ∧ w.cell? ⟨jb, 0, none⟩ = some (.slice (some ⟨g, 0, none⟩) 2 cap) ∧ w.cell? ⟨g, 0, none⟩ = some x ∧ w.cell? ⟨g, 1, none⟩ = some y
theorem Jn.below {w w' : World} {e x y : Value} (hb : Below w.heap.size w w') (h : Jn w e x y) : Jn w' e x y := by
  obtain ⟨jb, g, cap, he, h0, h1, h2⟩ := h
  exact ⟨jb, g, cap, he, by rw [hb.cell (p := ⟨jb, 0, none⟩) (lt_of_cell h0)]; exact h0, by rw [hb.cell (p := ⟨g, 0, none⟩) (lt_of_cell h1)]; exact h1, by rw [hb.cell (p := ⟨g, 1, none⟩) (lt_of_cell h2)]; exact h2⟩
theorem SetB.boxed {w w' : World} {tb : Nat} {v : Value} {o : Obj} (hlt : tb < w.heap.size) (h : SetB (w.alloc o) tb v w') : SetB w tb v w' := by
  unfold SetB at h ⊢
  rw [World.setCell_alloc_past _ _ _ _ hlt] at h
  exact ((Below.refl _ _).alloc (by rw [setCell_size]; exact Nat.le_refl _) o).trans (h.mono (by simp))

set_option maxRecDepth 100000 in
set_option maxHeartbeats 4000000 in
/-- errors.as at *api.Code over a join: the first one's code. -/
theorem as_joinC (l : List (ByteArray × Int)) (c : Int) (e x y : Value) (tb ab : Nat) (old : Value) (w : World) (hj : Jn w e x y) (hx : Chn w x l c) (ha : w.cell? ⟨ab, 0, none⟩ = some (.pointer (some ⟨tb, 0, none⟩))) (ht : w.cell? ⟨tb, 0, none⟩ = some old) (hf : w.frozen? ⟨tb, 0, none⟩ = false) :
    Calls Tryd.prog 36 #[e, .iface 56 (.pointer (some ⟨tb, 0, none⟩)), .agg #[.pointer (some ⟨1, 56, none⟩), .pointer (some ⟨ab, 0, none⟩), .int .u64 150], .iface 84 (.agg #[.pointer (some ⟨1, 24, none⟩)])] w fun ev w' => ev = .returned (.bool true) ∧ SetB w tb (.int .i64 c) w' := by
  obtain ⟨jb, g, cap, rfl, j0, j1, j2⟩ := hj
  obtain ⟨u, v, rfl⟩ := hx.held
  have hlt := lt_of_cell ht
  have hb : Below w.heap.size w (w.alloc (.cells #[.pointer (some ⟨1, 56, none⟩), .pointer (some ⟨ab, 0, none⟩), .int .u64 150] 72)) := (Below.refl _ _).alloc (Nat.le_refl _) _
  have g0 : (w.alloc (.cells #[.pointer (some ⟨1, 56, none⟩), .pointer (some ⟨ab, 0, none⟩), .int .u64 150] 72)).cell? ⟨jb, 0, none⟩ = some (.slice (some ⟨g, 0, none⟩) 2 cap) := by rw [hb.cell (p := ⟨jb, 0, none⟩) (lt_of_cell j0)]; exact j0
  have g1 : (w.alloc (.cells #[.pointer (some ⟨1, 56, none⟩), .pointer (some ⟨ab, 0, none⟩), .int .u64 150] 72)).cell? ⟨g, 0, none⟩ = some (.iface u v) := by rw [hb.cell (p := ⟨g, 0, none⟩) (lt_of_cell j1)]; exact j1
  have hC := as_codeB l c (.iface u v) tb ab old _ (hx.below hb) (by rw [hb.cell (p := ⟨ab, 0, none⟩) (lt_of_cell ha)]; exact ha) (by rw [hb.cell (p := ⟨tb, 0, none⟩) hlt]; exact ht) (by rw [hb.frozen (p := ⟨tb, 0, none⟩) hlt]; exact hf)
  have A : Aside (Calls _ _ _ _ _) := hC
  clear hC hx ha ht hf j0 j1 j2 hb
  have x1 := x_typeOf
  have x2 := x_assignable
  have m2 := m_assignable
  have k1 := typeOfJ
  have k3 := assignJC
  have n1 := noAsJ
  have n2 := noUnJ
  have n3 := hasUnsJ
  have m3 := m_unwrapJ
  go_enter Tryd.func36, Tryd.ntmps36
  go_wp2
  refine wp_loop_rounds 1 ?_
  rw [rounds_succ]
  go_wp2
  refine wp_loop_rounds 1 ?_
  rw [rounds_succ]
  go_wp2_with fail
  refine A.out.mono ?_
  rintro ev w1 ⟨rfl, hs⟩
  have B : Aside (SetB _ _ _ _) := hs.boxed hlt
  clear hs
  go_wp2
  go_ret
  exact ⟨rfl, B.out⟩
end Go.Proofs.YtkhhdaekdledoaaDoor
