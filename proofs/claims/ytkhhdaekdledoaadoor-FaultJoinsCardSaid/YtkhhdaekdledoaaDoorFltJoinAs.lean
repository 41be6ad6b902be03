/- errors.as over a join at **api.Fault, and over a fault over a join at *api.Code, by contracts. -/
import Derived.Test.YtkhhdaekdledoaaDoorFltJoin
namespace Go.Proofs.YtkhhdaekdledoaaDoor
open Go.RowKit Go.Extern.Stop Go.Stop Go.Extern

theorem SetB.over {w w1 w' : World} {tb : Nat} {v : Value} (h : SetB w1 tb v w') (hb : Below w.heap.size w w1) : SetB w tb v w' := by
  unfold SetB at h ⊢
  refine Below.trans ?_ (h.mono hb.size)
  refine ⟨hb.os, hb.tape, hb.output, by rw [setCell_size, setCell_size]; exact hb.size, fun k hk => ?_⟩
  simp only [World.setCell, Array.getElem?_modify]
  rw [hb.block k hk]

set_option maxRecDepth 100000 in
set_option maxHeartbeats 4000000 in
/-- errors.as at *api.Code over a fault over a join: the first one's code. -/
theorem as_overC (b : Nat) (l : List (ByteArray × Int)) (c : Int) (e x y : Value) (tb ab : Nat) (old : Value) (w : World) (hj : Jn w e x y) (ho : w.cell? ⟨b, 2, none⟩ = some e) (hx : Chn w x l c) (ha : w.cell? ⟨ab, 0, none⟩ = some (.pointer (some ⟨tb, 0, none⟩))) (ht : w.cell? ⟨tb, 0, none⟩ = some old) (hf : w.frozen? ⟨tb, 0, none⟩ = false) :
    Calls Tryd.prog 36 #[.iface 50 (.pointer (some ⟨b, 0, none⟩)), .iface 56 (.pointer (some ⟨tb, 0, none⟩)), .agg #[.pointer (some ⟨1, 56, none⟩), .pointer (some ⟨ab, 0, none⟩), .int .u64 150], .iface 84 (.agg #[.pointer (some ⟨1, 24, none⟩)])] w fun ev w' => ev = .returned (.bool true) ∧ SetB w tb (.int .i64 c) w' := by
  obtain ⟨jb, g, cap, rfl, j0, j1, j2⟩ := hj
  obtain ⟨u, v, rfl⟩ := hx.held
  have hlt := lt_of_cell ht
  have hb : Below w.heap.size w (w.alloc (.cells #[.pointer (some ⟨1, 56, none⟩), .pointer (some ⟨ab, 0, none⟩), .int .u64 150] 72)) := (Below.refl _ _).alloc (Nat.le_refl _) _
  have g0 : (w.alloc (.cells #[.pointer (some ⟨1, 56, none⟩), .pointer (some ⟨ab, 0, none⟩), .int .u64 150] 72)).cell? ⟨jb, 0, none⟩ = some (.slice (some ⟨g, 0, none⟩) 2 cap) := by rw [hb.cell (p := ⟨jb, 0, none⟩) (lt_of_cell j0)]; exact j0
  have go : (w.alloc (.cells #[.pointer (some ⟨1, 56, none⟩), .pointer (some ⟨ab, 0, none⟩), .int .u64 150] 72)).cell? ⟨b, 2, none⟩ = some (.iface 60 (.pointer (some ⟨jb, 0, none⟩))) := by rw [hb.cell (p := ⟨b, 2, none⟩) (lt_of_cell ho)]; exact ho
  have g1 : (w.alloc (.cells #[.pointer (some ⟨1, 56, none⟩), .pointer (some ⟨ab, 0, none⟩), .int .u64 150] 72)).cell? ⟨g, 0, none⟩ = some (.iface u v) := by rw [hb.cell (p := ⟨g, 0, none⟩) (lt_of_cell j1)]; exact j1
  have hC := as_codeB l c (.iface u v) tb ab old _ (hx.below hb) (by rw [hb.cell (p := ⟨ab, 0, none⟩) (lt_of_cell ha)]; exact ha) (by rw [hb.cell (p := ⟨tb, 0, none⟩) hlt]; exact ht) (by rw [hb.frozen (p := ⟨tb, 0, none⟩) hlt]; exact hf)
  have A : Aside (Calls _ _ _ _ _) := hC
  clear hC hx ha ht hf j0 j1 j2 hb ho
  have x1 := x_typeOf
  have x2 := x_assignable
  have m2 := m_assignable
  have k1 := typeOfJ
  have k3 := assignJC
  have n1 := noAsJ
  have n2 := noUnJ
  have n3 := hasUnsJ
  have m3 := m_unwrapJ
  have k1' := typeOfF
  have k3' := assignFC
  have n1' := noAsF
  have n2' := hasUnF
  have m3' := m_unwrapF
  go_enter Tryd.func36, Tryd.ntmps36
  go_wp2
  refine wp_loop_rounds 2 ?_
  rw [rounds_succ]
  go_wp2
  rw [rounds_succ]
  go_wp2
  refine wp_loop_rounds 1 ?_
  rw [rounds_succ]
  go_wp2_with fail
  refine A.out.mono ?_
  rintro ev w1 ⟨rfl, hs⟩
  have B : Aside (SetB _ _ _ _) := hs.boxed hlt
  clear hs
  go_wp2
  go_ret
  exact ⟨rfl, B.out⟩
set_option maxRecDepth 100000 in
set_option maxHeartbeats 4000000 in
theorem as_joinF1 (e y : Value) (bx tb ab : Nat) (old : Value) (w : World) (hj : Jn w e (.iface 50 (.pointer (some ⟨bx, 0, none⟩))) y) (ha : w.cell? ⟨ab, 0, none⟩ = some (.pointer (some ⟨tb, 0, none⟩))) (ht : w.cell? ⟨tb, 0, none⟩ = some old) (hf : w.frozen? ⟨tb, 0, none⟩ = false) :
    Calls Tryd.prog 36 #[e, .iface 79 (.pointer (some ⟨tb, 0, none⟩)), .agg #[.pointer (some ⟨1, 79, none⟩), .pointer (some ⟨ab, 0, none⟩), .int .u64 150], .iface 84 (.agg #[.pointer (some ⟨1, 50, none⟩)])] w fun ev w' => ev = .returned (.bool true) ∧ SetB w tb (.pointer (some ⟨bx, 0, none⟩)) w' := by
  obtain ⟨jb, g, cap, rfl, j0, j1, j2⟩ := hj
  have hlt := lt_of_cell ht
  have hb : Below w.heap.size w (w.alloc (.cells #[.pointer (some ⟨1, 79, none⟩), .pointer (some ⟨ab, 0, none⟩), .int .u64 150] 72)) := (Below.refl _ _).alloc (Nat.le_refl _) _
  have g0 : (w.alloc (.cells #[.pointer (some ⟨1, 79, none⟩), .pointer (some ⟨ab, 0, none⟩), .int .u64 150] 72)).cell? ⟨jb, 0, none⟩ = some (.slice (some ⟨g, 0, none⟩) 2 cap) := by rw [hb.cell (p := ⟨jb, 0, none⟩) (lt_of_cell j0)]; exact j0
  have g1 := (hb.cell (p := ⟨g, 0, none⟩) (lt_of_cell j1)).trans j1
  have g2 := (hb.cell (p := ⟨g, 1, none⟩) (lt_of_cell j2)).trans j2
  have a0 := (hb.cell (p := ⟨ab, 0, none⟩) (lt_of_cell ha)).trans ha
  have t0 := (hb.cell (p := ⟨tb, 0, none⟩) hlt).trans ht
  have f0 := (hb.frozen (p := ⟨tb, 0, none⟩) hlt).trans hf
  have A : Aside (Calls _ _ _ _ _) := as_hitF bx tb ab old _ a0 t0 f0
  clear ha ht hf j0 j1 j2 hb a0 t0 f0 g2
  have x1 := x_typeOf
  have x2 := x_assignable
  have m2 := m_assignable
  have k1 := typeOfJ
  have k3 := assignJF
  have n1 := noAsJ
  have n2 := noUnJ
  have n3 := hasUnsJ
  have m3 := m_unwrapJ
  go_enter Tryd.func36, Tryd.ntmps36
  go_wp2
  refine wp_loop_rounds 1 ?_
  rw [rounds_succ]
  go_wp2
  refine wp_loop_rounds 1 ?_
  rw [rounds_succ]
  go_wp2_with fail
  refine A.out.mono ?_
  rintro ev w1 ⟨rfl, hs⟩
  have B : Aside (SetB _ _ _ _) := hs.boxed hlt
  clear hs
  go_wp2
  go_ret
  exact ⟨rfl, B.out⟩

set_option maxRecDepth 100000 in
set_option maxHeartbeats 4000000 in
theorem as_joinF2 (c : Int) (e : Value) (by' tb ab : Nat) (old : Value) (w : World) (hj : Jn w e (.iface 24 (.int .i64 c)) (.iface 50 (.pointer (some ⟨by', 0, none⟩)))) (ha : w.cell? ⟨ab, 0, none⟩ = some (.pointer (some ⟨tb, 0, none⟩))) (ht : w.cell? ⟨tb, 0, none⟩ = some old) (hf : w.frozen? ⟨tb, 0, none⟩ = false) :
    Calls Tryd.prog 36 #[e, .iface 79 (.pointer (some ⟨tb, 0, none⟩)), .agg #[.pointer (some ⟨1, 79, none⟩), .pointer (some ⟨ab, 0, none⟩), .int .u64 150], .iface 84 (.agg #[.pointer (some ⟨1, 50, none⟩)])] w fun ev w' => ev = .returned (.bool true) ∧ SetB w tb (.pointer (some ⟨by', 0, none⟩)) w' := by
  obtain ⟨jb, g, cap, rfl, j0, j1, j2⟩ := hj
  have hlt := lt_of_cell ht
  have hb : Below w.heap.size w (w.alloc (.cells #[.pointer (some ⟨1, 79, none⟩), .pointer (some ⟨ab, 0, none⟩), .int .u64 150] 72)) := (Below.refl _ _).alloc (Nat.le_refl _) _
  have g0 : (w.alloc (.cells #[.pointer (some ⟨1, 79, none⟩), .pointer (some ⟨ab, 0, none⟩), .int .u64 150] 72)).cell? ⟨jb, 0, none⟩ = some (.slice (some ⟨g, 0, none⟩) 2 cap) := by rw [hb.cell (p := ⟨jb, 0, none⟩) (lt_of_cell j0)]; exact j0
  have g1 := (hb.cell (p := ⟨g, 0, none⟩) (lt_of_cell j1)).trans j1
  have g2 := (hb.cell (p := ⟨g, 1, none⟩) (lt_of_cell j2)).trans j2
  have a0 := (hb.cell (p := ⟨ab, 0, none⟩) (lt_of_cell ha)).trans ha
  have t0 := (hb.cell (p := ⟨tb, 0, none⟩) hlt).trans ht
  have f0 := (hb.frozen (p := ⟨tb, 0, none⟩) hlt).trans hf
  have S : Aside (w.cell? ⟨ab, 0, none⟩ = some (.pointer (some ⟨tb, 0, none⟩)) ∧ w.cell? ⟨tb, 0, none⟩ = some old ∧ w.frozen? ⟨tb, 0, none⟩ = false) := ⟨ha, ht, hf⟩
  have hb0 : Aside (Below _ _ _) := hb
  clear ha ht hf j0 j1 j2 hb a0 t0 f0
  have x1 := x_typeOf
  have x2 := x_assignable
  have m2 := m_assignable
  have k1 := typeOfJ
  have k3 := assignJF
  have n1 := noAsJ
  have n2 := noUnJ
  have n3 := hasUnsJ
  have m3 := m_unwrapJ
  go_enter Tryd.func36, Tryd.ntmps36
  go_wp2
  refine wp_loop_rounds 1 ?_
  rw [rounds_succ]
  go_wp2
  refine wp_loop_rounds 3 ?_
  rw [rounds_succ]
  go_wp2_with fail
  refine (as_missC c tb ab _).mono ?_
  rintro ev w1 ⟨rfl, hs⟩
  have r0 := (hs.cell (p := ⟨jb, 0, none⟩) (lt_of_cell g0)).trans g0
  have r1 := (hs.cell (p := ⟨g, 0, none⟩) (lt_of_cell g1)).trans g1
  have r2 := (hs.cell (p := ⟨g, 1, none⟩) (lt_of_cell g2)).trans g2
  have q0 : w1.cell? ⟨w.heap.size, 0, none⟩ = some (.pointer (some ⟨1, 79, none⟩)) := by rw [hs.cell (p := ⟨w.heap.size, 0, none⟩) (by simp), World.cell?_alloc_at _ _ _ _ rfl]; rfl
  have q1 : w1.cell? ⟨w.heap.size, 1, none⟩ = some (.pointer (some ⟨ab, 0, none⟩)) := by rw [hs.cell (p := ⟨w.heap.size, 1, none⟩) (by simp), World.cell?_alloc_at _ _ _ _ rfl]; rfl
  have q2 : w1.cell? ⟨w.heap.size, 2, none⟩ = some (.int .u64 150) := by rw [hs.cell (p := ⟨w.heap.size, 2, none⟩) (by simp), World.cell?_alloc_at _ _ _ _ rfl]; rfl
  have A : Aside (_ ∧ Below w.heap.size w w1) := ⟨S.out, hb0.out.trans (hs.mono hb0.out.size)⟩
  have T : Aside (w1.cell? ⟨ab, 0, none⟩ = some (.pointer (some ⟨tb, 0, none⟩)) ∧ w1.cell? ⟨tb, 0, none⟩ = some old ∧ w1.frozen? ⟨tb, 0, none⟩ = false) :=
    ⟨(A.out.2.cell (p := ⟨ab, 0, none⟩) (lt_of_cell S.out.1)).trans S.out.1, (A.out.2.cell (p := ⟨tb, 0, none⟩) hlt).trans S.out.2.1, (A.out.2.frozen (p := ⟨tb, 0, none⟩) hlt).trans S.out.2.2⟩
  clear hs g0 g1 g2
  go_wp2
  rw [rounds_succ]
  go_wp2_with fail
  refine (as_hitF by' tb ab old _ T.out.1 T.out.2.1 T.out.2.2).mono ?_
  rintro ev w2 ⟨rfl, hs⟩
  have B : Aside (SetB w1 tb _ w2 ∧ Below w.heap.size w w1) := ⟨hs, A.out.2⟩
  clear hs
  go_wp2
  go_ret
  exact ⟨rfl, B.out.1.over B.out.2⟩

set_option maxRecDepth 100000 in
set_option maxHeartbeats 4000000 in
theorem as_joinF0 (c d : Int) (e : Value) (tb ab : Nat) (old : Value) (w : World) (hj : Jn w e (.iface 24 (.int .i64 c)) (.iface 24 (.int .i64 d))) (ha : w.cell? ⟨ab, 0, none⟩ = some (.pointer (some ⟨tb, 0, none⟩))) (ht : w.cell? ⟨tb, 0, none⟩ = some old) (hf : w.frozen? ⟨tb, 0, none⟩ = false) :
    Calls Tryd.prog 36 #[e, .iface 79 (.pointer (some ⟨tb, 0, none⟩)), .agg #[.pointer (some ⟨1, 79, none⟩), .pointer (some ⟨ab, 0, none⟩), .int .u64 150], .iface 84 (.agg #[.pointer (some ⟨1, 50, none⟩)])] w fun ev w' => ev = .returned (.bool false) ∧ Below w.heap.size w w' := by
  obtain ⟨jb, g, cap, rfl, j0, j1, j2⟩ := hj
  have hlt := lt_of_cell ht
  have hb : Below w.heap.size w (w.alloc (.cells #[.pointer (some ⟨1, 79, none⟩), .pointer (some ⟨ab, 0, none⟩), .int .u64 150] 72)) := (Below.refl _ _).alloc (Nat.le_refl _) _
  have g0 : (w.alloc (.cells #[.pointer (some ⟨1, 79, none⟩), .pointer (some ⟨ab, 0, none⟩), .int .u64 150] 72)).cell? ⟨jb, 0, none⟩ = some (.slice (some ⟨g, 0, none⟩) 2 cap) := by rw [hb.cell (p := ⟨jb, 0, none⟩) (lt_of_cell j0)]; exact j0
  have g1 := (hb.cell (p := ⟨g, 0, none⟩) (lt_of_cell j1)).trans j1
  have g2 := (hb.cell (p := ⟨g, 1, none⟩) (lt_of_cell j2)).trans j2
  have a0 := (hb.cell (p := ⟨ab, 0, none⟩) (lt_of_cell ha)).trans ha
  have t0 := (hb.cell (p := ⟨tb, 0, none⟩) hlt).trans ht
  have f0 := (hb.frozen (p := ⟨tb, 0, none⟩) hlt).trans hf
  have S : Aside (w.cell? ⟨ab, 0, none⟩ = some (.pointer (some ⟨tb, 0, none⟩)) ∧ w.cell? ⟨tb, 0, none⟩ = some old ∧ w.frozen? ⟨tb, 0, none⟩ = false) := ⟨ha, ht, hf⟩
  have hb0 : Aside (Below _ _ _) := hb
  clear ha ht hf j0 j1 j2 hb a0 t0 f0
  have x1 := x_typeOf
  have x2 := x_assignable
  have m2 := m_assignable
  have k1 := typeOfJ
  have k3 := assignJF
  have n1 := noAsJ
  have n2 := noUnJ
  have n3 := hasUnsJ
  have m3 := m_unwrapJ
  go_enter Tryd.func36, Tryd.ntmps36
  go_wp2
  refine wp_loop_rounds 1 ?_
  rw [rounds_succ]
  go_wp2
  refine wp_loop_rounds 3 ?_
  rw [rounds_succ]
  go_wp2_with fail
  refine (as_missC c tb ab _).mono ?_
  rintro ev w1 ⟨rfl, hs⟩
  have r0 := (hs.cell (p := ⟨jb, 0, none⟩) (lt_of_cell g0)).trans g0
  have r1 := (hs.cell (p := ⟨g, 0, none⟩) (lt_of_cell g1)).trans g1
  have r2 := (hs.cell (p := ⟨g, 1, none⟩) (lt_of_cell g2)).trans g2
  have q0 : w1.cell? ⟨w.heap.size, 0, none⟩ = some (.pointer (some ⟨1, 79, none⟩)) := by rw [hs.cell (p := ⟨w.heap.size, 0, none⟩) (by simp), World.cell?_alloc_at _ _ _ _ rfl]; rfl
  have q1 : w1.cell? ⟨w.heap.size, 1, none⟩ = some (.pointer (some ⟨ab, 0, none⟩)) := by rw [hs.cell (p := ⟨w.heap.size, 1, none⟩) (by simp), World.cell?_alloc_at _ _ _ _ rfl]; rfl
  have q2 : w1.cell? ⟨w.heap.size, 2, none⟩ = some (.int .u64 150) := by rw [hs.cell (p := ⟨w.heap.size, 2, none⟩) (by simp), World.cell?_alloc_at _ _ _ _ rfl]; rfl
  have A : Aside (_ ∧ Below w.heap.size w w1) := ⟨S.out, hb0.out.trans (hs.mono hb0.out.size)⟩
  have T : Aside (w1.cell? ⟨ab, 0, none⟩ = some (.pointer (some ⟨tb, 0, none⟩)) ∧ w1.cell? ⟨tb, 0, none⟩ = some old ∧ w1.frozen? ⟨tb, 0, none⟩ = false) :=
    ⟨(A.out.2.cell (p := ⟨ab, 0, none⟩) (lt_of_cell S.out.1)).trans S.out.1, (A.out.2.cell (p := ⟨tb, 0, none⟩) hlt).trans S.out.2.1, (A.out.2.frozen (p := ⟨tb, 0, none⟩) hlt).trans S.out.2.2⟩
  clear hs g0 g1 g2
  go_wp2
  rw [rounds_succ]
  go_wp2_with fail
  refine (as_missC d tb ab _).mono ?_
  rintro ev w2 ⟨rfl, hs⟩
  have B : Aside (Below w.heap.size w w2) := A.out.2.trans (hs.mono A.out.2.size)
  clear hs
  go_wp2
  rw [rounds_succ]
  go_wp2
  go_ret
  exact ⟨rfl, B.out⟩

end Go.Proofs.YtkhhdaekdledoaaDoor
