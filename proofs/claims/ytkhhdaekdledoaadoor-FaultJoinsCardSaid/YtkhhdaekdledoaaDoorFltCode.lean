/- fault.Code over a chain: the chain's code. fault.findFault over a fault: that fault; over a bare code: none. -/
import Derived.Test.YtkhhdaekdledoaaDoorFltAs
namespace Go.Proofs.YtkhhdaekdledoaaDoor
open Go.RowKit Go.Extern.Stop Go.Stop Go.Extern

set_option maxHeartbeats 1000000 in
theorem code_idle (p : Addr) (w : World) :
    CallsD Tryd.prog 26 #[.pointer (some p)] .returning w fun e u' w' => e = .returned (.tuple #[]) ∧ u' = .returning ∧ w' = w := by
  refine callsD_of_wpS Tryd.func26 rfl fun c₀ cs hu => ?_
  apply wpS_seq
  apply wpS_region
  simp [wpOpsS, go_sem, recoverD, hu, Tryd.ntmps26, Exit.thenS]
  refine wpS_cond (t := false) (by simp [Act.eval, Array.replicate]) ?_
  simp only [Bool.false_eq_true, if_false]
  refine wpS_of_wp (wp_skip ?_)
  cases c₀
  simp_all [bodyPostS, results, Tryd.results26]

theorem find_idle (p q : Addr) (w : World) :
    CallsD Tryd.prog 37 #[.pointer (some p), .pointer (some q)] .returning w fun e u' w' => e = .returned (.tuple #[]) ∧ u' = .returning ∧ w' = w := by
  refine callsD_of_wpS Tryd.func37 rfl fun c₀ cs hu => ?_
  apply wpS_seq
  apply wpS_region
  simp [wpOpsS, go_sem, recoverD, hu, Tryd.ntmps37, Exit.thenS]
  refine wpS_cond (t := false) (by simp [Act.eval, Array.replicate]) ?_
  simp only [Bool.false_eq_true, if_false]
  refine wpS_of_wp (wp_skip ?_)
  cases c₀
  simp_all [bodyPostS, results, Tryd.results37]

theorem run_makeFunc (fn : Fn) (first cap : Array Value) (w : World) : (Instr.makeFunc fn first cap).run Tryd.prog w = .ok (.func fn first cap) w := rfl
theorem run_not (x : Bool) (w : World) : (Op.unary .not (.bool x)).run Tryd.prog w = .ok (.bool (!x)) w := rfl

set_option maxRecDepth 100000 in
set_option maxHeartbeats 4000000 in
theorem Code_chain (l : List (ByteArray × Int)) (c : Int) (e : Value) (w : World) (h : Chn w e l c) (hg : Glob w) :
    Calls Tryd.prog 13 #[e] w fun ev w' => ev = .returned (.int .i64 c) ∧ Below w.heap.size w w' := by
  have hmf := run_makeFunc
  have hnot := run_not
  have hb : Below w.heap.size w (w.alloc (.cells #[.int .i64 0] 24)) := (Below.refl _ _).alloc (Nat.le_refl _) _
  have hC := As_code l c e w.heap.size (.int .i64 0) (w.alloc (.cells #[.int .i64 0] 24)) (h.below hb) (hg.below hb) (by simp) (by simp [go_sem])
  have A : Aside (Calls _ _ _ _ _) := hC
  have B0 : Aside (Below _ _ _) := hb
  clear hC h hg hb
  go_enter_defers Tryd.func13, Tryd.ntmps13
  go_wp2_with fail
  refine A.out.mono ?_
  rintro ev w1 ⟨rfl, hs⟩
  have hc1 := hs.cell (old := .int .i64 0) (by simp)
  have hf1 := hs.frozen w.heap.size (by simp)
  simp [go_sem] at hf1
  have B : Aside (Below _ _ _) := hs.below (by simp)
  have hlt := lt_of_cell hc1
  clear hs A
  go_wp2
  refine leaves_cons (f := 26) (args := #[.pointer (some ⟨w.heap.size, 0, none⟩)]) (by simp) (by simp [go_sem]) ?_
  refine (code_idle ⟨w.heap.size, 0, none⟩ _).mono ?_
  rintro e u' w'' ⟨rfl, rfl, rfl⟩
  have hd : Below w.heap.size w (w1.setCell ⟨w.heap.size, 0, none⟩ (.int .i64 c)) := (B0.out.trans B.out).setCell (Nat.le_refl _) _
  have hv : (w1.setCell ⟨w.heap.size, 0, none⟩ (.int .i64 c)).cell? ⟨w.heap.size, 0, none⟩ = some (.int .i64 c) := World.cell?_setCell_same' _ _ _ (by simp [hc1])
  have D : Aside (Below _ _ _) := hd
  clear hd B0 B
  simp [Leaves, settle, results, Tryd.results13, go_sem, hv]
  exact D.out
set_option maxHeartbeats 4000000 in
theorem Code_nil (w : World) :
    Calls Tryd.prog 13 #[.nilIface] w fun ev w' => ev = .returned (.int .i64 0) ∧ Below w.heap.size w w' := by
  have hmf := run_makeFunc
  have hnot := run_not
  go_enter_defers Tryd.func13, Tryd.ntmps13
  go_wp2_with fail
  refine (As_nil _ _).mono ?_
  rintro ev w1 ⟨rfl, rfl⟩
  go_wp2
  refine leaves_cons (f := 26) (args := #[.pointer (some ⟨w.heap.size, 0, none⟩)]) (by simp) (by simp [go_sem]) ?_
  refine (code_idle ⟨w.heap.size, 0, none⟩ _).mono ?_
  rintro e u' w'' ⟨rfl, rfl, rfl⟩
  simp [Leaves, settle, results, Tryd.results13, go_sem]
  exact (Below.refl _ _).alloc (Nat.le_refl _) _

theorem cell_other (w : World) (b1 b2 o1 o2 : Nat) (v : Value) (hne : b1 ≠ b2) : (w.setCell ⟨b1, o1, none⟩ v).cell? ⟨b2, o2, none⟩ = w.cell? ⟨b2, o2, none⟩ := by
  apply World.cell?_setCell_other
  intro e
  injection e with e1
  exact hne e1
theorem SetB.other {w w' : World} {tb : Nat} {v : Value} (h : SetB w tb v w') (b : Nat) (hb : b < w.heap.size) (hne : b ≠ tb) : w'.cell? ⟨b, 0, none⟩ = w.cell? ⟨b, 0, none⟩ := by
  rw [Below.cell (p := ⟨b, 0, none⟩) h hb]
  exact cell_other _ _ _ _ _ _ (fun e => hne e.symm)

set_option maxHeartbeats 4000000 in
/-- findFault over a fault: that one. -/
theorem find_hit (b : Nat) (w : World) (hg : Glob w) :
    Calls Tryd.prog 28 #[.iface 50 (.pointer (some ⟨b, 0, none⟩))] w fun ev w' => ev = .returned (.tuple #[.pointer (some ⟨b, 0, none⟩), .bool true]) ∧ Below w.heap.size w w' := by
  have hmf := run_makeFunc
  have hnot := run_not
  have hb : Below w.heap.size w ((w.alloc (.cells #[.pointer none] 50)).alloc (.cells #[.bool false] 4)) := ((Below.refl _ _).alloc (Nat.le_refl _) _).alloc (by simp) _
  have c0 : ((w.alloc (.cells #[.pointer none] 50)).alloc (.cells #[.bool false] 4)).cell? ⟨w.heap.size, 0, none⟩ = some (.pointer none) := by rw [World.cell?_alloc_lt _ _ ⟨w.heap.size, 0, none⟩ (by simp)]; simp
  have f0 : ((w.alloc (.cells #[.pointer none] 50)).alloc (.cells #[.bool false] 4)).frozen? ⟨w.heap.size, 0, none⟩ = false := by rw [World.frozen?_alloc_old _ _ ⟨w.heap.size, 0, none⟩ (by simp)]; simp [go_sem]
  have c1 : ((w.alloc (.cells #[.pointer none] 50)).alloc (.cells #[.bool false] 4)).cell? ⟨w.heap.size + 1, 0, none⟩ = some (.bool false) := by rw [World.cell?_alloc_at _ _ _ _ (by simp)]; rfl
  have f1 : ((w.alloc (.cells #[.pointer none] 50)).alloc (.cells #[.bool false] 4)).frozen? ⟨w.heap.size + 1, 0, none⟩ = false := by simp [go_sem]
  have hz : ((w.alloc (.cells #[.pointer none] 50)).alloc (.cells #[.bool false] 4)).heap.size = w.heap.size + 2 := by simp
  have hC := As_hitF b w.heap.size (.pointer none) ((w.alloc (.cells #[.pointer none] 50)).alloc (.cells #[.bool false] 4)) (hg.below hb) c0 f0
  have A : Aside (Calls _ _ _ _ _) := hC
  have B0 : Aside (Below _ _ _) := hb
  have C : Aside (_ = some (Value.pointer none) ∧ _ = false ∧ _ = some (Value.bool false) ∧ _ = false ∧ _ = w.heap.size + 2) := ⟨c0, f0, c1, f1, hz⟩
  clear hC hg hb c0 f0 c1 f1 hz
  go_enter_defers Tryd.func28, Tryd.ntmps28
  go_wp2_with fail
  refine A.out.mono ?_
  rintro ev w1 ⟨rfl, hs⟩
  obtain ⟨c0, f0, c1, f1, hz⟩ := C.out
  have hc1 := hs.cell c0
  have hf1 := (hs.frozen w.heap.size (by omega)).trans f0
  have hc2 := (hs.other (w.heap.size + 1) (by omega) (by omega)).trans c1
  have hf2 := (hs.frozen (w.heap.size + 1) (by omega)).trans f1
  have B : Aside (Below _ _ _) := B0.out.trans (hs.below (by omega))
  have hlt := lt_of_cell hc2
  clear hs A c0 f0 c1 f1 hz C B0
  go_wp2
  refine leaves_cons (f := 37) (args := #[.pointer (some ⟨w.heap.size, 0, none⟩), .pointer (some ⟨w.heap.size + 1, 0, none⟩)]) (by simp) (by simp [go_sem]) ?_
  refine (find_idle ⟨w.heap.size, 0, none⟩ ⟨w.heap.size + 1, 0, none⟩ _).mono ?_
  rintro e u' w'' ⟨rfl, rfl, rfl⟩
  have D : Aside (Below w.heap.size w ((w1.setCell ⟨w.heap.size, 0, none⟩ (.pointer (some ⟨b, 0, none⟩))).setCell ⟨w.heap.size + 1, 0, none⟩ (.bool true))) := (B.out.setCell (p := ⟨w.heap.size, 0, none⟩) (Nat.le_refl _) _).setCell (p := ⟨w.heap.size + 1, 0, none⟩) (by simp) _
  have hv1 : (w1.setCell ⟨w.heap.size, 0, none⟩ (.pointer (some ⟨b, 0, none⟩))).cell? ⟨w.heap.size + 1, 0, none⟩ = some (.bool false) := by
    rw [cell_other _ _ _ _ _ _ (by omega)]; exact hc2
  have hv2 : ((w1.setCell ⟨w.heap.size, 0, none⟩ (.pointer (some ⟨b, 0, none⟩))).setCell ⟨w.heap.size + 1, 0, none⟩ (.bool true)).cell? ⟨w.heap.size + 1, 0, none⟩ = some (.bool true) :=
    World.cell?_setCell_same' _ _ _ (by simp [hv1])
  have hv0 : ((w1.setCell ⟨w.heap.size, 0, none⟩ (.pointer (some ⟨b, 0, none⟩))).setCell ⟨w.heap.size + 1, 0, none⟩ (.bool true)).cell? ⟨w.heap.size, 0, none⟩ = some (.pointer (some ⟨b, 0, none⟩)) := by
    rw [cell_other _ _ _ _ _ _ (by omega)]
    exact World.cell?_setCell_same' _ _ _ (by simp [hc1])
  clear B hc1 hc2 hf1 hf2 hlt hv1
  simp [Leaves, settle, results, Tryd.results28, go_sem, hv0, hv2]
  exact D.out

set_option maxHeartbeats 4000000 in
/-- findFault over a bare code: none. -/
theorem find_missC (c : Int) (w : World) (hg : Glob w) :
    Calls Tryd.prog 28 #[.iface 24 (.int .i64 c)] w fun ev w' => ev = .returned (.tuple #[.pointer none, .bool false]) ∧ Below w.heap.size w w' := by
  have hmf := run_makeFunc
  have hnot := run_not
  have hb : Below w.heap.size w ((w.alloc (.cells #[.pointer none] 50)).alloc (.cells #[.bool false] 4)) := ((Below.refl _ _).alloc (Nat.le_refl _) _).alloc (by simp) _
  have c0 : ((w.alloc (.cells #[.pointer none] 50)).alloc (.cells #[.bool false] 4)).cell? ⟨w.heap.size, 0, none⟩ = some (.pointer none) := by rw [World.cell?_alloc_lt _ _ ⟨w.heap.size, 0, none⟩ (by simp)]; simp
  have f0 : ((w.alloc (.cells #[.pointer none] 50)).alloc (.cells #[.bool false] 4)).frozen? ⟨w.heap.size, 0, none⟩ = false := by rw [World.frozen?_alloc_old _ _ ⟨w.heap.size, 0, none⟩ (by simp)]; simp [go_sem]
  have c1 : ((w.alloc (.cells #[.pointer none] 50)).alloc (.cells #[.bool false] 4)).cell? ⟨w.heap.size + 1, 0, none⟩ = some (.bool false) := by rw [World.cell?_alloc_at _ _ _ _ (by simp)]; rfl
  have f1 : ((w.alloc (.cells #[.pointer none] 50)).alloc (.cells #[.bool false] 4)).frozen? ⟨w.heap.size + 1, 0, none⟩ = false := by simp [go_sem]
  have hz : ((w.alloc (.cells #[.pointer none] 50)).alloc (.cells #[.bool false] 4)).heap.size = w.heap.size + 2 := by simp
  have hC := As_missC c w.heap.size (.pointer none) ((w.alloc (.cells #[.pointer none] 50)).alloc (.cells #[.bool false] 4)) (hg.below hb) c0
  have A : Aside (Calls _ _ _ _ _) := hC
  have B0 : Aside (Below _ _ _) := hb
  have C : Aside (_ = some (Value.pointer none) ∧ _ = false ∧ _ = some (Value.bool false) ∧ _ = false ∧ _ = w.heap.size + 2) := ⟨c0, f0, c1, f1, hz⟩
  clear hC hg hb c0 f0 c1 f1 hz
  go_enter_defers Tryd.func28, Tryd.ntmps28
  go_wp2_with fail
  refine A.out.mono ?_
  rintro ev w1 ⟨rfl, hs⟩
  obtain ⟨c0, f0, c1, f1, hz⟩ := C.out
  have hc1 := (hs.cell (p := ⟨w.heap.size, 0, none⟩) (by rw [hz]; simp)).trans c0
  have hf1 := (hs.frozen (p := ⟨w.heap.size, 0, none⟩) (by rw [hz]; simp)).trans f0
  have hc2 := (hs.cell (p := ⟨w.heap.size + 1, 0, none⟩) (by rw [hz]; simp)).trans c1
  have hf2 := (hs.frozen (p := ⟨w.heap.size + 1, 0, none⟩) (by rw [hz]; simp)).trans f1
  have B : Aside (Below _ _ _) := B0.out.trans (hs.mono (by omega))
  have hlt := lt_of_cell hc2
  clear hs A c0 f0 c1 f1 hz C B0
  go_wp2
  refine leaves_cons (f := 37) (args := #[.pointer (some ⟨w.heap.size, 0, none⟩), .pointer (some ⟨w.heap.size + 1, 0, none⟩)]) (by simp) (by simp [go_sem]) ?_
  refine (find_idle ⟨w.heap.size, 0, none⟩ ⟨w.heap.size + 1, 0, none⟩ _).mono ?_
  rintro e u' w'' ⟨rfl, rfl, rfl⟩
  have D : Aside (Below w.heap.size w ((w1.setCell ⟨w.heap.size, 0, none⟩ (.pointer none)).setCell ⟨w.heap.size + 1, 0, none⟩ (.bool false))) := (B.out.setCell (p := ⟨w.heap.size, 0, none⟩) (Nat.le_refl _) _).setCell (p := ⟨w.heap.size + 1, 0, none⟩) (by simp) _
  have hv1 : (w1.setCell ⟨w.heap.size, 0, none⟩ (.pointer none)).cell? ⟨w.heap.size + 1, 0, none⟩ = some (.bool false) := by
    rw [cell_other _ _ _ _ _ _ (by omega)]; exact hc2
  have hv2 : ((w1.setCell ⟨w.heap.size, 0, none⟩ (.pointer none)).setCell ⟨w.heap.size + 1, 0, none⟩ (.bool false)).cell? ⟨w.heap.size + 1, 0, none⟩ = some (.bool false) :=
    World.cell?_setCell_same' _ _ _ (by simp [hv1])
  have hv0 : ((w1.setCell ⟨w.heap.size, 0, none⟩ (.pointer none)).setCell ⟨w.heap.size + 1, 0, none⟩ (.bool false)).cell? ⟨w.heap.size, 0, none⟩ = some (.pointer none) := by
    rw [cell_other _ _ _ _ _ _ (by omega)]
    exact World.cell?_setCell_same' _ _ _ (by simp [hc1])
  clear B hc1 hc2 hf1 hf2 hlt hv1
  simp [Leaves, settle, results, Tryd.results28, go_sem, hv0, hv2]
  exact D.out

set_option maxHeartbeats 4000000 in
/-- findFault over nil: none. -/
theorem find_nil (w : World) :
    Calls Tryd.prog 28 #[.nilIface] w fun ev w' => ev = .returned (.tuple #[.pointer none, .bool false]) ∧ Below w.heap.size w w' := by
  have hmf := run_makeFunc
  have hnot := run_not
  have hb : Below w.heap.size w ((w.alloc (.cells #[.pointer none] 50)).alloc (.cells #[.bool false] 4)) := ((Below.refl _ _).alloc (Nat.le_refl _) _).alloc (by simp) _
  have c0 : ((w.alloc (.cells #[.pointer none] 50)).alloc (.cells #[.bool false] 4)).cell? ⟨w.heap.size, 0, none⟩ = some (.pointer none) := by rw [World.cell?_alloc_lt _ _ ⟨w.heap.size, 0, none⟩ (by simp)]; simp
  have f0 : ((w.alloc (.cells #[.pointer none] 50)).alloc (.cells #[.bool false] 4)).frozen? ⟨w.heap.size, 0, none⟩ = false := by rw [World.frozen?_alloc_old _ _ ⟨w.heap.size, 0, none⟩ (by simp)]; simp [go_sem]
  have c1 : ((w.alloc (.cells #[.pointer none] 50)).alloc (.cells #[.bool false] 4)).cell? ⟨w.heap.size + 1, 0, none⟩ = some (.bool false) := by rw [World.cell?_alloc_at _ _ _ _ (by simp)]; rfl
  have f1 : ((w.alloc (.cells #[.pointer none] 50)).alloc (.cells #[.bool false] 4)).frozen? ⟨w.heap.size + 1, 0, none⟩ = false := by simp [go_sem]
  have hz : ((w.alloc (.cells #[.pointer none] 50)).alloc (.cells #[.bool false] 4)).heap.size = w.heap.size + 2 := by simp
  have B0 : Aside (Below _ _ _) := hb
  have C : Aside (_ = some (Value.pointer none) ∧ _ = false ∧ _ = some (Value.bool false) ∧ _ = false ∧ _ = w.heap.size + 2) := ⟨c0, f0, c1, f1, hz⟩
  clear hb c0 f0 c1 f1 hz
  go_enter_defers Tryd.func28, Tryd.ntmps28
  go_wp2_with fail
  refine (As_nil _ _).mono ?_
  rintro ev w1 ⟨rfl, rfl⟩
  obtain ⟨c0, f0, c1, f1, hz⟩ := C.out
  generalize hw1 : (w.alloc (.cells #[.pointer none] 50)).alloc (.cells #[.bool false] 4) = w1 at *
  clear hw1
  have hc1 := c0
  have hf1 := f0
  have hc2 := c1
  have hf2 := f1
  have B : Aside (Below _ _ _) := B0.out
  have hlt := lt_of_cell hc2
  clear c0 f0 c1 f1 hz C B0
  go_wp2
  refine leaves_cons (f := 37) (args := #[.pointer (some ⟨w.heap.size, 0, none⟩), .pointer (some ⟨w.heap.size + 1, 0, none⟩)]) (by simp) (by simp [go_sem]) ?_
  refine (find_idle ⟨w.heap.size, 0, none⟩ ⟨w.heap.size + 1, 0, none⟩ _).mono ?_
  rintro e u' w'' ⟨rfl, rfl, rfl⟩
  have D : Aside (Below w.heap.size w ((w1.setCell ⟨w.heap.size, 0, none⟩ (.pointer none)).setCell ⟨w.heap.size + 1, 0, none⟩ (.bool false))) := (B.out.setCell (p := ⟨w.heap.size, 0, none⟩) (Nat.le_refl _) _).setCell (p := ⟨w.heap.size + 1, 0, none⟩) (by simp) _
  have hv1 : (w1.setCell ⟨w.heap.size, 0, none⟩ (.pointer none)).cell? ⟨w.heap.size + 1, 0, none⟩ = some (.bool false) := by
    rw [cell_other _ _ _ _ _ _ (by omega)]; exact hc2
  have hv2 : ((w1.setCell ⟨w.heap.size, 0, none⟩ (.pointer none)).setCell ⟨w.heap.size + 1, 0, none⟩ (.bool false)).cell? ⟨w.heap.size + 1, 0, none⟩ = some (.bool false) :=
    World.cell?_setCell_same' _ _ _ (by simp [hv1])
  have hv0 : ((w1.setCell ⟨w.heap.size, 0, none⟩ (.pointer none)).setCell ⟨w.heap.size + 1, 0, none⟩ (.bool false)).cell? ⟨w.heap.size, 0, none⟩ = some (.pointer none) := by
    rw [cell_other _ _ _ _ _ _ (by omega)]
    exact World.cell?_setCell_same' _ _ _ (by simp [hc1])
  clear B hc1 hc2 hf1 hf2 hlt hv1
  simp [Leaves, settle, results, Tryd.results28, go_sem, hv0, hv2]
  exact D.out
end Go.Proofs.YtkhhdaekdledoaaDoor
