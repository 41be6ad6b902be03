/- fault.Code over a chain: the chain's code. fault.findFault over a fault: that fault; over a bare code: none. -/
import Derived.Test.YtkkmfacngmginaaDoorFltAs
namespace Go.Proofs.YtkkmfacngmginaaDoor.Fl
open Go.RowKit Go.Extern.Stop Go.Stop Go.Extern

set_option maxHeartbeats 1000000 in
theorem code_idle (p : Addr) (w : World) :
    CallsD Tryd.prog 44 #[.pointer (some p)] .returning w fun e u' w' => e = .returned (.tuple #[]) ∧ u' = .returning ∧ w' = w := by
  refine callsD_of_wpS Tryd.func44 rfl fun c₀ cs hu => ?_
  apply wpS_seq
  apply wpS_region
  simp [wpOpsS, go_sem, recoverD, hu, Tryd.ntmps44, Exit.thenS]
  refine wpS_cond (t := false) (by simp [Act.eval, Array.replicate]) ?_
  simp only [Bool.false_eq_true, if_false]
  refine wpS_of_wp (wp_skip ?_)
  cases c₀
  simp_all [bodyPostS, results, Tryd.results44]

theorem run_makeFunc (fn : Fn) (first cap : Array Value) (w : World) : (Instr.makeFunc fn first cap).run Tryd.prog w = .ok (.func fn first cap) w := rfl
theorem run_not (x : Bool) (w : World) : (Op.unary .not (.bool x)).run Tryd.prog w = .ok (.bool (!x)) w := rfl

set_option maxRecDepth 100000 in
set_option maxHeartbeats 4000000 in
theorem Code_chain (l : List (ByteArray × Int)) (c : Int) (e : Value) (w : World) (h : Chn w e l c) (hg : Glob w) :
    Calls Tryd.prog 15 #[e] w fun ev w' => ev = .returned (.int .i64 c) ∧ Below w.heap.size w w' := by
  have hmf := run_makeFunc
  have hnot := run_not
  have hb : Below w.heap.size w (w.alloc (.cells #[.int .i64 0] 45)) := (Below.refl _ _).alloc (Nat.le_refl _) _
  have hC := As_code l c e w.heap.size (.int .i64 0) (w.alloc (.cells #[.int .i64 0] 45)) (h.below hb) (hg.below hb) (by simp) (by simp [go_sem])
  have A : Aside (Calls _ _ _ _ _) := hC
  have B0 : Aside (Below _ _ _) := hb
  clear hC h hg hb
  go_enter_defers Tryd.func15, Tryd.ntmps15
  go_wp2_with fail
  refine A.out.mono ?_
  rintro ev w1 ⟨rfl, hs⟩
  have hc1 := hs.cell (old := .int .i64 0) (by simp)
  have hf1 := hs.frozen w.heap.size (by simp)
  simp [go_sem] at hf1
  have B : Aside (Below _ _ _) := hs.below (by simp)
  have hlt := lt_of_cell hc1
  clear hs A
  go_wp2
  refine leaves_cons (f := 44) (args := #[.pointer (some ⟨w.heap.size, 0, none⟩)]) (by simp) (by simp [go_sem]) ?_
  refine (code_idle ⟨w.heap.size, 0, none⟩ _).mono ?_
  rintro e u' w'' ⟨rfl, rfl, rfl⟩
  have hd : Below w.heap.size w (w1.setCell ⟨w.heap.size, 0, none⟩ (.int .i64 c)) := (B0.out.trans B.out).setCell (Nat.le_refl _) _
  have hv : (w1.setCell ⟨w.heap.size, 0, none⟩ (.int .i64 c)).cell? ⟨w.heap.size, 0, none⟩ = some (.int .i64 c) := World.cell?_setCell_same' _ _ _ (by simp [hc1])
  have D : Aside (Below _ _ _) := hd
  clear hd B0 B
  simp [Leaves, settle, results, Tryd.results15, go_sem, hv]
  exact D.out
set_option maxHeartbeats 4000000 in
theorem Code_nil (w : World) :
    Calls Tryd.prog 15 #[.nilIface] w fun ev w' => ev = .returned (.int .i64 0) ∧ Below w.heap.size w w' := by
  have hmf := run_makeFunc
  have hnot := run_not
  go_enter_defers Tryd.func15, Tryd.ntmps15
  go_wp2_with fail
  refine (As_nil _ _).mono ?_
  rintro ev w1 ⟨rfl, rfl⟩
  go_wp2
  refine leaves_cons (f := 44) (args := #[.pointer (some ⟨w.heap.size, 0, none⟩)]) (by simp) (by simp [go_sem]) ?_
  refine (code_idle ⟨w.heap.size, 0, none⟩ _).mono ?_
  rintro e u' w'' ⟨rfl, rfl, rfl⟩
  simp [Leaves, settle, results, Tryd.results15, go_sem]
  exact (Below.refl _ _).alloc (Nat.le_refl _) _

theorem cell_other (w : World) (b1 b2 o1 o2 : Nat) (v : Value) (hne : b1 ≠ b2) : (w.setCell ⟨b1, o1, none⟩ v).cell? ⟨b2, o2, none⟩ = w.cell? ⟨b2, o2, none⟩ := by
  apply World.cell?_setCell_other
  intro e
  injection e with e1
  exact hne e1
theorem SetB.other {w w' : World} {tb : Nat} {v : Value} (h : SetB w tb v w') (b : Nat) (hb : b < w.heap.size) (hne : b ≠ tb) : w'.cell? ⟨b, 0, none⟩ = w.cell? ⟨b, 0, none⟩ := by
  rw [Below.cell (p := ⟨b, 0, none⟩) h hb]
  exact cell_other _ _ _ _ _ _ (fun e => hne e.symm)

end Go.Proofs.YtkkmfacngmginaaDoor.Fl
