/- fault.Code over a chain: the chain's code. fault.findFault over a fault: that fault; over a bare code: none. -/
import Derived.Test.YtejmdmaebkdjoaaGreatDoorFltAs
namespace Go.Proofs.YtejmdmaebkdjoaaGreatDoor.Fl
set_option linter.unusedVariables false
set_option linter.unusedSimpArgs false
set_option maxRecDepth 100000
set_option maxHeartbeats 4000000
open Go.RowKit Go.Extern.Stop Go.Stop Go.Extern
theorem code_idle (p : Addr) (w : World) :
  CallsD Tryz.prog 62 #[.pointer (some p)] .returning w fun e u' w' => e = .returned (.tuple #[]) ∧ u' = .returning ∧ w' = w := by
 refine callsD_of_wpS Tryz.func62 rfl fun c₀ cs hu => ?_
 apply wpS_seq
 apply wpS_region
 simp [wpOpsS, go_sem, recoverD, hu, Tryz.ntmps62, Exit.thenS]
 refine wpS_cond (t := false) (by simp [Act.eval, Array.replicate]) ?_
 simp only [Bool.false_eq_true, if_false]
 refine wpS_of_wp (wp_skip ?_)
 cases c₀
 simp_all [bodyPostS, results, Tryz.results62]
theorem run_makeFunc (fn : Fn) (first cap : Array Value) (w : World) : (Instr.makeFunc fn first cap).run Tryz.prog w = .ok (.func fn first cap) w := rfl
theorem run_not (x : Bool) (w : World) : (Op.unary .not (.bool x)).run Tryz.prog w = .ok (.bool (!x)) w := rfl
theorem Code_chain (l : List (ByteArray × Int)) (c : Int) (e : Value) (w : World) (h : Chn w e l c) (hg : Glob w) :
  Calls Tryz.prog 19 #[e] w fun ev w' => ev = .returned (.int .i64 c) ∧ Below w.heap.size w w' := by
 have hmf := run_makeFunc
 have hnot := run_not
 have hb : Below w.heap.size w (w.alloc (.cells #[.int .i64 0] 65)) := (Below.refl _ _).alloc (Nat.le_refl _) _
 have hC := As_code l c e w.heap.size (.int .i64 0) (w.alloc (.cells #[.int .i64 0] 65)) (h.below hb) (hg.below hb) (by simp) (by simp [go_sem])
 have A : Aside (Calls _ _ _ _ _) := hC
 have B0 : Aside (Below _ _ _) := hb
 clear hC h hg hb
 go_enter_defers Tryz.func19, Tryz.ntmps19
 go_wp2_with fail
 refine A.out.mono ?_
 rintro ev w1 ⟨rfl, hs⟩
 have hc1 := hs.cell (old := .int .i64 0) (by simp)
 have hf1 := hs.frozen w.heap.size (by simp)
 simp [go_sem] at hf1
 have B : Aside (Below _ _ _) := hs.below (by simp)
 have hlt := lt_of_cell hc1
 clear hs A
 go_wp2
 refine leaves_cons (f := 62) (args := #[.pointer (some ⟨w.heap.size, 0, none⟩)]) (by simp) (by simp [go_sem]) ?_
 refine (code_idle ⟨w.heap.size, 0, none⟩ _).mono ?_
 rintro e u' w'' ⟨rfl, rfl, rfl⟩
 have hd : Below w.heap.size w (w1.setCell ⟨w.heap.size, 0, none⟩ (.int .i64 c)) := (B0.out.trans B.out).setCell (Nat.le_refl _) _
 have hv : (w1.setCell ⟨w.heap.size, 0, none⟩ (.int .i64 c)).cell? ⟨w.heap.size, 0, none⟩ = some (.int .i64 c) := World.cell?_setCell_same' _ _ _ (by simp [hc1])
 have D : Aside (Below _ _ _) := hd
 clear hd B0 B
 simp [Leaves, settle, results, Tryz.results19, go_sem, hv]
 exact D.out
theorem Code_nil (w : World) :
  Calls Tryz.prog 19 #[.nilIface] w fun ev w' => ev = .returned (.int .i64 0) ∧ Below w.heap.size w w' := by
 have hmf := run_makeFunc
 have hnot := run_not
 go_enter_defers Tryz.func19, Tryz.ntmps19
 go_wp2_with fail
 refine (As_nil _ _).mono ?_
 rintro ev w1 ⟨rfl, rfl⟩
 go_wp2
 refine leaves_cons (f := 62) (args := #[.pointer (some ⟨w.heap.size, 0, none⟩)]) (by simp) (by simp [go_sem]) ?_
 refine (code_idle ⟨w.heap.size, 0, none⟩ _).mono ?_
 rintro e u' w'' ⟨rfl, rfl, rfl⟩
 simp [Leaves, settle, results, Tryz.results19, go_sem]
 exact (Below.refl _ _).alloc (Nat.le_refl _) _
end Go.Proofs.YtejmdmaebkdjoaaGreatDoor.Fl
