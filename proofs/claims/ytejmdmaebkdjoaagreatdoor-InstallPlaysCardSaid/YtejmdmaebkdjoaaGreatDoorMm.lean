/- What the texts of arena, mapping and epoch share. -/
import Derived.Test.YtejmdmaebkdjoaaGreatDoorErrIs
import Derived.Test.YtejmdmaebkdjoaaGreatDoorMw
import Derived.WalkSmall
import Derived.Deep.LoopGhost
import Derived.Defers
import Derived.Recover
import Derived.Maps.OwnSet
import Derived.Maps.OwnOps
namespace Go.Proofs.YtejmdmaebkdjoaaGreatDoor
set_option linter.unusedVariables false
set_option linter.unusedSimpArgs false
set_option maxHeartbeats 1000000
open Go.RowKit Go.Extern.Stop Go.Stop Go.Extern
theorem run_makeFunc (fn : Fn) (first cap : Array Value) (w : World) : (Instr.makeFunc fn first cap).run Tryz.prog w = .ok (.func fn first cap) w := rfl
theorem is_idle (p : Addr) (w : World) :
  CallsD Tryz.prog 59 #[.pointer (some p)] .returning w fun e u' w' => e = .returned (.tuple #[]) ∧ u' = .returning ∧ w' = w := by
 refine callsD_of_wpS Tryz.func59 rfl fun c₀ cs hu => ?_
 apply wpS_seq
 apply wpS_region
 simp [wpOpsS, go_sem, recoverD, hu, Tryz.ntmps59, Exit.thenS]
 refine wpS_cond (t := false) (by simp [Act.eval, Array.replicate]) ?_
 simp only [Bool.false_eq_true, if_false]
 refine wpS_of_wp (wp_skip ?_)
 cases c₀
 simp_all [bodyPostS, results, Tryz.results59]
theorem fIs_of (e : Value) (d : Int) (x : Bool) (w : World)
  (h : Calls Tryz.prog 60 #[e, .iface 65 (.int .i64 d)] (w.alloc (.cells #[.bool false] 4)) fun ev w' => ev = .returned (.bool x) ∧ (w.alloc (.cells #[.bool false] 4)) = w') :
  Calls Tryz.prog 16 #[e, .int .i64 d] w fun ev w' => ev = .returned (.bool x) ∧ Below w.heap.size w w' := by
 have hmf := run_makeFunc
 have A : Aside (Calls _ _ _ _ _) := h
 clear h
 go_enter_defers Tryz.func16, Tryz.ntmps16
 go_wp2_with fail
 refine A.out.mono ?_
 rintro ev w1 ⟨rfl, rfl⟩
 clear A
 go_wp2
 refine leaves_cons (f := 59) (args := #[.pointer (some ⟨w.heap.size, 0, none⟩)]) (by simp) (by simp [go_sem]) ?_
 refine (is_idle ⟨w.heap.size, 0, none⟩ _).mono ?_
 rintro e u' w'' ⟨rfl, rfl, rfl⟩
 simp [Leaves, settle, results, Tryz.results16, go_sem]
 exact (Below.refl _ _).alloc (Nat.le_refl _) _
theorem fIs_code (c d : Int) (w : World) :
  Calls Tryz.prog 16 #[.iface 65 (.int .i64 c), .int .i64 d] w fun ev w' => ev = .returned (.bool (c == d)) ∧ Below w.heap.size w w' :=
 fIs_of _ d (c == d) w ((Is_code c d _).mono fun _ _ ⟨h1, h2⟩ => ⟨h1, h2⟩)
open Go.RowKit Go.Maps
abbrev Rf := Int × Int
def refV (x y : Int) : Value := .agg #[.int .i64 x, .int .i64 y]
def errV (e : Int) : Value := if e = 0 then .nilIface else .iface 65 (.int .i64 e)
theorem errV_at {e : Int} (h : e = 0) : errV e = .nilIface := by unfold errV; rw [if_pos h]
/-! ### in memory -/
/-! ### Pages -/
def lInt : Lay Int := ⟨3, 1, fun r => [.int .i64 r], fun _ => rfl, fun x u h => by simp at h; subst h; rfl⟩
theorem intInfo : (Tryz.prog.info? 3).map (fun i => (i.zero, i.size, i.bytes)) = some (some (.int .i64 0), 1, 8) := by kernel_rfl
theorem lInt_known : lInt.known 8 := known_of intInfo rfl rfl
end Go.Proofs.YtejmdmaebkdjoaaGreatDoor
