/- What the texts of arena, mapping and epoch share. -/
import Derived.Test.YtaiaaljahnackaaErrIs
import Derived.Test.YtaiaaljahnackaaMw
import Derived.WalkSmall
import Derived.Deep.LoopGhost
import Derived.Defers
import Derived.Recover
import Derived.Maps.OwnSet
import Derived.Maps.OwnOps
namespace Go.Proofs.Ytaiaaljahnackaa
open Go.RowKit Go.Extern.Stop Go.Stop Go.Extern

theorem run_makeFunc (fn : Fn) (first cap : Array Value) (w : World) : (Instr.makeFunc fn first cap).run Try.prog w = .ok (.func fn first cap) w := rfl
open Go.RowKit Go.Maps

abbrev Rf := Int × Int
def refV (x y : Int) : Value := .agg #[.int .i64 x, .int .i64 y]
def errV (e : Int) : Value := if e = 0 then .nilIface else .iface 72 (.int .i64 e)
theorem errV_at {e : Int} (h : e = 0) : errV e = .nilIface := by unfold errV; rw [if_pos h]
/-! ### in memory -/
theorem keyI : Keyed Try.prog 3 := int_keyed Try.underlying3
theorem zeroI (w : World) : (zeroValue 3).run Try.prog w = .ok (.int .i64 0) w := by kernel_rfl
/-! ### Pages -/
def lInt : Lay Int := ⟨3, 1, fun r => [.int .i64 r], fun _ => rfl, fun x u h => by simp at h; subst h; rfl⟩
theorem intInfo : (Try.prog.info? 3).map (fun i => (i.zero, i.size, i.bytes)) = some (some (.int .i64 0), 1, 8) := by kernel_rfl
theorem lInt_known : lInt.known 8 := known_of intInfo rfl rfl
end Go.Proofs.Ytaiaaljahnackaa
