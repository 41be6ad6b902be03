/- The law's own 'said' over the chain of two faults that 'awake' makes, and 'awake': true. -/
import Derived.Test.YtkhhdaekdledoaaDoorFltIs
import Derived.Test.YtkhhdaekdledoaaDoorFltCodes
namespace Go.Proofs.YtkhhdaekdledoaaDoor
open Go.RowKit Go.Extern.Stop Go.Stop Go.Extern

/-- the chain of 'awake': tree, arena, full -/
def two : List (ByteArray × Int) := [(⟨#[116, 114, 101, 101]⟩, 3), (⟨#[97, 114, 101, 110, 97]⟩, 7)]

theorem toFF (v : Value) (w : World) : (Instr.typeAssert (.iface 50 v) 30 50 true).run Tryd.prog w = .ok (.tuple #[v, .bool true]) w := by kernel_rfl
theorem toCF (v : Value) (w : World) : (Instr.typeAssert (.iface 24 v) 30 50 true).run Tryd.prog w = .ok (.tuple #[.pointer none, .bool false]) w := by kernel_rfl
theorem toCC (v : Value) (w : World) : (Instr.typeAssert (.iface 24 v) 30 24 true).run Tryd.prog w = .ok (.tuple #[v, .bool true]) w := by kernel_rfl

set_option maxRecDepth 100000 in
set_option maxHeartbeats 4000000 in
theorem said_two (e : Value) (w : World) (h : Chn w e two 3) :
    Calls Tryd.prog 22 #[e] w fun ev w' => ev = .returned (.string ⟨#[116, 114, 101, 101, 58, 32, 97, 114, 101, 110, 97, 58, 32, 102, 117, 108, 108]⟩) ∧ w = w' := by
  obtain ⟨b, e1, rfl, a0, a1, a2, b', e2, rfl, b0, b1, b2, hc⟩ := h
  obtain rfl : e2 = _ := hc
  simp only at a0 a1 a2 b0 b1 b2
  have t1 := toFF
  have t2 := toCF
  have t3 := toCC
  have hnot := run_not
  clear a1 b1
  go_enter Tryd.func22, Tryd.ntmps22
  go_wp2
  refine wp_loop_rounds 3 ?_
  rw [rounds_succ]
  go_wp2
  rw [rounds_succ]
  go_wp2
  rw [rounds_succ]
  go_wp2_with (go_at_call 18; refine (error_any _ _).mono ?_; rintro ev w1 ⟨rfl, rfl⟩)
  go_ret
  exact ⟨ret_str (by decide +kernel), rfl⟩

end Go.Proofs.YtkhhdaekdledoaaDoor
