/- errors.Is at a code (a number of type api.Code), of a code and of nil, by contracts. After the worked example Derived/Test/SentryIs.lean. -/
import Derived.Test.YtabchlgbdlgacaaProg
import Derived.WalkKit
import Derived.LaidEql
import Derived.Stop.Asserts
import Derived.RowKitTokens
namespace Go.Proofs.Ytabchlgbdlgacaa
open Go.RowKit Go.Extern.Stop Go.Stop Go.Extern

theorem x_typeOf (args : Array Value) (w : World) : (callFunc 70 args).run Try.prog w = ((ReflectliteType.typeOf args).run Try.prog w).andThen fun v w' => .ok (.value v) w' :=
  run_callFunc_extern Try.func70 (by kernel_rfl) (by kernel_rfl) (by kernel_rfl) (by kernel_rfl) args w
def eComparable (args : Array Value) : Sem Value := (ReflectliteType.method fun t => do Rtype.noPackHeld "Comparable" t; pure (.bool (← typeInfo t).comparable)) args
theorem x_comparable (args : Array Value) (w : World) : (callFunc 105 args).run Try.prog w = ((eComparable args).run Try.prog w).andThen fun v w' => .ok (.value v) w' :=
  run_callFunc_extern (e := eComparable) Try.func105 (by kernel_rfl) (by kernel_rfl) (by kernel_rfl) (by kernel_rfl) args w

theorem m_comparable (v : Value) (w : World) : (Go.method 292 147 v "Comparable").run Try.prog w = .ok (105, v) w := by kernel_rfl
theorem typeOfC (v : Value) (w : World) : (ReflectliteType.typeOf #[.iface 60 v]).run Try.prog w = .ok (.iface 147 (.agg #[.pointer (some ⟨0, 60, none⟩)])) w := by kernel_rfl
theorem compC (w : World) : (eComparable #[.agg #[.pointer (some ⟨0, 60, none⟩)]]).run Try.prog w = .ok (.bool true) w := by kernel_rfl

theorem noIsC (v : Value) (xT : TypeId) (w : World) : (Instr.typeAssert (.iface 60 v) xT 149 true).run Try.prog w = .ok (.tuple #[.nilIface, .bool false]) w := run_typeAssert_lacksB Try.underlying149 (by kernel_rfl) (by kernel_rfl) v xT w
theorem noUnC (v : Value) (xT : TypeId) (w : World) : (Instr.typeAssert (.iface 60 v) xT 152 true).run Try.prog w = .ok (.tuple #[.nilIface, .bool false]) w := run_typeAssert_lacksB Try.underlying152 (by kernel_rfl) (by kernel_rfl) v xT w
theorem noUnsC (v : Value) (xT : TypeId) (w : World) : (Instr.typeAssert (.iface 60 v) xT 154 true).run Try.prog w = .ok (.tuple #[.nilIface, .bool false]) w := run_typeAssert_lacksB Try.underlying154 (by kernel_rfl) (by kernel_rfl) v xT w
theorem compInfoC : (Try.prog.info? 60).map (·.comparable) = some true := by kernel_rfl
theorem eqlCC (a b : Int) (w : World) : (binOp .eql 30 (.iface 60 (.int .i64 a)) (.iface 60 (.int .i64 b))).run Try.prog w = .ok (.bool (a == b)) w := by
  obtain ⟨i, hi, hcmp⟩ := Option.map_eq_some_iff.1 compInfoC
  have h : ∀ d : Nat, (Op.equalIn (d + 2) 30 (.iface 60 (.int .i64 a)) (.iface 60 (.int .i64 b))).run Try.prog w = .ok (a == b) w := fun d => by
    simp [Op.equalIn, run_underlying Try.underlying30, run_underlying Try.underlying60, typeInfo, hi, hcmp]
  simp only [binOp]
  simp [Op.equal, Op.maxDepth, h 9998]

set_option maxRecDepth 100000 in
set_option maxHeartbeats 4000000 in
theorem is_code (c d : Int) (w : World) :
    Calls Try.prog 71 #[.iface 60 (.int .i64 c), .iface 60 (.int .i64 d), .bool true] w fun ev w' => ev = .returned (.bool (c == d)) ∧ w = w' := by
  have q2 := eqlCC
  have n3 := noIsC
  have n4 := noUnC
  have n5 := noUnsC
  cases hcd : (c == d) with
  | true =>
    go_enter Try.func71, Try.ntmps71
    go_wp2
    refine wp_loop_rounds 1 ?_
    rw [rounds_succ]
    go_wp2
    go_ret
    exact ⟨rfl, rfl⟩
  | false =>
    go_enter Try.func71, Try.ntmps71
    go_wp2
    refine wp_loop_rounds 1 ?_
    rw [rounds_succ]
    go_wp2
    go_ret
    exact ⟨rfl, rfl⟩
set_option maxHeartbeats 1000000 in
theorem Is_code (c d : Int) (w : World) :
    Calls Try.prog 49 #[.iface 60 (.int .i64 c), .iface 60 (.int .i64 d)] w fun ev w' => ev = .returned (.bool (c == d)) ∧ w = w' := by
  have x1 := x_typeOf
  have x2 := x_comparable
  have m1 := m_comparable
  have k1 := typeOfC
  have k2 := compC
  go_enter Try.func49, Try.ntmps49
  go_wp2_with fail
  refine (is_code c d _).mono ?_
  rintro ev w1 ⟨rfl, rfl⟩
  go_wp2
  go_ret
  exact ⟨rfl, rfl⟩
set_option maxHeartbeats 1000000 in
theorem Is_nilC (d : Int) (w : World) :
    Calls Try.prog 49 #[.nilIface, .iface 60 (.int .i64 d)] w fun ev w' => ev = .returned (.bool false) ∧ w = w' := by
  have hn := run_eql_iface_nil_left (P := Try.prog) w 60 (.int .i64 d) Try.underlying30
  go_enter Try.func49, Try.ntmps49
  go_wp2
  go_ret
  exact ⟨rfl, rfl⟩
end Go.Proofs.Ytabchlgbdlgacaa
