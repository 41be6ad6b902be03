/- errors.Is at a code (a number of type api.Code), of a code and of nil, by contracts. After the worked example Derived/Test/SentryIs.lean. -/
import Derived.Test.YtejmdmaebkdjoaaGreatDoorProg
import Derived.WalkKit
import Derived.LaidEql
import Derived.Stop.Asserts
import Derived.RowKitTokens
namespace Go.Proofs.YtejmdmaebkdjoaaGreatDoor
set_option linter.unusedVariables false
set_option linter.unusedSimpArgs false
set_option maxRecDepth 100000
set_option maxHeartbeats 4000000
open Go.RowKit Go.Extern.Stop Go.Stop Go.Extern
theorem x_typeOf (args : Array Value) (w : World) : (callFunc 91 args).run Tryz.prog w = ((ReflectliteType.typeOf args).run Tryz.prog w).andThen fun v w' => .ok (.value v) w' :=
 run_callFunc_extern Tryz.func91 (by kernel_rfl) (by kernel_rfl) (by kernel_rfl) (by kernel_rfl) args w
def eComparable (args : Array Value) : Sem Value := (ReflectliteType.method fun t => do Rtype.noPackHeld "Comparable" t; pure (.bool (← typeInfo t).comparable)) args
theorem x_comparable (args : Array Value) (w : World) : (callFunc 139 args).run Tryz.prog w = ((eComparable args).run Tryz.prog w).andThen fun v w' => .ok (.value v) w' :=
 run_callFunc_extern (e := eComparable) Tryz.func139 (by kernel_rfl) (by kernel_rfl) (by kernel_rfl) (by kernel_rfl) args w
theorem m_comparable (v : Value) (w : World) : (Go.method 354 208 v "Comparable").run Tryz.prog w = .ok (139, v) w := by kernel_rfl
theorem typeOfC (v : Value) (w : World) : (ReflectliteType.typeOf #[.iface 65 v]).run Tryz.prog w = .ok (.iface 208 (.agg #[.pointer (some ⟨1, 65, none⟩)])) w := by kernel_rfl
theorem compC (w : World) : (eComparable #[.agg #[.pointer (some ⟨1, 65, none⟩)]]).run Tryz.prog w = .ok (.bool true) w := by kernel_rfl
theorem noIsC (v : Value) (xT : TypeId) (w : World) : (Instr.typeAssert (.iface 65 v) xT 210 true).run Tryz.prog w = .ok (.tuple #[.nilIface, .bool false]) w := run_typeAssert_lacksB Tryz.underlying210 (by kernel_rfl) (by kernel_rfl) v xT w
theorem noUnC (v : Value) (xT : TypeId) (w : World) : (Instr.typeAssert (.iface 65 v) xT 213 true).run Tryz.prog w = .ok (.tuple #[.nilIface, .bool false]) w := run_typeAssert_lacksB Tryz.underlying213 (by kernel_rfl) (by kernel_rfl) v xT w
theorem noUnsC (v : Value) (xT : TypeId) (w : World) : (Instr.typeAssert (.iface 65 v) xT 215 true).run Tryz.prog w = .ok (.tuple #[.nilIface, .bool false]) w := run_typeAssert_lacksB Tryz.underlying215 (by kernel_rfl) (by kernel_rfl) v xT w
theorem compInfoC : (Tryz.prog.info? 65).map (·.comparable) = some true := by kernel_rfl
theorem eqlCC (a b : Int) (w : World) : (binOp .eql 30 (.iface 65 (.int .i64 a)) (.iface 65 (.int .i64 b))).run Tryz.prog w = .ok (.bool (a == b)) w := by
 obtain ⟨i, hi, hcmp⟩ := Option.map_eq_some_iff.1 compInfoC
 have h : ∀ d : Nat, (Op.equalIn (d + 2) 30 (.iface 65 (.int .i64 a)) (.iface 65 (.int .i64 b))).run Tryz.prog w = .ok (a == b) w := fun d => by
  simp [Op.equalIn, run_underlying Tryz.underlying30, run_underlying Tryz.underlying65, typeInfo, hi, hcmp]
 simp only [binOp]
 simp [Op.equal, Op.maxDepth, h 9998]
theorem is_code (c d : Int) (w : World) :
  Calls Tryz.prog 92 #[.iface 65 (.int .i64 c), .iface 65 (.int .i64 d), .bool true] w fun ev w' => ev = .returned (.bool (c == d)) ∧ w = w' := by
 have q2 := eqlCC
 have n3 := noIsC
 have n4 := noUnC
 have n5 := noUnsC
 cases hcd : (c == d) with
 | true =>
  go_enter Tryz.func92, Tryz.ntmps92
  go_wp2
  refine wp_loop_rounds 1 ?_
  rw [rounds_succ]
  go_wp2
  go_ret
  exact ⟨rfl, rfl⟩
 | false =>
  go_enter Tryz.func92, Tryz.ntmps92
  go_wp2
  refine wp_loop_rounds 1 ?_
  rw [rounds_succ]
  go_wp2
  go_ret
  exact ⟨rfl, rfl⟩
theorem Is_code (c d : Int) (w : World) :
  Calls Tryz.prog 60 #[.iface 65 (.int .i64 c), .iface 65 (.int .i64 d)] w fun ev w' => ev = .returned (.bool (c == d)) ∧ w = w' := by
 have x1 := x_typeOf
 have x2 := x_comparable
 have m1 := m_comparable
 have k1 := typeOfC
 have k2 := compC
 go_enter Tryz.func60, Tryz.ntmps60
 go_wp2_with fail
 refine (is_code c d _).mono ?_
 rintro ev w1 ⟨rfl, rfl⟩
 go_wp2
 go_ret
 exact ⟨rfl, rfl⟩
end Go.Proofs.YtejmdmaebkdjoaaGreatDoor
