/- errors.Is at a code (a number of type api.Code), of a code and of nil, by contracts. After the worked example Derived/Test/SentryIs.lean. -/
import Derived.Test.YtkkmfacngmginaaDoorProg
import Derived.WalkKit
import Derived.LaidEql
import Derived.Stop.Asserts
import Derived.RowKitTokens
namespace Go.Proofs.YtkkmfacngmginaaDoor
open Go.RowKit Go.Extern.Stop Go.Stop Go.Extern

theorem x_typeOf (args : Array Value) (w : World) : (callFunc 99 args).run Tryd.prog w = ((ReflectliteType.typeOf args).run Tryd.prog w).andThen fun v w' => .ok (.value v) w' :=
  run_callFunc_extern Tryd.func99 (by kernel_rfl) (by kernel_rfl) (by kernel_rfl) (by kernel_rfl) args w
def eComparable (args : Array Value) : Sem Value := (ReflectliteType.method fun t => do Rtype.noPackHeld "Comparable" t; pure (.bool (← typeInfo t).comparable)) args
theorem x_comparable (args : Array Value) (w : World) : (callFunc 139 args).run Tryd.prog w = ((eComparable args).run Tryd.prog w).andThen fun v w' => .ok (.value v) w' :=
  run_callFunc_extern (e := eComparable) Tryd.func139 (by kernel_rfl) (by kernel_rfl) (by kernel_rfl) (by kernel_rfl) args w

theorem m_comparable (v : Value) (w : World) : (Go.method 361 215 v "Comparable").run Tryd.prog w = .ok (139, v) w := by kernel_rfl
theorem typeOfC (v : Value) (w : World) : (ReflectliteType.typeOf #[.iface 45 v]).run Tryd.prog w = .ok (.iface 215 (.agg #[.pointer (some ⟨2, 45, none⟩)])) w := by kernel_rfl
theorem compC (w : World) : (eComparable #[.agg #[.pointer (some ⟨2, 45, none⟩)]]).run Tryd.prog w = .ok (.bool true) w := by kernel_rfl

theorem noUnC (v : Value) (xT : TypeId) (w : World) : (Instr.typeAssert (.iface 45 v) xT 223 true).run Tryd.prog w = .ok (.tuple #[.nilIface, .bool false]) w := run_typeAssert_lacksB Tryd.underlying223 (by kernel_rfl) (by kernel_rfl) v xT w
theorem noUnsC (v : Value) (xT : TypeId) (w : World) : (Instr.typeAssert (.iface 45 v) xT 225 true).run Tryd.prog w = .ok (.tuple #[.nilIface, .bool false]) w := run_typeAssert_lacksB Tryd.underlying225 (by kernel_rfl) (by kernel_rfl) v xT w
theorem compInfoC : (Tryd.prog.info? 45).map (·.comparable) = some true := by kernel_rfl
theorem eqlCC (a b : Int) (w : World) : (binOp .eql 42 (.iface 45 (.int .i64 a)) (.iface 45 (.int .i64 b))).run Tryd.prog w = .ok (.bool (a == b)) w := by
  obtain ⟨i, hi, hcmp⟩ := Option.map_eq_some_iff.1 compInfoC
  have h : ∀ d : Nat, (Op.equalIn (d + 2) 42 (.iface 45 (.int .i64 a)) (.iface 45 (.int .i64 b))).run Tryd.prog w = .ok (a == b) w := fun d => by
    simp [Op.equalIn, run_underlying Tryd.underlying42, run_underlying Tryd.underlying45, typeInfo, hi, hcmp]
  simp only [binOp]
  simp [Op.equal, Op.maxDepth, h 9998]

end Go.Proofs.YtkkmfacngmginaaDoor
