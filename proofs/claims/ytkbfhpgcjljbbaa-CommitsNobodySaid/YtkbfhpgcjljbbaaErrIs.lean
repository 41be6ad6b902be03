/- errors.Is at a code (a number of type api.Code), of a code and of nil, by contracts. After the worked example Derived/Test/SentryIs.lean. -/
import Derived.Test.YtkbfhpgcjljbbaaProg
import Derived.WalkKit
import Derived.LaidEql
import Derived.Stop.Asserts
import Derived.RowKitTokens
namespace Go.Proofs.Ytkbfhpgcjljbbaa
open Go.RowKit Go.Extern.Stop Go.Stop Go.Extern

theorem x_typeOf (args : Array Value) (w : World) : (callFunc 60 args).run Try.prog w = ((ReflectliteType.typeOf args).run Try.prog w).andThen fun v w' => .ok (.value v) w' :=
  run_callFunc_extern Try.func60 (by kernel_rfl) (by kernel_rfl) (by kernel_rfl) (by kernel_rfl) args w
def eComparable (args : Array Value) : Sem Value := (ReflectliteType.method fun t => do Rtype.noPackHeld "Comparable" t; pure (.bool (← typeInfo t).comparable)) args
theorem x_comparable (args : Array Value) (w : World) : (callFunc 90 args).run Try.prog w = ((eComparable args).run Try.prog w).andThen fun v w' => .ok (.value v) w' :=
  run_callFunc_extern (e := eComparable) Try.func90 (by kernel_rfl) (by kernel_rfl) (by kernel_rfl) (by kernel_rfl) args w

theorem m_comparable (v : Value) (w : World) : (Go.method 255 111 v "Comparable").run Try.prog w = .ok (90, v) w := by kernel_rfl
theorem typeOfC (v : Value) (w : World) : (ReflectliteType.typeOf #[.iface 67 v]).run Try.prog w = .ok (.iface 111 (.agg #[.pointer (some ⟨1, 67, none⟩)])) w := by kernel_rfl
theorem compC (w : World) : (eComparable #[.agg #[.pointer (some ⟨1, 67, none⟩)]]).run Try.prog w = .ok (.bool true) w := by kernel_rfl

theorem noIsC (v : Value) (xT : TypeId) (w : World) : (Instr.typeAssert (.iface 67 v) xT 113 true).run Try.prog w = .ok (.tuple #[.nilIface, .bool false]) w := run_typeAssert_lacksB Try.underlying113 (by kernel_rfl) (by kernel_rfl) v xT w
theorem noUnC (v : Value) (xT : TypeId) (w : World) : (Instr.typeAssert (.iface 67 v) xT 116 true).run Try.prog w = .ok (.tuple #[.nilIface, .bool false]) w := run_typeAssert_lacksB Try.underlying116 (by kernel_rfl) (by kernel_rfl) v xT w
theorem noUnsC (v : Value) (xT : TypeId) (w : World) : (Instr.typeAssert (.iface 67 v) xT 118 true).run Try.prog w = .ok (.tuple #[.nilIface, .bool false]) w := run_typeAssert_lacksB Try.underlying118 (by kernel_rfl) (by kernel_rfl) v xT w
theorem compInfoC : (Try.prog.info? 67).map (·.comparable) = some true := by kernel_rfl
theorem eqlCC (a b : Int) (w : World) : (binOp .eql 32 (.iface 67 (.int .i64 a)) (.iface 67 (.int .i64 b))).run Try.prog w = .ok (.bool (a == b)) w := by
  obtain ⟨i, hi, hcmp⟩ := Option.map_eq_some_iff.1 compInfoC
  have h : ∀ d : Nat, (Op.equalIn (d + 2) 32 (.iface 67 (.int .i64 a)) (.iface 67 (.int .i64 b))).run Try.prog w = .ok (a == b) w := fun d => by
    simp [Op.equalIn, run_underlying Try.underlying32, run_underlying Try.underlying67, typeInfo, hi, hcmp]
  simp only [binOp]
  simp [Op.equal, Op.maxDepth, h 9998]

set_option maxRecDepth 100000 in
set_option maxHeartbeats 4000000 in
theorem is_code (c d : Int) (w : World) :
    Calls Try.prog 61 #[.iface 67 (.int .i64 c), .iface 67 (.int .i64 d), .bool true] w fun ev w' => ev = .returned (.bool (c == d)) ∧ w = w' := by
  have q2 := eqlCC
  have n3 := noIsC
  have n4 := noUnC
  have n5 := noUnsC
  cases hcd : (c == d) with
  | true =>
    go_enter Try.func61, Try.ntmps61
    go_wp2
    refine wp_loop_rounds 1 ?_
    rw [rounds_succ]
    go_wp2
    go_ret
    exact ⟨rfl, rfl⟩
  | false =>
    go_enter Try.func61, Try.ntmps61
    go_wp2
    refine wp_loop_rounds 1 ?_
    rw [rounds_succ]
    go_wp2
    go_ret
    exact ⟨rfl, rfl⟩
set_option maxHeartbeats 1000000 in
theorem Is_code (c d : Int) (w : World) :
    Calls Try.prog 49 #[.iface 67 (.int .i64 c), .iface 67 (.int .i64 d)] w fun ev w' => ev = .returned (.bool (c == d)) ∧ w = w' := by
  have x1 := x_typeOf
  have x2 := x_comparable
  have m1 := m_comparable
  have k1 := typeOfC
  have k2 := compC
  go_enter Try.func49, Try.ntmps49
  go_wp2_with fail
  refine (is_code c d _).mono ?_
  rintro ev w1 ⟨rfl, rfl⟩
  go_wp2
  go_ret
  exact ⟨rfl, rfl⟩
set_option maxHeartbeats 1000000 in
theorem Is_nilC (d : Int) (w : World) :
    Calls Try.prog 49 #[.nilIface, .iface 67 (.int .i64 d)] w fun ev w' => ev = .returned (.bool false) ∧ w = w' := by
  have hn := run_eql_iface_nil_left (P := Try.prog) w 67 (.int .i64 d) Try.underlying32
  go_enter Try.func49, Try.ntmps49
  go_wp2
  go_ret
  exact ⟨rfl, rfl⟩
end Go.Proofs.Ytkbfhpgcjljbbaa
