/- errors.Is at a code (a number of type api.Code), of a code and of nil, by contracts. After the worked example Derived/Test/SentryIs.lean. -/
import Derived.Test.YtaiaaljahnackaaProg
import Derived.WalkKit
import Derived.LaidEql
import Derived.Stop.Asserts
import Derived.RowKitTokens
namespace Go.Proofs.Ytaiaaljahnackaa
open Go.RowKit Go.Extern.Stop Go.Stop Go.Extern
def eComparable (args : Array Value) : Sem Value := (ReflectliteType.method fun t => do Rtype.noPackHeld "Comparable" t; pure (.bool (← typeInfo t).comparable)) args
theorem compC (w : World) : (eComparable #[.agg #[.pointer (some ⟨0, 72, none⟩)]]).run Try.prog w = .ok (.bool true) w := by kernel_rfl

theorem compInfoC : (Try.prog.info? 72).map (·.comparable) = some true := by kernel_rfl
theorem eqlCC (a b : Int) (w : World) : (binOp .eql 30 (.iface 72 (.int .i64 a)) (.iface 72 (.int .i64 b))).run Try.prog w = .ok (.bool (a == b)) w := by
  obtain ⟨i, hi, hcmp⟩ := Option.map_eq_some_iff.1 compInfoC
  have h : ∀ d : Nat, (Op.equalIn (d + 2) 30 (.iface 72 (.int .i64 a)) (.iface 72 (.int .i64 b))).run Try.prog w = .ok (a == b) w := fun d => by
    simp [Op.equalIn, run_underlying Try.underlying30, run_underlying Try.underlying72, typeInfo, hi, hcmp]
  simp only [binOp]
  simp [Op.equal, Op.maxDepth, h 9998]

end Go.Proofs.Ytaiaaljahnackaa
