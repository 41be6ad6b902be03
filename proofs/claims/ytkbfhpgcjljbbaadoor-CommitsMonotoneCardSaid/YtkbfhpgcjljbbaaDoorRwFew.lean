/- The laws' own Few over rows (layer 3): at most 100 rows, of 2000 bytes in all. -/
import Derived.Test.YtkbfhpgcjljbbaaDoorRwRef2
namespace Go.Proofs.YtkbfhpgcjljbbaaDoor
open Go.RowKit

theorem sumR_le : ∀ rs : List Rw, sumR rs ≤ 4002 * rs.length
  | [] => by simp [sumR]
  | r :: rs => by have := sumR_le rs; simp [sumR]; omega
theorem min_run (x : Nat) (w : World) (ts : Array TypeId) (t : TypeId) : (Builtin.min_ ts t #[.int .i64 (x : Int), .int .i64 2001]).run Tryd.prog w = .ok (.int .i64 ((min x 2001 : Nat) : Int)) w := by
  rw [run_min_int2]
  congr 2
  by_cases h : (2001 : Int) < (x : Int)
  · rw [if_pos h]; omega
  · rw [if_neg h]; omega
end Go.Proofs.YtkbfhpgcjljbbaaDoor
