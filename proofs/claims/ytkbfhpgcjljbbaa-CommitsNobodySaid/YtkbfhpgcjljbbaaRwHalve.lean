/- The document's own functions on rows (layer 3), by contracts: Halve. -/
import Derived.Test.YtkbfhpgcjljbbaaRwPut
namespace Go.Proofs.Ytkbfhpgcjljbbaa
open Go.RowKit

/-- is there something between the halves? -/
def halfB (rs : List Rw) : Bool := decide (2 ≤ rs.length) && bef (rs.getD (rs.length / 2 - 1) r0).1.data.toList (rs.getD (rs.length / 2) r0).1.data.toList
/-- what parts the halves -/
def halfK (rs : List Rw) : ByteArray := btw (rs.getD (rs.length / 2 - 1) r0).1 (rs.getD (rs.length / 2) r0).1
theorem results_tmp4 {P : Program} {fn : Func} {a b c d : Tmp} (h : fn.results = #[.tmp a, .tmp b, .tmp c, .tmp d]) (tmps : Array Value) (w : World) :
    (results fn tmps).run P w = .ok (.tuple #[tmps.getD a undef, tmps.getD b undef, tmps.getD c undef, tmps.getD d undef]) w := by
  simp [results, h]
end Go.Proofs.Ytkbfhpgcjljbbaa
