/- The walk of the law RowsParts, out of package rows's contracts: all ways. -/
import Derived.Test.YtaaikmompiejdaaRwLawPartsM
import Derived.Test.YtaaikmompiejdaaRwLawPartsE
namespace Go.Proofs.Ytaaikmompiejdaa
open Go.RowKit

theorem lawParts (C : RwC) (v u : Value) (rs ss : List Rw) (key : ByteArray) (w : World) (hv : RowsV w v rs) (hu : RowsV w u ss) (hk : key.size ≤ maxLen) :
    Calls Try.prog 5 #[v, u, .string key] w fun ev w' => ev = .returned (.bool true) ∧ Below w.heap.size w w' := by
  rcases hv.form with ⟨rfl, rfl⟩ | ⟨b, off, cap, rfl, hlc, hcm, -⟩
  · exact lawParts_nil C u ss key w hu hk
  · by_cases hcn : cap = (fnd rs key).1
    · subst hcn
      exact lawParts_end C b off _ u rs ss key w hv hlc hcm hu hk rfl
    · exact lawParts_mid C b off cap _ u rs ss key w hv hlc hcm hu hk rfl hcn
end Go.Proofs.Ytaaikmompiejdaa
