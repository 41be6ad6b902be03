/- One job that came in, for the laws of layer 12. -/
import Derived.Test.YtaiaaljahnackaaNsLaidJ
namespace Go.Proofs.Ytaiaaljahnackaa
open Go.ChangeShapes Go.WideShapes Go.RowKit

section
variable {H : Type} {enc : TypeId × Value → H} {w : World} {base : Nat} {spare : Nat → Bool} {held : Bool}
set_option maxRecDepth 100000 in
theorem job_in {r : Reach} {b0 : Nat} {v : Value} {d : DataW H} {p : List MemPlace} (hv : Value.okWide Try.prog w r b0 46 v) (h : DataW.Trod enc Try.prog w base spare held 46 v d p) :
    ∃ J : JobT, v = .agg J.d.cells.toArray ∧ JobW w J.d J.bs J.ds J.hd := by
  obtain ⟨cs, rfl, -⟩ := okWide_struct Try.underlying46 hv
  obtain ⟨fuel, hf⟩ := h
  obtain ⟨d, e, J, rfl, hJ⟩ := job_of _ _ _ hf
  refine ⟨J, ?_, hJ⟩
  have : cs = J.d.cells.toArray := by rw [← e]; simp [Value.cells]
  rw [this]
end
end Go.Proofs.Ytaiaaljahnackaa
