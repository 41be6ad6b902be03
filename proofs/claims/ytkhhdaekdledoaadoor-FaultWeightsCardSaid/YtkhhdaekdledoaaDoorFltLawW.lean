/- The walk of the law FaultWeights: at every code it answers true, and nothing that there was turns. -/
import Derived.Test.YtkhhdaekdledoaaDoorFltAwake
namespace Go.Proofs.YtkhhdaekdledoaaDoor
open Go.RowKit Go.Extern.Stop Go.Stop Go.Extern
set_option maxHeartbeats 2000000 in
theorem lawWeights (c : Int) (w : World) (hg : Glob w) :
    Calls Tryd.prog 5 #[.int .i64 c] w fun ev w' => ev = .returned (.bool true) ∧ Below w.heap.size w w' := by
  have A : Aside (Glob w) := hg
  clear hg
  have h1 := beq_self_eq_true (wt c)
  go_enter Tryd.func5, Tryd.ntmps5
  go_wp2_with fail
  refine (weight_any _ _).mono ?_
  rintro ev w1 ⟨rfl, rfl⟩
  go_wp2_with fail
  refine (refWeight_any _ _).mono ?_
  rintro ev w1 ⟨rfl, hs⟩
  have B : Aside (Below _ _ _) := hs
  clear hs
  go_wp2_with fail
  refine (error_any _ _).mono ?_
  rintro ev w2 ⟨rfl, rfl⟩
  go_wp2_with fail
  refine (refText_any _ _).mono ?_
  rintro ev w2 ⟨rfl, hs⟩
  have C : Aside (Below w.heap.size w w2) := B.out.trans (hs.mono B.out.size)
  clear hs B
  go_wp2_with fail
  refine (awake_any _ (A.out.below C.out)).mono ?_
  rintro ev w3 ⟨rfl, hs⟩
  have D : Aside (Below w.heap.size w w3) := C.out.trans (hs.mono C.out.size)
  clear hs C A
  go_wp2
  go_ret
  exact ⟨rfl, D.out⟩
end Go.Proofs.YtkhhdaekdledoaaDoor
