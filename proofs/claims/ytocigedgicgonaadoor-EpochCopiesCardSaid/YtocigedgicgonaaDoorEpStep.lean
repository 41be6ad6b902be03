/- A step done in both clocks: does at every step, by a contract. -/
import Derived.Test.YtocigedgicgonaaDoorEpDoes0
import Derived.Test.YtocigedgicgonaaDoorEpDoes1
import Derived.Test.YtocigedgicgonaaDoorEpDoes2
import Derived.Test.YtocigedgicgonaaDoorEpDoesX
namespace Go.Proofs.YtocigedgicgonaaDoor
open Go.RowKit

theorem does_any (cb mb : Nat) (c r : Ck) (v : Value) (z t a : Int) (w : World) (hT : ClkAt w cb mb c) (hr : r.ok) (hv : OwnS lInt 0 w v r.L) (hg : Ea.Glob w) (hcs : ¬ CS cb mb 0) :
    Calls Tryd.prog 12 #[.pointer (some ⟨cb, 0, none⟩), refC r v, doVal z t a] w (DoesP w cb mb (c.step z t a) (r.step z t a) (c.agree r z t a)) := by
  by_cases h0 : z = 0
  · subst h0
    cases hm : (c.bump.n == r.bump.n) with
    | true =>
      rw [show c.agree r 0 t a = (c.bumpE == r.bumpE) by unfold Ck.agree; rw [if_pos rfl, hm, Bool.true_and]]
      exact does_0 cb mb c r v t a w hT hr hv hg hcs hm
    | false =>
      rw [show c.agree r 0 t a = false by unfold Ck.agree; rw [if_pos rfl, hm, Bool.false_and]]
      exact does_0n cb mb c r v t a w hT hr hv hg hcs hm
  · by_cases h1 : z = 1
    · subst h1
      exact does_1 cb mb c r v t a w hT hr hv hg hcs
    · by_cases h2 : z = 2
      · subst h2
        exact does_2 cb mb c r v t a w hT hr hv hg hcs
      · rw [show c.step z t a = c by unfold Ck.step; rw [if_neg h0, if_neg h1, if_neg h2], show r.step z t a = r by unfold Ck.step; rw [if_neg h0, if_neg h1, if_neg h2], show c.agree r z t a = true by unfold Ck.agree; rw [if_neg h0, if_neg h1, if_neg h2]]
        exact does_x cb mb c r v z t a w hT hr hv hg hcs h0 h1 h2
/-- a clock and the document's, alike: both go on alike -/
theorem does_same (cb mb : Nat) (c : Ck) (v : Value) (z t a : Int) (w : World) (hT : ClkAt w cb mb c) (hv : OwnS lInt 0 w v c.L) (hg : Ea.Glob w) (hcs : ¬ CS cb mb 0) :
    Calls Tryd.prog 12 #[.pointer (some ⟨cb, 0, none⟩), refC c v, doVal z t a] w (DoesP w cb mb (c.step z t a) (c.step z t a) true) := by
  have h := does_any cb mb c c v z t a w hT hT.ok hv hg hcs
  rw [Ck.agree_self] at h
  exact h
end Go.Proofs.YtocigedgicgonaaDoor
