/- Drawn regions by hand (ArLast): three operations at once; where a chain and a view stand apart. -/
import Derived.Test.YtkkmfacngmginaaArLast
import Derived.Test.YtkkmfacngmginaaInEnd
namespace Go.Proofs.Ytkkmfacngmginaa
open Go.RowKit

section
variable {P : Program} {ops : Array Oper} {Q : Exit → Act → World → Prop} {md : Region.Mode} {S : World → Prop} {z : Nat}
theorem AnyBut.three {i j k : Nat} {o u x : Oper} {f : Nat} {listed : Array Bool} {a : Act} {w : World} (hr : Region.ready md ops listed = [i, j, k]) (ho : ops[i]? = some o) (hu : ops[j]? = some u) (hx : ops[k]? = some x)
    (h : ∀ K' : Act → World → Prop, Shut (∀ a w, (i ≠ z → S w) → AnyBut P md ops Q S z f (listed.setIfInBounds i true) a w → K' a w) → if Region.wanted o (yielded ops a.tmps) = true then Oper.wp P o a w K' Q else K' (a.put o.dst undef) w)
    (h2 : ∀ K' : Act → World → Prop, Shut (∀ a w, (j ≠ z → S w) → AnyBut P md ops Q S z f (listed.setIfInBounds j true) a w → K' a w) → if Region.wanted u (yielded ops a.tmps) = true then Oper.wp P u a w K' Q else K' (a.put u.dst undef) w)
    (h3 : ∀ K' : Act → World → Prop, Shut (∀ a w, (k ≠ z → S w) → AnyBut P md ops Q S z f (listed.setIfInBounds k true) a w → K' a w) → if Region.wanted x (yielded ops a.tmps) = true then Oper.wp P x a w K' Q else K' (a.put x.dst undef) w) :
    AnyBut P md ops Q S z (f + 1) listed a w := by
  refine ⟨fun h0 => (by rw [hr] at h0; cases h0), fun q hq => ?_⟩
  rw [hr] at hq
  simp only [List.mem_cons, List.not_mem_nil, or_false] at hq
  rcases hq with rfl | rfl | rfl
  · exact wpOp_step ho (fun K' hK => h K' (fun a w hS hW => hK a w ⟨hS, hW⟩))
  · exact wpOp_step hu (fun K' hK => h2 K' (fun a w hS hW => hK a w ⟨hS, hW⟩))
  · exact wpOp_step hx (fun K' hK => h3 K' (fun a w hS hW => hK a w ⟨hS, hW⟩))
end
theorem OwnS.apart {α : Type} {E : Lay α} {base : Nat} {w : World} {v : Value} {xs : List α} (h : OwnS E base w v xs) {n : Nat} {cs : Array Value} {T : TypeId} (hb : HB n (.cells cs T) w) (hne : E.ty ≠ T) : Out (fun x => x = n) v := fun a m d hv hs => by
  obtain ⟨_, h⟩ := h
  rcases h with ⟨rfl, -⟩ | ⟨g, cap, cur, rfl, -, hg, -⟩
  · cases hv
  · obtain ⟨e, -, -⟩ := Value.slice.inj hv
    obtain rfl := Option.some.inj e
    obtain rfl : g = n := hs
    have h1 := Option.some.inj (hg.symm.trans hb.b)
    exact hne (Obj.cells.inj h1).2.1
end Go.Proofs.Ytkkmfacngmginaa
