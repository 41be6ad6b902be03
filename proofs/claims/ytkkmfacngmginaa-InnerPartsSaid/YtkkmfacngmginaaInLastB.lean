/- A block that holds one record is a chain; append as one operation by hand; what a split makes of a chain's view. -/
import Derived.Test.YtkkmfacngmginaaInLast
namespace Go.Proofs.Ytkkmfacngmginaa
open Go.RowKit

section
variable {P : Program} {ops : Array Oper} {Q : Exit → Act → World → Prop} {md : Region.Mode} {S : World → Prop}
/-- one operation comes up; S holds behind it, too -/
theorem anyH_one {i : Nat} {o : Oper} {f : Nat} {listed : Array Bool} {a : Act} {w : World} (hr : Region.ready md ops listed = [i]) (ho : ops[i]? = some o)
    (h : ∀ K' : Act → World → Prop, Shut (∀ a w, S w → wpAnyH P md ops Q S f (listed.setIfInBounds i true) a w → K' a w) → if Region.wanted o (yielded ops a.tmps) = true then Oper.wp P o a w K' Q else K' (a.put o.dst undef) w) :
    wpAnyH P md ops Q S (f + 1) listed a w := by
  refine ⟨fun h0 => (by rw [hr] at h0; cases h0), fun j hj => ?_⟩
  rw [hr, List.mem_singleton] at hj
  subst hj
  exact wpOp_step ho (fun K' hK => h K' (fun a w hS hW => hK a w ⟨hS, hW⟩))
theorem anyH_region {id : Nat} {a : Act} {w : World} (S : World → Prop) (hm : P.follows .mixedOrders = true)
    (h : wpAnyH P .any ops Q S ops.size (Array.replicate ops.size false) a w.drew) : (Code.region id ops true).wp P Q a w :=
  wp_region_any hm (wpAny_of_held _ _ _ _ h)
end
/-- a block that holds one record -/
theorem OwnS.of_rec {base n : Nat} {w : World} {d : RcD} (hb : base ≤ n) (h : HB n (.cells d.cells.toArray 39) w) : OwnS lRec base w (.slice (some ⟨n, 0, none⟩) 1 1) [d] := by
  have e : lRec.flat [d] = d.cells := by simp [Lay.flat, lRec]
  refine ⟨by rw [lRec.flat_len], .inr ⟨n, 1, d.cells.toArray, by simp, hb, h.b, by simp, show 1 ≤ maxLen by decide, by simp [RcD.cells, recCells, lRec], ?_⟩⟩
  rw [e, List.take_of_length_le (by simp [RcD.cells, recCells, lRec])]
theorem ChO.of_rec {base n : Nat} {w : World} {d : RcD} (hb : base ≤ n) (h : HB n (.cells d.cells.toArray 39) w) (hd : RcO base w d) : ChO base w (.slice (some ⟨n, 0, none⟩) 1 1) [d] :=
  ⟨OwnS.of_rec hb h, fun x hx => by obtain rfl : x = d := by simpa using hx
                                    exact hd⟩
/-- APPEND as one operation carried out by hand -/
theorem wp_appS {α : Type} (E : Lay α) (T : TypeId) (hT : Try.prog.underlying T = some (.slice E.ty)) {by_ : Nat} (hk : E.known by_) (hz : 0 < E.sz) (hby : by_ ≤ 10000) {o : Oper} {a : Act} {w : World} {K : Act → World → Prop} {Q : Exit → Act → World → Prop} (s x : Operand)
    (ho : o.op = .call { callee := .builtin .append, args := #[s, x], argTypes := #[T, T] }) (base : Nat) {v xv : Value} {xs ys : List α}
    (hs : a.eval s = v) (hx : a.eval x = xv) (hown : OwnS E base w v xs) (hsrc : SV E w xv ys) (h63 : xs.length + ys.length ≤ 100000) (hbase : base ≤ w.heap.size)
    (h : ∀ v' w', OwnS E base w' v' (xs ++ ys) → w.grownBy w' v.ownBlock → K (a.put o.dst v') w') : Oper.wp Try.prog o a w K Q := by
  obtain ⟨v', w', hr, h2, h3⟩ := run_appS E T hT hk hz w base o.type hown hsrc h63 hby hbase
  unfold Oper.wp execOp
  simp only [ho, resolve, invoke, builtin, Sem.run_bind, Sem.run_pure, Result.andThen_ok, List.map_toArray, List.map_cons, List.map_nil, hs, hx, hr]
  exact h v' w' h2 h3
theorem why_two {v : IvD} (h : whyI v = 0) : v.held = false ∧ 2 ≤ v.ents.length := by
  unfold whyI at h
  split at h
  · cases h
  · next hh =>
    split at h
    · cases h
    · next h2 => exact ⟨by simpa using hh, by omega⟩
/-- a view of what has none is empty: nothing to split -/
theorem viewI_why {l : List RecD} {v : IvD} (hc : codeI l ≠ 0) (hv : viewI l = v) : whyI v ≠ 0 := by
  have e : v = IvD.zero := by
    rw [← hv]
    unfold viewI
    split
    · next h =>
      cases hf : foldI l with
      | none => rfl
      | some u => exact absurd (codeI_zero.2 ⟨h, u, hf⟩) hc
    · rfl
  rw [e]
  exact (show (2 : Int) ≠ 0 by decide)
theorem parts_math {l : List RecD} {v : IvD} (h : foldI l = some v) (hw : whyI v = 0) (p : Int) : ∃ wv xv : IvD, foldI (splitI9 (halfK v) p :: l) = some wv ∧ foldI [rightR v] = some xv ∧ wv.high = halfK v ∧ xv.low = halfK v ∧ wv.unb = false ∧ wv.right = p ∧ xv.right = v.right ∧ xv.high = v.high ∧ xv.unb = v.unb ∧ wv.ents ++ xv.ents = v.ents ∧
    ∀ k, (childI v k = none → childI wv k = none ∧ childI xv k = none) ∧ ∀ c, childI v k = some c → (childI wv k = some c ∧ childI xv k = none) ∨ (childI wv k = none ∧ childI xv k = some c) := by
  obtain ⟨hf, h2⟩ := why_two hw
  have g := goodI_fold h
  have H : Halves v (v.ents.length / 2) (halfK v) := halves_of h2
  have f1 := split_fold h hf H p
  have f2 := fold_base (half_right g H)
  refine ⟨_, _, f1, f2, rfl, rfl, rfl, rfl, rfl, rfl, rfl, List.take_append_drop _ _, fun k => ?_⟩
  have hc := half_child g H k { v with high := halfK v, unb := false, right := p, ents := v.ents.take (v.ents.length / 2) } ⟨halfK v, v.high, v.unb, v.right, v.ents.drop (v.ents.length / 2), false, 0, 0, ⟨#[]⟩⟩ ⟨rfl, rfl, rfl, rfl⟩ ⟨rfl, rfl, rfl, rfl⟩
  refine ⟨hc.1, fun c h => ?_⟩
  rcases hc.2 c h with ⟨-, h1, h2⟩ | ⟨-, h1, h2⟩
  · exact .inl ⟨h1, h2⟩
  · exact .inr ⟨h1, h2⟩
end Go.Proofs.Ytkkmfacngmginaa
