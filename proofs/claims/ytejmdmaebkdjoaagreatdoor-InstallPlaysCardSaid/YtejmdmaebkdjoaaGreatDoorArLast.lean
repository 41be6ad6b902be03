/- A region that draws and whose last operation writes what an earlier one reads: S is asked behind every operation but the last. -/
import Derived.OrdersHeld
import Derived.Deep.RegionHeld
import Derived.StillTail
namespace Go.Proofs.YtejmdmaebkdjoaaGreatDoor
set_option linter.unusedVariables false
set_option linter.unusedSimpArgs false
open Go
theorem sT {α : Type} {l : List α} {i : Nat} {a : α} : l.toArray.setIfInBounds i a = (l.set i a).toArray := by simp
theorem sZ {α : Type} {x : α} {xs : List α} {a : α} : (x :: xs).set 0 a = a :: xs := rfl
theorem sS {α : Type} {x : α} {xs : List α} {i : Nat} {a : α} : (x :: xs).set (i + 1) a = x :: xs.set i a := rfl
section
variable {P : Program} {ops : Array Oper} {Q : Exit → Act → World → Prop} {md : Region.Mode} {S : World → Prop} {z : Nat}
theorem getD_put {listed : Array Bool} {j k : Nat} (h : listed.getD k true = true) : (listed.setIfInBounds j true).getD k true = true := by
 by_cases e : j = k
 ·subst e
  rcases Nat.lt_or_ge j listed.size with h' | h' <;> simp [h']
 ·rw [getD_set_ne true e]; exact h
theorem free_set {i j : Nat} {listed : Array Bool} (h : Region.free md ops listed i = true) : Region.free md ops (listed.setIfInBounds j true) i = true := by
 unfold Region.free at *
 cases ho : ops[i]? with
 | none => simp [ho] at h
 | some oi =>
  simp only [ho, List.all_eq_true, List.mem_range] at h ⊢
  intro k hk
  have h1 := h k hk
  rw [Bool.or_eq_true, Bool.or_eq_true] at h1 ⊢
  rcases h1 with (h1 | h1) | h1
  ·exact .inl (.inl h1)
  ·exact .inl (.inr (getD_put h1))
  ·exact .inr h1
def AnyBut (P : Program) (md : Region.Mode) (ops : Array Oper) (Q : Exit → Act → World → Prop) (S : World → Prop) (z : Nat) : Nat → Array Bool → Act → World → Prop
 | 0, listed, a, w => Region.ready md ops listed = [] ∧ Q .normal a w
 | f + 1, listed, a, w => (Region.ready md ops listed = [] → Q .normal a w) ∧
  ∀ i ∈ Region.ready md ops listed, wpOp P ops Q i (fun a' w' => (i ≠ z → S w') ∧ AnyBut P md ops Q S z f (listed.setIfInBounds i true) a' w') a w
theorem AnyBut.plain : ∀ (f : Nat) (listed : Array Bool) (a : Act) (w : World), AnyBut P md ops Q S z f listed a w → wpAny P md ops Q f listed a w
 | 0, _, _, _, h => h
 | f + 1, _, _, _, h => ⟨h.1, fun i hi => wpOp_mono (fun a' w' k => AnyBut.plain f _ a' w' k.2) (h.2 i hi)⟩
theorem AnyBut.front {i : Nat} {oi : Oper} {v : Value} (hi : ops[i]? = some oi) (hsel : ∀ (j : Nat) (o : Oper) cs b, ops[j]? = some o → o.op ≠ .select cs b)
  (hQ : ∀ c a w, Q (.panic c) (a.put oi.dst v) w → Q (.panic c) a w) (hz : Region.waitsFor md ops z i = true) :
  ∀ (f : Nat) (listed : Array Bool) (a : Act) (w : World), Region.free md ops listed i = true → i ∈ Region.ready md ops listed → YieldsIf P ops S oi v a → S w →
   AnyBut P md ops Q S z f (listed.setIfInBounds i true) (a.put oi.dst v) w → AnyBut P md ops Q S z (f + 1) listed a w := by
 have nz : ∀ {listed : Array Bool} {j : Nat}, i ∈ Region.ready md ops listed → j ∈ Region.ready md ops listed → j ≠ z := by
  intro listed j h1 h2 e
  subst e
  obtain ⟨oz, ho, e, he, hb, hon⟩ := Region.waitsFor_spec hz
  obtain ⟨-, o2, ho2, hall⟩ := mem_ready.1 h2
  rw [ho] at ho2
  obtain rfl := Option.some.inj ho2
  have h3 := hall e he hb
  rw [hon] at h3
  have h4 := getD_both (mem_ready.1 h1).1
  rw [h3] at h4
  exact absurd h4 (by decide)
 intro f
 induction f with
 | zero =>
  intro listed a w hf hr hy hS H
  refine ⟨fun h0 => absurd hr (by rw [h0]; simp), fun j hj => ?_⟩
  by_cases e : j = i
  ·subst e
   exact hy.wpOp hi hS ⟨fun _ => hS, H⟩
  ·have := ready_mono hj e
   rw [H.1] at this
   cases this
 | succ f ih =>
  intro listed a w hf hr hy hS H
  refine ⟨fun h0 => absurd hr (by rw [h0]; simp), fun j hj => ?_⟩
  by_cases e : j = i
  ·subst e
   exact hy.wpOp hi hS ⟨fun _ => hS, H⟩
  ·obtain ⟨hun, oj, hoj, hall⟩ := mem_ready.1 hj
   have hap : oi.apart ops oj = true := Region.free_spec hi hf j oj hoj e hun fun e2 he2 hb2 hon => by
    have h3 := hall e2 he2 hb2
    rw [hon, getD_both (mem_ready.1 hr).1] at h3
    exact absurd h3 (by decide)
   have hji : i ∈ Region.ready md ops (listed.setIfInBounds j true) := ready_mono hr (Ne.symm e)
   refine wpOp_mono (fun a' w' k => ?_) (wpOp_putIf hoj hap (fun cs b => hsel i oi cs b hi) (fun cs b => hsel j oj cs b hoj) hQ hy (H.2 j (ready_mono hj e)))
   obtain ⟨hy', hS', hW⟩ := k
   have hjz : j ≠ z := nz hr hj
   refine ⟨fun _ => hS' hjz, ih _ a' w' (free_set hf) hji hy' (hS' hjz) ?_⟩
   rw [Array.setIfInBounds_comm _ _ (Ne.symm e)] at hW
   exact hW
theorem AnyBut.take {i : Nat} {oi : Oper} {v : Value} {f : Nat} {listed : Array Bool} {a : Act} {w : World} (hi : ops[i]? = some oi)
  (hs : Region.noSelect ops = true) (hf : Region.free md ops listed i = true) (hr : (Region.ready md ops listed).contains i = true) (hz : Region.waitsFor md ops z i = true)
  (hQ : ∀ c a w, Q (.panic c) (a.put oi.dst v) w → Q (.panic c) a w) (hy : YieldsIf P ops S oi v a) (hS : S w)
  (h : AnyBut P md ops Q S z f (listed.setIfInBounds i true) (a.put oi.dst v) w) : AnyBut P md ops Q S z (f + 1) listed a w :=
 AnyBut.front hi (Region.noSelect_spec hs) hQ hz f listed a w hf (by simpa using hr) hy hS h
theorem AnyBut.one {i : Nat} {o : Oper} {f : Nat} {listed : Array Bool} {a : Act} {w : World} (hr : Region.ready md ops listed = [i]) (ho : ops[i]? = some o)
  (h : ∀ K' : Act → World → Prop, Shut (∀ a w, (i ≠ z → S w) → AnyBut P md ops Q S z f (listed.setIfInBounds i true) a w → K' a w) → if Region.wanted o (yielded ops a.tmps) = true then Oper.wp P o a w K' Q else K' (a.put o.dst undef) w) :
  AnyBut P md ops Q S z (f + 1) listed a w := by
 refine ⟨fun h0 => (by rw [hr] at h0; cases h0), fun j hj => ?_⟩
 rw [hr, List.mem_singleton] at hj
 subst hj
 exact wpOp_step ho (fun K' hK => h K' (fun a w hS hW => hK a w ⟨hS, hW⟩))
theorem AnyBut.two {i j : Nat} {o u : Oper} {f : Nat} {listed : Array Bool} {a : Act} {w : World} (hr : Region.ready md ops listed = [i, j]) (ho : ops[i]? = some o) (hu : ops[j]? = some u)
  (h : ∀ K' : Act → World → Prop, Shut (∀ a w, (i ≠ z → S w) → AnyBut P md ops Q S z f (listed.setIfInBounds i true) a w → K' a w) → if Region.wanted o (yielded ops a.tmps) = true then Oper.wp P o a w K' Q else K' (a.put o.dst undef) w)
  (h2 : ∀ K' : Act → World → Prop, Shut (∀ a w, (j ≠ z → S w) → AnyBut P md ops Q S z f (listed.setIfInBounds j true) a w → K' a w) → if Region.wanted u (yielded ops a.tmps) = true then Oper.wp P u a w K' Q else K' (a.put u.dst undef) w) :
  AnyBut P md ops Q S z (f + 1) listed a w := by
 refine ⟨fun h0 => (by rw [hr] at h0; cases h0), fun k hk => ?_⟩
 rw [hr] at hk
 rcases List.mem_cons.1 hk with rfl | hk
 ·exact wpOp_step ho (fun K' hK => h K' (fun a w hS hW => hK a w ⟨hS, hW⟩))
 ·rw [List.mem_singleton] at hk
  subst hk
  exact wpOp_step hu (fun K' hK => h2 K' (fun a w hS hW => hK a w ⟨hS, hW⟩))
theorem AnyBut.done {listed : Array Bool} {a : Act} {w : World} (hr : Region.ready md ops listed = []) (h : Q .normal a w) : ∀ f, AnyBut P md ops Q S z f listed a w
 | 0 => ⟨hr, h⟩
 | _ + 1 => ⟨fun _ => h, by rw [hr]; simp⟩
theorem AnyBut.region {id : Nat} {a : Act} {w : World} (S : World → Prop) (z : Nat) (hm : P.follows .mixedOrders = true)
  (h : AnyBut P .any ops Q S z ops.size (Array.replicate ops.size false) a w.drew) : (Code.region id ops true).wp P Q a w :=
 wp_region_any hm (AnyBut.plain _ _ _ _ h)
end
theorem tkH {P : Program} {md : Region.Mode} {ops : Array Oper} {Q : Exit → Act → World → Prop} {S : World → Prop} {i : Nat} {oi : Oper} {v : Value} {f : Nat} {listed : Array Bool} {a : Act} {w : World} (hi : ops[i]? = some oi) (hy : YieldsIf P ops S oi v a) (hS : S w)
  (h : wpAnyH P md ops Q S f (listed.setIfInBounds i true) (a.put oi.dst v) w) (hs : Region.noSelect ops = true := by as_aux_lemma => kernel_rfl) (hf : Region.free md ops listed i = true := by as_aux_lemma => kernel_rfl) (hr : (Region.ready md ops listed).contains i = true := by as_aux_lemma => kernel_rfl)
  (hQ : ∀ c a w, Q (.panic c) (a.put oi.dst v) w → Q (.panic c) a w := by exact fun _ _ _ h => h) : wpAnyH P md ops Q S (f + 1) listed a w := wpAnyH_take hi hs hf hr hQ hy hS h
theorem tkB {P : Program} {md : Region.Mode} {ops : Array Oper} {Q : Exit → Act → World → Prop} {S : World → Prop} {z i : Nat} {oi : Oper} {v : Value} {f : Nat} {listed : Array Bool} {a : Act} {w : World} (hi : ops[i]? = some oi) (hy : YieldsIf P ops S oi v a) (hS : S w)
  (h : AnyBut P md ops Q S z f (listed.setIfInBounds i true) (a.put oi.dst v) w) (hs : Region.noSelect ops = true := by kernel_rfl) (hf : Region.free md ops listed i = true := by kernel_rfl) (hr : (Region.ready md ops listed).contains i = true := by kernel_rfl) (hz : Region.waitsFor md ops z i = true := by kernel_rfl)
  (hQ : ∀ c a w, Q (.panic c) (a.put oi.dst v) w → Q (.panic c) a w := by exact fun _ _ _ h => h) : AnyBut P md ops Q S z (f + 1) listed a w := AnyBut.take hi hs hf hr hz hQ hy hS h
end Go.Proofs.YtejmdmaebkdjoaaGreatDoor
