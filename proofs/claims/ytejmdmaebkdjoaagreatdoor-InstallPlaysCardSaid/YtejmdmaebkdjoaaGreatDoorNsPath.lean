/- A region that draws and whose last operation (a call) writes what earlier ones read, and waits for them by way of others: an operation may be taken first if a path of waits leads to it. -/
import Derived.Test.YtejmdmaebkdjoaaGreatDoorArLast
namespace Go.Proofs.YtejmdmaebkdjoaaGreatDoor
set_option linter.unusedVariables false
set_option linter.unusedSimpArgs false
open Go
section
variable {P : Program} {ops : Array Oper} {Q : Exit → Act → World → Prop} {md : Region.Mode} {S : World → Prop} {z : Nat}
def Closed (md : Region.Mode) (ops : Array Oper) (listed : Array Bool) : Prop := ∀ j e, listed.getD j false = true → Region.waitsFor md ops j e = true → listed.getD e false = true
def closedB (md : Region.Mode) (ops : Array Oper) (listed : Array Bool) : Bool :=
 (List.range listed.size).all fun j => !(listed.getD j false) || (match ops[j]? with | some o => o.after.all (fun e => !(Region.binds md e) || listed.getD e.on false) | none => true)
theorem closed_of {listed : Array Bool} (h : closedB md ops listed = true) : Closed md ops listed := fun j e hj hw => by
 have hlt : j < listed.size := by
  rcases Nat.lt_or_ge j listed.size with h' | h'
  ·exact h'
  ·simp [Array.getElem?_eq_none h'] at hj
 have h1 := List.all_eq_true.1 h j (List.mem_range.2 hlt)
 obtain ⟨oz, ho, e2, he, hb, hon⟩ := Region.waitsFor_spec hw
 rw [hj, ho] at h1
 have h2 : oz.after.all (fun e => !(Region.binds md e) || listed.getD e.on false) = true := by simpa using h1
 have h3 := Array.all_eq_true_iff_forall_mem.1 h2 e2 he
 rw [hb, hon] at h3
 simpa using h3
theorem Closed.set {listed : Array Bool} (h : Closed md ops listed) {j : Nat} (hr : j ∈ Region.ready md ops listed) : Closed md ops (listed.setIfInBounds j true) := fun k e hk hw => by
 by_cases ek : k = j
 ·subst ek
  obtain ⟨oz, ho, e2, he, hb, hon⟩ := Region.waitsFor_spec hw
  obtain ⟨-, o2, ho2, hall⟩ := mem_ready.1 hr
  rw [ho] at ho2
  obtain rfl := Option.some.inj ho2
  have h3 := hall e2 he hb
  rw [hon] at h3
  exact getD_set_true h3
 ·rw [getD_set_ne false (Ne.symm ek)] at hk
  exact getD_set_true (h k e hk hw)
def pathB (md : Region.Mode) (ops : Array Oper) : Nat → List Nat → Nat → Bool
 | z, [], i => Region.waitsFor md ops z i
 | z, p :: ps, i => Region.waitsFor md ops z p && pathB md ops p ps i
theorem path_listed : ∀ (ps : List Nat) {y i : Nat} {listed : Array Bool}, Closed md ops listed → listed.getD y false = true → pathB md ops y ps i = true → listed.getD i false = true
 | [], _, _, _, hc, hy, hp => hc _ _ hy hp
 | p :: ps, y, i, listed, hc, hy, hp => by
  unfold pathB at hp
  rw [Bool.and_eq_true] at hp
  exact path_listed ps hc (hc _ _ hy hp.1) hp.2
theorem path_ready {i : Nat} {ps : List Nat} {listed : Array Bool} (hc : Closed md ops listed) (hi : i ∈ Region.ready md ops listed) (hz : z ∈ Region.ready md ops listed) (hp : pathB md ops z ps i = true) : False := by
 have hfirst : ∀ e, Region.waitsFor md ops z e = true → listed.getD e false = true := fun e hw => by
  obtain ⟨oz, ho, e2, he, hb, hon⟩ := Region.waitsFor_spec hw
  obtain ⟨-, o2, ho2, hall⟩ := mem_ready.1 hz
  rw [ho] at ho2
  obtain rfl := Option.some.inj ho2
  have h3 := hall e2 he hb
  rw [hon] at h3
  exact h3
 have hl : listed.getD i false = true := by
  cases ps with
  | nil => exact hfirst _ hp
  | cons p ps =>
   unfold pathB at hp
   rw [Bool.and_eq_true] at hp
   exact path_listed ps hc (hfirst _ hp.1) hp.2
 rw [getD_both (mem_ready.1 hi).1] at hl
 cases hl
theorem AnyBut.frontP {i : Nat} {oi : Oper} {v : Value} {ps : List Nat} (hi : ops[i]? = some oi) (hsel : ∀ (j : Nat) (o : Oper) cs b, ops[j]? = some o → o.op ≠ .select cs b)
  (hQ : ∀ c a w, Q (.panic c) (a.put oi.dst v) w → Q (.panic c) a w) (hp : pathB md ops z ps i = true) :
  ∀ (f : Nat) (listed : Array Bool) (a : Act) (w : World), Closed md ops listed → Region.free md ops listed i = true → i ∈ Region.ready md ops listed → YieldsIf P ops S oi v a → S w →
   AnyBut P md ops Q S z f (listed.setIfInBounds i true) (a.put oi.dst v) w → AnyBut P md ops Q S z (f + 1) listed a w := by
 intro f
 induction f with
 | zero =>
  intro listed a w hc hf hr hy hS H
  refine ⟨fun h0 => absurd hr (by rw [h0]; simp), fun j hj => ?_⟩
  by_cases e : j = i
  ·subst e
   exact hy.wpOp hi hS ⟨fun _ => hS, H⟩
  ·have := ready_mono hj e
   rw [H.1] at this
   cases this
 | succ f ih =>
  intro listed a w hc hf hr hy hS H
  refine ⟨fun h0 => absurd hr (by rw [h0]; simp), fun j hj => ?_⟩
  by_cases e : j = i
  ·subst e
   exact hy.wpOp hi hS ⟨fun _ => hS, H⟩
  ·obtain ⟨hun, oj, hoj, hall⟩ := mem_ready.1 hj
   have hap : oi.apart ops oj = true := Region.free_spec hi hf j oj hoj e hun fun e2 he2 hb2 hon => by
    have h3 := hall e2 he2 hb2
    rw [hon, getD_both (mem_ready.1 hr).1] at h3
    exact absurd h3 (by decide)
   have hji : i ∈ Region.ready md ops (listed.setIfInBounds j true) := ready_mono hr (Ne.symm e)
   refine wpOp_mono (fun a' w' k => ?_) (wpOp_putIf hoj hap (fun cs b => hsel i oi cs b hi) (fun cs b => hsel j oj cs b hoj) hQ hy (H.2 j (ready_mono hj e)))
   obtain ⟨hy', hS', hW⟩ := k
   have hjz : j ≠ z := fun ez => path_ready hc hr (ez ▸ hj) hp
   refine ⟨fun _ => hS' hjz, ih _ a' w' (hc.set hj) (free_set hf) hji hy' (hS' hjz) ?_⟩
   rw [Array.setIfInBounds_comm _ _ (Ne.symm e)] at hW
   exact hW
theorem AnyBut.takeP {i : Nat} {oi : Oper} {v : Value} {f : Nat} {listed : Array Bool} {a : Act} {w : World} (ps : List Nat) (hi : ops[i]? = some oi)
  (hs : Region.noSelect ops = true) (hf : Region.free md ops listed i = true) (hr : (Region.ready md ops listed).contains i = true) (hc : closedB md ops listed = true) (hp : pathB md ops z ps i = true)
  (hQ : ∀ c a w, Q (.panic c) (a.put oi.dst v) w → Q (.panic c) a w) (hy : YieldsIf P ops S oi v a) (hS : S w)
  (h : AnyBut P md ops Q S z f (listed.setIfInBounds i true) (a.put oi.dst v) w) : AnyBut P md ops Q S z (f + 1) listed a w :=
 AnyBut.frontP hi (Region.noSelect_spec hs) hQ hp f listed a w (closed_of hc) hf (by simpa using hr) hy hS h
end
end Go.Proofs.YtejmdmaebkdjoaaGreatDoor
