/- Package epoch's Leave, Oldest, New and Copy, by contracts. -/
import Derived.Test.YtejmdmaebkdjoaaGreatDoorMm
import Derived.Test.YtejmdmaebkdjoaaGreatDoorMw
import Derived.Maps.OwnSet
import Derived.Maps.OwnOps
import Derived.Maps.RangeWalk
import Derived.Deep.LoopGhost
import Derived.Deep.QuietTactic
import Derived.BigQuiet
import Derived.WalkSmall
import Derived.RegionTactic
import Derived.Deep.RegionHeld3
import Derived.WalkSpells
import Derived.Laws.Externs
namespace Go.Proofs.YtejmdmaebkdjoaaGreatDoor
set_option linter.unusedVariables false
set_option linter.unusedSimpArgs false
set_option maxRecDepth 100000
set_option maxHeartbeats 4000000
open Go.RowKit Go.Maps
/-! ### the model -/
def atL (L : List Int) (x : Int) : Int := if x < 0 then 0 else L.getD x.toNat 0
theorem atL_nat (L : List Int) (i : Nat) : atL L i = L.getD i 0 := by unfold atL; rw [if_neg (by omega)]; rfl
theorem atL_out {L : List Int} {x : Int} (h : x < 0 ∨ (L.length : Int) ≤ x) : atL L x = 0 := by
 unfold atL
 split
 ·rfl
 ·rw [List.getD_eq_getElem?_getD, List.getElem?_eq_none (by omega)]; rfl
theorem atL_in {L : List Int} {x : Int} (h : atL L x ≠ 0) : 0 ≤ x ∧ x < (L.length : Int) := by
 rcases Classical.em (x < 0 ∨ (L.length : Int) ≤ x) with h' | h'
 ·exact absurd (atL_out h') h
 ·omega
def cntL : List Int → Nat
 | [] => 0
 | v :: r => (if 0 < v then 1 else 0) + cntL r
theorem at_mem {L : List Int} {x : Int} (h : atL L x ≠ 0) : atL L x ∈ L := by
 obtain ⟨h0, h1⟩ := atL_in h
 obtain ⟨i, rfl⟩ : ∃ i : Nat, x = i := ⟨x.toNat, by omega⟩
 rw [atL_nat, List.getD_eq_getElem?_getD, List.getElem?_eq_getElem (by omega)]
 exact List.getElem_mem _
structure Ck where
 n : Int
 l : Int
 L : List Int
structure Ck.ok (c : Ck) : Prop where
 n1 : 1 ≤ c.n
 nl : c.n ≤ c.l
 lm : c.l ≤ 1099511627776
 t1 : 1 ≤ c.L.length
 tm : c.L.length ≤ 64
 each : ∀ v ∈ c.L, 0 ≤ v ∧ v ≤ c.n
def Ck.out (c : Ck) (x : Int) : Prop := x < 0 ∨ (c.L.length : Int) ≤ x
instance (c : Ck) (x : Int) : Decidable (c.out x) := by unfold Ck.out; infer_instance
abbrev kI (x : Int) : Lit := .int .i64 x
structure MapI (w : World) (mb : Nat) (L : List Int) (D : DataW Unit) : Prop where
 own : w.ownsMap Tryz.prog 3 (plainElem Tryz.prog 3) mb 100 D
 has : ∀ x, (Lit.int .i64 x).wf = true → Maps.has D (kI x) = decide (0 < atL L x)
 at0 : ∀ x, (Lit.int .i64 x).wf = true → D.atKey (kI x) (.lit (.int .i64 0)) = .lit (.int .i64 (atL L x))
 size : Maps.size D = cntL L
theorem MapI.made (w : World) (n : Nat) : MapI (w.alloc (.map #[] 0)) w.heap.size (List.replicate n 0) (.map []) := by
 have e : ∀ x, atL (List.replicate n 0) x = 0 := fun x => by
  rcases Classical.em (atL (List.replicate n 0) x = 0) with h | h
  ·exact h
  ·exact (List.eq_of_mem_replicate (at_mem h))
 refine ⟨(World.ownsMap_made _ _ _ _).mono (by omega), fun x _ => by rw [e]; rfl, fun x _ => by rw [e]; rfl, ?_⟩
 have : ∀ n, cntL (List.replicate n 0) = 0 := fun n => by induction n with
  | zero => rfl
  | succ n ih => simp only [List.replicate_succ, cntL, ih]; rfl
 rw [this]; rfl
theorem grown_low {w w' : World} (hs : Below w.heap.size w w') : w.grownBy w' none := ⟨hs.os, hs.tape, hs.output, hs.size, fun k hk _ => hs.block k hk⟩
theorem MapI.low {w w' : World} {mb : Nat} {L : List Int} {D : DataW Unit} (h : MapI w mb L D) (hs : Below w.heap.size w w') : MapI w' mb L D := ⟨h.own.kept (grown_low hs) (by simp), h.has, h.at0, h.size⟩
theorem MapI.keep {S : Nat → Prop} {w w' : World} {mb : Nat} {L : List Int} {D : DataW Unit} (h : MapI w mb L D) (hk : Kept S w w') (hS : ¬ S mb) : MapI w' mb L D := by
 obtain ⟨es, clock, hb, r⟩ := h.own
 exact ⟨⟨es, clock, (hk.block mb (Array.getElem?_eq_some_iff.1 hb).1 hS).trans hb, r⟩, h.has, h.at0, h.size⟩
theorem MapI.ltM {w : World} {mb : Nat} {L : List Int} {D : DataW Unit} (h : MapI w mb L D) : mb < w.heap.size := h.own.lt
structure ClkAt (w : World) (cb mb : Nat) (c : Ck) : Prop where
 ok : c.ok
 blk : w.heap[cb]? = some (.cells #[.int .i64 c.n, .int .i64 c.l, .int .i64 (c.L.length : Int), .map (some mb)] 150 (0, 0))
 map : ∃ D, MapI w mb c.L D
theorem ClkAt.ltC {w : World} {cb mb : Nat} {c : Ck} (h : ClkAt w cb mb c) : cb < w.heap.size := (Array.getElem?_eq_some_iff.1 h.blk).1
theorem ClkAt.ltM {w : World} {cb mb : Nat} {c : Ck} (h : ClkAt w cb mb c) : mb < w.heap.size := let ⟨_, m⟩ := h.map; m.ltM
theorem ClkAt.low {w w' : World} {cb mb : Nat} {c : Ck} (h : ClkAt w cb mb c) (hb : Below w.heap.size w w') : ClkAt w' cb mb c :=
 ⟨h.ok, blk_step h.blk hb, let ⟨D, m⟩ := h.map; ⟨D, m.low hb⟩⟩
theorem ClkAt.keep {w w' : World} {cb mb : Nat} {c : Ck} (h : ClkAt w cb mb c) {S : Nat → Prop} (hk : Kept S w w') (h1 : ¬ S cb) (h2 : ¬ S mb) : ClkAt w' cb mb c :=
 ⟨h.ok, (hk.block cb h.ltC h1).trans h.blk, let ⟨D, m⟩ := h.map; ⟨D, m.keep hk h2⟩⟩
open Go.RowKit Go.Maps
theorem errV_of {e : Int} (h : e ≠ 0) : errV e = .iface 65 (.int .i64 e) := by unfold errV; rw [if_neg h]
open Go.RowKit Go.Maps
/-! ### Oldest -/
/-! ### New -/
def Ck.may (t l : Int) : Prop := ¬ (t < 1 ∨ 64 < t ∨ l < 1 ∨ 1099511627776 < l)
instance (t l : Int) : Decidable (Ck.may t l) := by unfold Ck.may; infer_instance
def Ck.new (t : Nat) (l : Int) : Ck := ⟨1, l, List.replicate t 0⟩
theorem Ck.new_ok {t : Nat} {l : Int} (h : Ck.may t l) : (Ck.new t l).ok := by
 unfold Ck.may at h
 exact ⟨Int.le_refl _, by show 1 ≤ l; omega, by show l ≤ _; omega, by simp [Ck.new]; omega, by simp [Ck.new]; omega, fun v hv => by rw [List.eq_of_mem_replicate hv]; exact ⟨Int.le_refl _, by show (0 : Int) ≤ 1; decide⟩⟩
theorem ep_new_any (t : Nat) (l : Int) (w : World) (h : Ck.may t l) : Calls Tryz.prog 27 #[.int .i64 (t : Int), .int .i64 l] w fun ev w' => ∃ cb mb, ev = .returned (.pointer (some ⟨cb, 0, none⟩)) ∧ ClkAt w' cb mb (Ck.new t l) ∧ w.heap.size ≤ cb ∧ w.heap.size ≤ mb ∧ Below w.heap.size w w' := by
 have hmm := @run_makeMap Tryz.prog
 have h1 : ¬ (t : Int) < 1 := by unfold Ck.may at h; omega
 have h2 : ¬ (64 : Int) < t := by unfold Ck.may at h; omega
 have h3 : ¬ l < 1 := by unfold Ck.may at h; omega
 have h4 : ¬ 1099511627776 < l := by unfold Ck.may at h; omega
 have N := Lib.hid h
 clear h
 go_enter Tryz.func27, Tryz.ntmps27
 go_wp2
 have B := (alloc_below0 w (.map #[] 0)).trans ((alloc_below0 (w.alloc (.map #[] 0)) (.cells #[.int .i64 1, .int .i64 l, .int .i64 (t : Int), .map (some w.heap.size)] 150)).mono (alloc_below0 w _).size)
 have k := blk_new (w.alloc (.map #[] 0)) (.cells #[.int .i64 1, .int .i64 l, .int .i64 (t : Int), .map (some w.heap.size)] 150)
 rw [show (w.alloc (.map #[] 0)).heap.size = w.heap.size + 1 by simp] at k
 go_ret
 exact ⟨w.heap.size + 1, rfl, w.heap.size, ⟨Ck.new_ok N.out, by simpa [Ck.new] using k, _, (MapI.made w t).low (alloc_below0 _ _)⟩, by omega, Nat.le_refl _, B⟩
/-! ### Copy -/
end Go.Proofs.YtejmdmaebkdjoaaGreatDoor
