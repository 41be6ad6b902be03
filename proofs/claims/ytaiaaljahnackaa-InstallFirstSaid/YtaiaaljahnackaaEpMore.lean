/- Package epoch's Leave, Oldest, New and Copy, by contracts. -/
import Derived.Test.YtaiaaljahnackaaMm
import Derived.Test.YtaiaaljahnackaaEpOps
import Derived.Laws.Externs
namespace Go.Proofs.Ytaiaaljahnackaa
open Go.RowKit Go.Maps
/-! ### Oldest -/
/-- o is the least of the numbers of those who have been met -/
structure OldTo (n : Int) (L : List Int) (left : Lit → Bool) (o : Int) : Prop where
  le : o ≤ n
  low : ∀ x, 0 < atL L x → left (kI x) = false → o ≤ atL L x
  hit : o = n ∨ ∃ x, 0 < atL L x ∧ o = atL L x
theorem OldTo.start {n : Int} {L : List Int} (hL : L.length ≤ 64) {w : World} {mb : Nat} {D : DataW Unit} (m : MapI w mb L D) : OldTo n L (Maps.has D) n :=
  ⟨Int.le_refl _, fun x hp hl => by
    have hx := atL_in (L := L) (x := x) (by omega)
    rw [m.has x (wfL (by omega) (by omega))] at hl
    simp at hl; omega, .inl rfl⟩
theorem OldTo.step {n : Int} {L : List Int} {left : Lit → Bool} {o : Int} (h : OldTo n L left o) {x v : Int} (hv : atL L x = v) (hp : 0 < v) : OldTo n L (fun z => left z && !z.sameKey (kI x)) (if v < o then v else o) := by
  refine ⟨by have := h.le; split <;> omega, fun y hy hl => ?_, ?_⟩
  · by_cases e : y = x
    · subst e; rw [hv]; split <;> omega
    · rw [sameKey_ne (kI_ne e)] at hl
      have := h.low y hy (by simpa using hl)
      split <;> omega
  · split
    · exact .inr ⟨x, by omega, hv.symm⟩
    · exact h.hit
theorem OldTo.fin {n : Int} {L : List Int} {left : Lit → Bool} {o : Int} (h : OldTo n L left o) (hl : ∀ k, left k = false) : oldL n L = o := oldL_eq h.le (fun x hx => h.low x hx (hl _)) h.hit
/-! ### New -/
def Ck.may (t l : Int) : Prop := ¬ (t < 1 ∨ 64 < t ∨ l < 1 ∨ 1099511627776 < l)
instance (t l : Int) : Decidable (Ck.may t l) := by unfold Ck.may; infer_instance
def Ck.new (t : Nat) (l : Int) : Ck := ⟨1, l, List.replicate t 0⟩
theorem Ck.new_ok {t : Nat} {l : Int} (h : Ck.may t l) : (Ck.new t l).ok := by
  unfold Ck.may at h
  exact ⟨Int.le_refl _, by show 1 ≤ l; omega, by show l ≤ _; omega, by simp [Ck.new]; omega, by simp [Ck.new]; omega, fun v hv => by rw [List.eq_of_mem_replicate hv]; exact ⟨Int.le_refl _, by show (0 : Int) ≤ 1; decide⟩⟩
set_option maxRecDepth 100000 in
set_option maxHeartbeats 4000000 in
theorem ep_new_no (t l : Int) (w : World) (h : ¬ Ck.may t l) : Calls Try.prog 28 #[.int .i64 t, .int .i64 l] w fun ev w' => ev = .returned (.pointer none) ∧ Below w.heap.size w w' := by
  have B := Lib.hid (Below.refl w.heap.size w)
  have N := Lib.hid h
  clear h
  by_cases h1 : t < 1
  · go_enter Try.func28, Try.ntmps28
    go_wp2
    go_ret
    exact ⟨rfl, B.out⟩
  · by_cases h2 : 64 < t
    · go_enter Try.func28, Try.ntmps28
      go_wp2
      go_ret
      exact ⟨rfl, B.out⟩
    · by_cases h3 : l < 1
      · go_enter Try.func28, Try.ntmps28
        go_wp2
        go_ret
        exact ⟨rfl, B.out⟩
      · have h4 : 1099511627776 < l := by have := N.out; unfold Ck.may at this; omega
        go_enter Try.func28, Try.ntmps28
        go_wp2
        go_ret
        exact ⟨rfl, B.out⟩
set_option maxRecDepth 100000 in
set_option maxHeartbeats 4000000 in
theorem ep_new_any (t : Nat) (l : Int) (w : World) (h : Ck.may t l) : Calls Try.prog 28 #[.int .i64 (t : Int), .int .i64 l] w fun ev w' => ∃ cb mb, ev = .returned (.pointer (some ⟨cb, 0, none⟩)) ∧ ClkAt w' cb mb (Ck.new t l) ∧ w.heap.size ≤ cb ∧ w.heap.size ≤ mb ∧ Below w.heap.size w w' := by
  have hmm := @run_makeMap Try.prog
  have h1 : ¬ (t : Int) < 1 := by unfold Ck.may at h; omega
  have h2 : ¬ (64 : Int) < t := by unfold Ck.may at h; omega
  have h3 : ¬ l < 1 := by unfold Ck.may at h; omega
  have h4 : ¬ 1099511627776 < l := by unfold Ck.may at h; omega
  have N := Lib.hid h
  clear h
  go_enter Try.func28, Try.ntmps28
  go_wp2
  have B := (alloc_below0 w (.map #[] 0)).trans ((alloc_below0 (w.alloc (.map #[] 0)) (.cells #[.int .i64 1, .int .i64 l, .int .i64 (t : Int), .map (some w.heap.size)] 113)).mono (alloc_below0 w _).size)
  have k := blk_new (w.alloc (.map #[] 0)) (.cells #[.int .i64 1, .int .i64 l, .int .i64 (t : Int), .map (some w.heap.size)] 113)
  rw [show (w.alloc (.map #[] 0)).heap.size = w.heap.size + 1 by simp] at k
  go_ret
  exact ⟨w.heap.size + 1, rfl, w.heap.size, ⟨Ck.new_ok N.out, by simpa [Ck.new] using k, _, (MapI.made w t).low (alloc_below0 _ _)⟩, by omega, Nat.le_refl _, B⟩
/-! ### Copy -/
theorem clone_run {w : World} {r : Nat} {es : Array MapEntry} {clock : Nat} (t : TypeId) (hb : w.heap[r]? = some (.map es clock)) :
    (Extern.MapsClone.clone #[.iface t (.map (some r))]).run Try.prog w = .ok (.iface t (.map (some w.heap.size))) (w.alloc (.map es clock)) := by
  have e : Extern.MapsClone.clone #[.iface t (.map (some r))] = (getObj r >>= fun o => match o with
      | .map entries clock => (newObj (.map entries clock) >>= fun n => pure (.iface t (.map (some n))))
      | _ => stuck "maps.clone: a map expected") := rfl
  rw [e]
  simp [MapKept.run_getObj_map hb, Result.andThen, go_sem]
theorem assert_map (w : World) (xT : TypeId) (v : Value) : (Instr.typeAssert (.iface 111 v) xT 111 false).run Try.prog w = .ok v w := by
  simp [Instr.typeAssert, run_underlying Try.underlying111, go_sem, Result.andThen]
end Go.Proofs.Ytaiaaljahnackaa
