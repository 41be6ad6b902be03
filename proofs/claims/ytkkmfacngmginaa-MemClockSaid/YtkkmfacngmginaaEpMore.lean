/- Package epoch's Leave, Oldest, New and Copy, by contracts. -/
import Derived.Test.YtkkmfacngmginaaMm
import Derived.Test.YtkkmfacngmginaaEpOps
import Derived.Laws.Externs
namespace Go.Proofs.Ytkkmfacngmginaa
open Go.RowKit Go.Maps

set_option maxRecDepth 100000 in
set_option maxHeartbeats 4000000 in
theorem leave_any (w : World) (cb mb : Nat) (c : Ck) (h : ClkAt w cb mb c) (x : Int) :
    Calls Try.prog 64 #[.pointer (some ⟨cb, 0, none⟩), .int .i64 x] w fun ev w' => ev = .returned (errV (c.leaveE x)) ∧ ClkAt w' cb mb (c.leave x) ∧ Kept (CS cb mb) w w' := by
  have I := Lib.hid h
  by_cases ho : c.out x
  · have E := Lib.hid (show (!decide (c.out x)) = false ∧ errV (c.leaveE x) = .iface 73 (.int .i64 1) ∧ c.leave x = c by
      have he : c.leaveE x = 1 := by unfold Ck.leaveE; rw [if_pos ho]
      exact ⟨by simp [ho], by rw [he]; rfl, by unfold Ck.leave; rw [if_neg (by rw [he]; decide)]⟩)
    clear h
    go_enter Try.func64, Try.ntmps64
    go_wp2_with fail
    refine (has_any _ cb mb c I.out x).mono ?_
    rintro ev w1 ⟨rfl, hs⟩
    rw [E.out.1]
    have I1 := Lib.hid (I.out.low hs)
    have B := Lib.hid hs
    clear hs
    go_wp2
    go_ret
    rw [E.out.2.1, E.out.2.2]
    exact ⟨rfl, I1.out, Kept.of_below B.out⟩
  · have X : 0 ≤ x ∧ x < (c.L.length : Int) := by unfold Ck.out at ho; omega
    obtain ⟨i, rfl⟩ : ∃ i : Nat, x = i := ⟨x.toNat, by omega⟩
    have HO := Lib.hid (show (!decide (c.out i)) = true by simp [ho])
    have WX := Lib.hid (show (Lit.int .i64 (i : Int)).wf = true from wfL (by omega) (by have := h.ok.tm; omega))
    have HI := Lib.hid (show i < c.L.length by omega)
    by_cases hp : 0 < atL c.L i
    · have he : c.leaveE i = 0 := by unfold Ck.leaveE; rw [if_neg ho, if_pos hp]
      have E := Lib.hid (show decide (0 < atL c.L i) = true ∧ errV (c.leaveE i) = .nilIface ∧ c.leave i = ⟨c.n, c.l, c.L.set i 0⟩ by exact ⟨by simp [hp], by rw [he]; rfl, by unfold Ck.leave; rw [if_pos he]; rfl⟩)
      have OK := Lib.hid (show Ck.ok ⟨c.n, c.l, c.L.set i 0⟩ by rw [← E.out.2.2]; exact Ck.leave_ok h.ok i)
      have WA := Lib.hid (show 0 < atL c.L i ∧ c.L.length ≤ 64 from ⟨hp, h.ok.tm⟩)
      clear h he
      go_enter Try.func64, Try.ntmps64
      go_wp2_with fail
      refine (has_any _ cb mb c I.out i).mono ?_
      rintro ev w1 ⟨rfl, hs⟩
      rw [HO.out]
      have I1 := Lib.hid (I.out.low hs)
      have B := Lib.hid hs
      obtain ⟨D, hm⟩ := (I.out.low hs).map
      have M := Lib.hid hm
      have c3 := (I.out.low hs).c3
      clear hs hm
      go_wp2_with (first
        | (at_lookup; refine wpList_lookup_own_ok_int _ rfl _ _ 162 rfl 3 3 .i64 keyI Try.underlying162 Try.underlying3 (zeroI _) mb 100 D rfl M.out.own _ _ rfl (keyI_of WX.out) ?_; intro cc hat hwc; rw [M.out.has _ WX.out, E.out.1])
        | (at_delete; refine wpList_delete_own _ rfl _ _ 162 3 rfl 3 keyI Try.underlying162 _ mb 100 D rfl M.out.own _ _ rfl (keyI_of WX.out) ?_; intro w2 hown hturn))
      have M2 := M.out.del WA.out.2 HI.out WA.out.1 hown
      have K2 := Kept.of_grown hturn.grown
      go_ret
      rw [E.out.2.1, E.out.2.2]
      have hl : (c.L.set i 0).length = c.L.length := by simp
      refine ⟨rfl, ⟨OK.out, ?_, ⟨_, M2⟩⟩, (Kept.of_below (S := CS cb mb) B.out).trans (K2.wide fun k _ e => Or.inr (Option.some.inj e))⟩
      have hb := (K2.block cb I1.out.ltC (fun e => I1.out.ne (Option.some.inj e).symm)).trans I1.out.blk
      rw [← hl] at hb
      exact hb
    · have E := Lib.hid (show decide (0 < atL c.L i) = false ∧ errV (c.leaveE i) = .iface 73 (.int .i64 13) ∧ c.leave i = c by
        have he : c.leaveE i = 13 := by unfold Ck.leaveE; rw [if_neg ho, if_neg hp]
        exact ⟨by simp; omega, by rw [he]; rfl, by unfold Ck.leave; rw [if_neg (by rw [he]; decide)]⟩)
      clear h hp
      go_enter Try.func64, Try.ntmps64
      go_wp2_with fail
      refine (has_any _ cb mb c I.out i).mono ?_
      rintro ev w1 ⟨rfl, hs⟩
      rw [HO.out]
      have I1 := Lib.hid (I.out.low hs)
      have B := Lib.hid hs
      obtain ⟨D, hm⟩ := (I.out.low hs).map
      have M := Lib.hid hm
      have c3 := (I.out.low hs).c3
      clear hs hm
      go_wp2_with (at_lookup; refine wpList_lookup_own_ok_int _ rfl _ _ 162 rfl 3 3 .i64 keyI Try.underlying162 Try.underlying3 (zeroI _) mb 100 D rfl M.out.own _ _ rfl (keyI_of WX.out) ?_; intro cc hat hwc; rw [M.out.has _ WX.out, E.out.1])
      go_ret
      rw [E.out.2.1, E.out.2.2]
      exact ⟨rfl, I1.out, Kept.of_below B.out⟩
/-! ### Oldest -/
/-- o is the least of the numbers of those who have been met -/
structure OldTo (n : Int) (L : List Int) (left : Lit → Bool) (o : Int) : Prop where
  le : o ≤ n
  low : ∀ x, 0 < atL L x → left (kI x) = false → o ≤ atL L x
  hit : o = n ∨ ∃ x, 0 < atL L x ∧ o = atL L x
theorem OldTo.start {n : Int} {L : List Int} (hL : L.length ≤ 64) {w : World} {mb : Nat} {D : DataW Unit} (m : MapI w mb L D) : OldTo n L (Maps.has D) n :=
  ⟨Int.le_refl _, fun x hp hl => by
    have hx := atL_in (L := L) (x := x) (by omega)
    rw [m.has x (wfL (by omega) (by omega))] at hl
    simp at hl; omega, .inl rfl⟩
theorem OldTo.step {n : Int} {L : List Int} {left : Lit → Bool} {o : Int} (h : OldTo n L left o) {x v : Int} (hv : atL L x = v) (hp : 0 < v) : OldTo n L (fun z => left z && !z.sameKey (kI x)) (if v < o then v else o) := by
  refine ⟨by have := h.le; split <;> omega, fun y hy hl => ?_, ?_⟩
  · by_cases e : y = x
    · subst e; rw [hv]; split <;> omega
    · rw [sameKey_ne (kI_ne e)] at hl
      have := h.low y hy (by simpa using hl)
      split <;> omega
  · split
    · exact .inr ⟨x, by omega, hv.symm⟩
    · exact h.hit
theorem OldTo.fin {n : Int} {L : List Int} {left : Lit → Bool} {o : Int} (h : OldTo n L left o) (hl : ∀ k, left k = false) : oldL n L = o := oldL_eq h.le (fun x hx => h.low x hx (hl _)) h.hit
/-! ### New -/
def Ck.may (t l : Int) : Prop := ¬ (t < 1 ∨ 64 < t ∨ l < 1 ∨ 1099511627776 < l)
instance (t l : Int) : Decidable (Ck.may t l) := by unfold Ck.may; infer_instance
def Ck.new (t : Nat) (l : Int) : Ck := ⟨1, l, List.replicate t 0⟩
theorem Ck.new_ok {t : Nat} {l : Int} (h : Ck.may t l) : (Ck.new t l).ok := by
  unfold Ck.may at h
  exact ⟨Int.le_refl _, by show 1 ≤ l; omega, by show l ≤ _; omega, by simp [Ck.new]; omega, by simp [Ck.new]; omega, fun v hv => by rw [List.eq_of_mem_replicate hv]; exact ⟨Int.le_refl _, by show (0 : Int) ≤ 1; decide⟩⟩
set_option maxRecDepth 100000 in
set_option maxHeartbeats 4000000 in
theorem ep_new_no (t l : Int) (w : World) (h : ¬ Ck.may t l) : Calls Try.prog 76 #[.int .i64 t, .int .i64 l] w fun ev w' => ev = .returned (.pointer none) ∧ Below w.heap.size w w' := by
  have B := Lib.hid (Below.refl w.heap.size w)
  have N := Lib.hid h
  clear h
  by_cases h1 : t < 1
  · go_enter Try.func76, Try.ntmps76
    go_wp2
    go_ret
    exact ⟨rfl, B.out⟩
  · by_cases h2 : 64 < t
    · go_enter Try.func76, Try.ntmps76
      go_wp2
      go_ret
      exact ⟨rfl, B.out⟩
    · by_cases h3 : l < 1
      · go_enter Try.func76, Try.ntmps76
        go_wp2
        go_ret
        exact ⟨rfl, B.out⟩
      · have h4 : 1099511627776 < l := by have := N.out; unfold Ck.may at this; omega
        go_enter Try.func76, Try.ntmps76
        go_wp2
        go_ret
        exact ⟨rfl, B.out⟩
set_option maxRecDepth 100000 in
set_option maxHeartbeats 4000000 in
theorem ep_new_any (t : Nat) (l : Int) (w : World) (h : Ck.may t l) : Calls Try.prog 76 #[.int .i64 (t : Int), .int .i64 l] w fun ev w' => ∃ cb mb, ev = .returned (.pointer (some ⟨cb, 0, none⟩)) ∧ ClkAt w' cb mb (Ck.new t l) ∧ w.heap.size ≤ cb ∧ w.heap.size ≤ mb ∧ Below w.heap.size w w' := by
  have hmm := @run_makeMap Try.prog
  have h1 : ¬ (t : Int) < 1 := by unfold Ck.may at h; omega
  have h2 : ¬ (64 : Int) < t := by unfold Ck.may at h; omega
  have h3 : ¬ l < 1 := by unfold Ck.may at h; omega
  have h4 : ¬ 1099511627776 < l := by unfold Ck.may at h; omega
  have N := Lib.hid h
  clear h
  go_enter Try.func76, Try.ntmps76
  go_wp2
  have B := (alloc_below0 w (.map #[] 0)).trans ((alloc_below0 (w.alloc (.map #[] 0)) (.cells #[.int .i64 1, .int .i64 l, .int .i64 (t : Int), .map (some w.heap.size)] 164)).mono (alloc_below0 w _).size)
  have k := blk_new (w.alloc (.map #[] 0)) (.cells #[.int .i64 1, .int .i64 l, .int .i64 (t : Int), .map (some w.heap.size)] 164)
  rw [show (w.alloc (.map #[] 0)).heap.size = w.heap.size + 1 by simp] at k
  go_ret
  exact ⟨w.heap.size + 1, rfl, w.heap.size, ⟨Ck.new_ok N.out, by simpa [Ck.new] using k, _, (MapI.made w t).low (alloc_below0 _ _)⟩, by omega, Nat.le_refl _, B⟩
/-! ### Copy -/
theorem x_clone (args : Array Value) (w : World) : (callFunc 105 args).run Try.prog w = ((Extern.MapsClone.clone args).run Try.prog w).andThen fun v w' => .ok (.value v) w' :=
  run_callFunc_extern (e := Extern.MapsClone.clone) Try.func105 (by kernel_rfl) (by kernel_rfl) (by kernel_rfl) (by kernel_rfl) args w
theorem clone_run {w : World} {r : Nat} {es : Array MapEntry} {clock : Nat} (t : TypeId) (hb : w.heap[r]? = some (.map es clock)) :
    (Extern.MapsClone.clone #[.iface t (.map (some r))]).run Try.prog w = .ok (.iface t (.map (some w.heap.size))) (w.alloc (.map es clock)) := by
  have e : Extern.MapsClone.clone #[.iface t (.map (some r))] = (getObj r >>= fun o => match o with
      | .map entries clock => (newObj (.map entries clock) >>= fun n => pure (.iface t (.map (some n))))
      | _ => stuck "maps.clone: a map expected") := rfl
  rw [e]
  simp [MapKept.run_getObj_map hb, Result.andThen, go_sem]
theorem assert_map (w : World) (xT : TypeId) (v : Value) : (Instr.typeAssert (.iface 162 v) xT 162 false).run Try.prog w = .ok v w := by
  simp [Instr.typeAssert, run_underlying Try.underlying162, go_sem, Result.andThen]
set_option maxRecDepth 100000 in
set_option maxHeartbeats 4000000 in
theorem ep_clone_any (w : World) (mb : Nat) (L : List Int) (D : DataW Unit) (h : MapI w mb L D) :
    Calls Try.prog 101 #[.map (some mb)] w fun ev w' => ev = .returned (.map (some w.heap.size)) ∧ MapI w' w.heap.size L D ∧ Below w.heap.size w w' := by
  obtain ⟨es, clock, hb, hF, hz, hD⟩ := h.own
  have hq := fun w => run_eql_map_nil (P := Try.prog) w 162 _ _ (some mb) Try.underlying162
  have hcl := fun a w => x_clone a w
  have hrun := clone_run (w := w) 162 hb
  have has' := fun w xT v => assert_map w xT v
  have M := Lib.hid (show MapI (w.alloc (.map es clock)) w.heap.size L D from ⟨⟨es, clock, heap_alloc_new w _, hF, hz, hD⟩, h.has, h.at0, h.size⟩)
  have B := Lib.hid (alloc_below0 w (.map es clock))
  clear h hb hF hz hD
  go_enter Try.func101, Try.ntmps101
  go_wp2
  go_ret
  exact ⟨rfl, M.out, B.out⟩
set_option maxRecDepth 100000 in
set_option maxHeartbeats 4000000 in
theorem ep_copy_any (w : World) (cb mb : Nat) (c : Ck) (h : ClkAt w cb mb c) :
    Calls Try.prog 72 #[.pointer (some ⟨cb, 0, none⟩)] w fun ev w' => ∃ c' m', ev = .returned (.pointer (some ⟨c', 0, none⟩)) ∧ ClkAt w' c' m' c ∧ w.heap.size ≤ c' ∧ w.heap.size ≤ m' ∧ Below w.heap.size w w' := by
  have I := Lib.hid h
  have c0 := h.c0
  have c1 := h.c1
  have c2 := h.c2
  have c3 := h.c3
  have b0 := alloc_below0 w (.cells #[.int .i64 c.n, .int .i64 c.l, .int .i64 (c.L.length : Int), .map (some mb)] 164)
  have I0 := Lib.hid (h.low b0)
  have K0 := Lib.hid (blk_new w (.cells #[.int .i64 c.n, .int .i64 c.l, .int .i64 (c.L.length : Int), .map (some mb)] 164))
  have B0 := Lib.hid b0
  have c3a := I0.out.c3
  have e1 : (w.alloc (.cells #[.int .i64 c.n, .int .i64 c.l, .int .i64 (c.L.length : Int), .map (some mb)] 164)).heap.size = w.heap.size + 1 := by simp
  obtain ⟨D, hm⟩ := I0.out.map
  have M0 := Lib.hid hm
  have E1 := Lib.hid e1
  clear h b0 hm e1
  go_enter Try.func72, Try.ntmps72
  go_wp2_with fail
  refine (ep_clone_any _ mb c.L D M0.out).mono ?_
  rintro ev w1 ⟨rfl, hM, hs⟩
  rw [E1.out] at hM
  rw [E1.out]
  have M1 := Lib.hid hM
  have B1 := Lib.hid (B0.out.trans (hs.mono B0.out.size))
  have K1 := Lib.hid (blk_step K0.out hs)
  have o3 := blk_cell K1.out 3
  have f3 := blk_free K1.out 3
  have q3 := blk_set K1.out 3 (.map (some (w.heap.size + 1)))
  clear hs hM
  go_wp2
  go_ret
  exact ⟨w.heap.size, w.heap.size + 1, rfl, ⟨I.out.ok, q3, D, M1.out.own.setCell (a := ⟨w.heap.size, 3, none⟩) (by simp) _, M1.out.has, M1.out.at0, M1.out.size⟩, Nat.le_refl _, by omega, below_set B1.out (Nat.le_refl _) _ _⟩
end Go.Proofs.Ytkkmfacngmginaa
