/- errors.Is and fault.Is at a code, over a chain and over nil, by contracts. -/
import Derived.Test.YtkhhdaekdledoaaDoorFltPlace
namespace Go.Proofs.YtkhhdaekdledoaaDoor
open Go.RowKit Go.Extern.Stop Go.Stop Go.Extern

theorem ret_bool {a b : Bool} (h : a = b) : Ending.returned (.bool a) = .returned (.bool b) := by rw [h]

set_option maxRecDepth 100000 in
set_option maxHeartbeats 4000000 in
theorem is_chain (l : List (ByteArray × Int)) (c d : Int) (e : Value) (w : World) (h : Chn w e l c) :
    Calls Tryd.prog 32 #[e, .iface 24 (.int .i64 d), .bool true] w fun ev w' => ev = .returned (.bool (c == d)) ∧ w = w' := by
  have A : Aside (Chn w e l c) := h
  clear h
  have q1 := eqlFC
  have q2 := eqlCC
  have n1 := noIsF
  have n2 := hasUnF
  have n3 := noIsC
  have n4 := noUnC
  have n5 := noUnsC
  have m3 := m_unwrapF
  go_enter Tryd.func32, Tryd.ntmps32
  go_wp2
  go_loopg [0] l.length (fun k e W => ∃ l', l'.length = k ∧ Chn W e l' c ∧ W = w)
  case atStart => exact ⟨l, rfl, A.out, rfl⟩
  case round =>
    obtain ⟨l', hl', hC, rfl⟩ := hrel
    cases l' with
    | nil =>
      obtain rfl : _ = _ := hC
      go_wp2
      all_goals (go_ret; exact ⟨ret_bool (by simp [*]), rfl⟩)
    | cons p l' =>
      obtain ⟨b, e', rfl, h0, h1, h2, hC'⟩ := hC
      obtain ⟨u, v, rfl⟩ := hC'.held
      have B : Aside (l'.length + 1 = gk) := hl'
      have hA : Aside (Chn _ _ _ _) := hC'
      clear hl' hC'
      go_wp2
      go_roundg l'.length
      case measure => have := B.out; omega
      case rel => exact ⟨l', rfl, hA.out, rfl⟩

set_option maxHeartbeats 1000000 in
theorem Is_chain' (l : List (ByteArray × Int)) (c d : Int) (e : Value) (w : World) (h : Chn w e l c) :
    Calls Tryd.prog 25 #[e, .iface 24 (.int .i64 d)] w fun ev w' => ev = .returned (.bool (c == d)) ∧ w = w' := by
  have A : Aside (Calls _ _ _ _ _) := is_chain l c d e w h
  obtain ⟨u, v, rfl⟩ := h.held
  clear h
  have x1 := x_typeOf
  have x2 := x_comparable
  have m1 := m_comparable
  have k1 := typeOfC
  have k2 := compC
  go_enter Tryd.func25, Tryd.ntmps25
  go_wp2_with fail
  refine A.out.mono ?_
  rintro ev w1 ⟨rfl, rfl⟩
  go_wp2
  go_ret
  exact ⟨rfl, rfl⟩
set_option maxHeartbeats 1000000 in
theorem Is_nil' (d : Int) (w : World) :
    Calls Tryd.prog 25 #[.nilIface, .iface 24 (.int .i64 d)] w fun ev w' => ev = .returned (.bool false) ∧ w = w' := by
  have hn := run_eql_iface_nil_left (P := Tryd.prog) w 24 (.int .i64 d) Tryd.underlying30
  go_enter Tryd.func25, Tryd.ntmps25
  go_wp2
  go_ret
  exact ⟨rfl, rfl⟩

theorem is_idle (p : Addr) (w : World) :
    CallsD Tryd.prog 24 #[.pointer (some p)] .returning w fun e u' w' => e = .returned (.tuple #[]) ∧ u' = .returning ∧ w' = w := by
  refine callsD_of_wpS Tryd.func24 rfl fun c₀ cs hu => ?_
  apply wpS_seq
  apply wpS_region
  simp [wpOpsS, go_sem, recoverD, hu, Tryd.ntmps24, Exit.thenS]
  refine wpS_cond (t := false) (by simp [Act.eval, Array.replicate]) ?_
  simp only [Bool.false_eq_true, if_false]
  refine wpS_of_wp (wp_skip ?_)
  cases c₀
  simp_all [bodyPostS, results, Tryd.results24]

set_option maxHeartbeats 1000000 in
/-- fault.Is is errors.Is, where that answers x. -/
theorem Is_of (e : Value) (d : Int) (x : Bool) (w : World)
    (h : Calls Tryd.prog 25 #[e, .iface 24 (.int .i64 d)] (w.alloc (.cells #[.bool false] 4)) fun ev w' => ev = .returned (.bool x) ∧ (w.alloc (.cells #[.bool false] 4)) = w') :
    Calls Tryd.prog 11 #[e, .int .i64 d] w fun ev w' => ev = .returned (.bool x) ∧ Below w.heap.size w w' := by
  have hmf := run_makeFunc
  have A : Aside (Calls _ _ _ _ _) := h
  clear h
  go_enter_defers Tryd.func11, Tryd.ntmps11
  go_wp2_with fail
  refine A.out.mono ?_
  rintro ev w1 ⟨rfl, rfl⟩
  clear A
  go_wp2
  refine leaves_cons (f := 24) (args := #[.pointer (some ⟨w.heap.size, 0, none⟩)]) (by simp) (by simp [go_sem]) ?_
  refine (is_idle ⟨w.heap.size, 0, none⟩ _).mono ?_
  rintro e u' w'' ⟨rfl, rfl, rfl⟩
  simp [Leaves, settle, results, Tryd.results11, go_sem]
  exact (Below.refl _ _).alloc (Nat.le_refl _) _
theorem Is_chain (l : List (ByteArray × Int)) (c d : Int) (e : Value) (w : World) (h : Chn w e l c) :
    Calls Tryd.prog 11 #[e, .int .i64 d] w fun ev w' => ev = .returned (.bool (c == d)) ∧ Below w.heap.size w w' :=
  Is_of e d (c == d) w (Is_chain' l c d e _ (h.below ((Below.refl _ _).alloc (Nat.le_refl _) _)))
theorem Is_nil (d : Int) (w : World) :
    Calls Tryd.prog 11 #[.nilIface, .int .i64 d] w fun ev w' => ev = .returned (.bool false) ∧ Below w.heap.size w w' :=
  Is_of _ d false w (Is_nil' d _)
end Go.Proofs.YtkhhdaekdledoaaDoor
