/- errors.Is and fault.Is over a join, at a code that is in it, by contracts. -/
import Derived.Test.YtkhhdaekdledoaaDoorFltJoinMk
namespace Go.Proofs.YtkhhdaekdledoaaDoor
open Go.RowKit Go.Extern.Stop Go.Stop Go.Extern

set_option maxRecDepth 100000 in
set_option maxHeartbeats 4000000 in
theorem is_join1 (la : List (ByteArray × Int)) (c : Int) (e x y : Value) (w : World) (hj : Jn w e x y) (hx : Chn w x la c) :
    Calls Tryd.prog 32 #[e, .iface 24 (.int .i64 c), .bool true] w fun ev w' => ev = .returned (.bool true) ∧ w = w' := by
  have A : Aside (Calls _ _ _ _ _) := is_chain la c c x w hx
  obtain ⟨jb, g, cap, rfl, j0, j1, j2⟩ := hj
  clear hx j2
  have q1 := eqlJC
  have n1 := noIsJ
  have n2 := noUnJ
  have n3 := hasUnsJ
  have m3 := m_unwrapJ
  have hcc : (c == c) = true := by simp
  go_enter Tryd.func32, Tryd.ntmps32
  go_wp2
  refine wp_loop_rounds 1 ?_
  rw [rounds_succ]
  go_wp2
  refine wp_loop_rounds 1 ?_
  rw [rounds_succ]
  go_wp2_with fail
  refine A.out.mono ?_
  rintro ev w1 ⟨rfl, rfl⟩
  go_wp2
  go_ret
  exact ⟨rfl, rfl⟩

set_option maxRecDepth 100000 in
set_option maxHeartbeats 4000000 in
theorem is_join2 (la lb : List (ByteArray × Int)) (c d : Int) (e x y : Value) (w : World) (hj : Jn w e x y) (hx : Chn w x la c) (hy : Chn w y lb d) (hne : (c == d) = false) :
    Calls Tryd.prog 32 #[e, .iface 24 (.int .i64 d), .bool true] w fun ev w' => ev = .returned (.bool true) ∧ w = w' := by
  have A : Aside (Calls _ _ _ _ _) := is_chain la c d x w hx
  have B : Aside (Calls _ _ _ _ _) := is_chain lb d d y w hy
  obtain ⟨jb, g, cap, rfl, j0, j1, j2⟩ := hj
  clear hx hy
  have q1 := eqlJC
  have n1 := noIsJ
  have n2 := noUnJ
  have n3 := hasUnsJ
  have m3 := m_unwrapJ
  have hcc : (d == d) = true := by simp
  go_enter Tryd.func32, Tryd.ntmps32
  go_wp2
  refine wp_loop_rounds 1 ?_
  rw [rounds_succ]
  go_wp2
  refine wp_loop_rounds 2 ?_
  rw [rounds_succ]
  go_wp2_with fail
  refine A.out.mono ?_
  rintro ev w1 ⟨rfl, rfl⟩
  rw [hne]
  go_wp2
  rw [rounds_succ]
  go_wp2_with fail
  refine B.out.mono ?_
  rintro ev w1 ⟨rfl, rfl⟩
  go_wp2
  go_ret
  exact ⟨rfl, rfl⟩

theorem is_join (la lb : List (ByteArray × Int)) (ca cb d : Int) (e x y : Value) (w : World) (hj : Jn w e x y) (hx : Chn w x la ca) (hy : Chn w y lb cb) (h : d = ca ∨ d = cb) :
    Calls Tryd.prog 32 #[e, .iface 24 (.int .i64 d), .bool true] w fun ev w' => ev = .returned (.bool true) ∧ w = w' := by
  by_cases hc : d = ca
  · subst hc; exact is_join1 la d e x y w hj hx
  · obtain rfl : d = cb := h.resolve_left hc
    exact is_join2 la lb ca d e x y w hj hx hy (by simp; omega)

set_option maxHeartbeats 1000000 in
theorem Is_join' (la lb : List (ByteArray × Int)) (ca cb d : Int) (e x y : Value) (w : World) (hj : Jn w e x y) (hx : Chn w x la ca) (hy : Chn w y lb cb) (h : d = ca ∨ d = cb) :
    Calls Tryd.prog 25 #[e, .iface 24 (.int .i64 d)] w fun ev w' => ev = .returned (.bool true) ∧ w = w' := by
  have A : Aside (Calls _ _ _ _ _) := is_join la lb ca cb d e x y w hj hx hy h
  obtain ⟨jb, g, cap, rfl, -, -, -⟩ := hj
  clear h hx hy
  have x1 := x_typeOf
  have x2 := x_comparable
  have m1 := m_comparable
  have k1 := typeOfC
  have k2 := compC
  go_enter Tryd.func25, Tryd.ntmps25
  go_wp2_with fail
  refine A.out.mono ?_
  rintro ev w1 ⟨rfl, rfl⟩
  go_wp2
  go_ret
  exact ⟨rfl, rfl⟩
theorem Is_join (la lb : List (ByteArray × Int)) (ca cb d : Int) (e x y : Value) (w : World) (hj : Jn w e x y) (hx : Chn w x la ca) (hy : Chn w y lb cb) (h : d = ca ∨ d = cb) :
    Calls Tryd.prog 11 #[e, .int .i64 d] w fun ev w' => ev = .returned (.bool true) ∧ Below w.heap.size w w' :=
  have hb : Below w.heap.size w (w.alloc (.cells #[.bool false] 4)) := (Below.refl _ _).alloc (Nat.le_refl _) _
  Is_of e d true w (Is_join' la lb ca cb d e x y _ (hj.below hb) (hx.below hb) (hy.below hb) h)
end Go.Proofs.YtkhhdaekdledoaaDoor
