/- What fault's functions answer over a join of two chains, and over a fault over it, by contracts. -/
import Derived.Test.YtkhhdaekdledoaaDoorFltJoinAs
import Derived.Test.YtkhhdaekdledoaaDoorFltLawO
namespace Go.Proofs.YtkhhdaekdledoaaDoor
open Go.RowKit Go.Extern.Stop Go.Stop Go.Extern

theorem As_joinC (l : List (ByteArray × Int)) (c : Int) (e x y : Value) (tb : Nat) (old : Value) (w : World) (hj : Jn w e x y) (hx : Chn w x l c) (hg : Glob w) (ht : w.cell? ⟨tb, 0, none⟩ = some old) (hf : w.frozen? ⟨tb, 0, none⟩ = false) :
    Calls Tryd.prog 27 #[e, .iface 56 (.pointer (some ⟨tb, 0, none⟩))] w fun ev w' => ev = .returned (.bool true) ∧ SetB w tb (.int .i64 c) w' := by
  have hlt := lt_of_cell ht
  have hj' := hj.below (asW_below 56 tb w)
  obtain ⟨jb, g, cap, rfl, -, -, -⟩ := hj
  refine As_C _ _ tb old w hg ht _ ((as_joinC l c _ x y tb w.heap.size old _ hj' (hx.below (asW_below _ _ _)) (asW_val _ _ _) ?_ ?_).mono ?_)
  · rw [(asW_below _ tb w).cell (p := ⟨tb, 0, none⟩) hlt]; exact ht
  · rw [(asW_below _ tb w).frozen (p := ⟨tb, 0, none⟩) hlt]; exact hf
  · rintro ev w' ⟨rfl, hs⟩
    exact ⟨_, rfl, rfl, hs.ofAs hlt⟩
theorem As_overC (b : Nat) (l : List (ByteArray × Int)) (c : Int) (e x y : Value) (tb : Nat) (old : Value) (w : World) (hj : Jn w e x y) (ho : w.cell? ⟨b, 2, none⟩ = some e) (hx : Chn w x l c) (hg : Glob w) (ht : w.cell? ⟨tb, 0, none⟩ = some old) (hf : w.frozen? ⟨tb, 0, none⟩ = false) :
    Calls Tryd.prog 27 #[.iface 50 (.pointer (some ⟨b, 0, none⟩)), .iface 56 (.pointer (some ⟨tb, 0, none⟩))] w fun ev w' => ev = .returned (.bool true) ∧ SetB w tb (.int .i64 c) w' := by
  have hlt := lt_of_cell ht
  have hj' := hj.below (asW_below 56 tb w)
  obtain ⟨jb, g, cap, rfl, -, -, -⟩ := hj
  have ho' := ((asW_below 56 tb w).cell (p := ⟨b, 2, none⟩) (lt_of_cell ho)).trans ho
  refine As_C _ _ tb old w hg ht _ ((as_overC b l c _ x y tb w.heap.size old _ hj' ho' (hx.below (asW_below _ _ _)) (asW_val _ _ _) ?_ ?_).mono ?_)
  · rw [(asW_below _ tb w).cell (p := ⟨tb, 0, none⟩) hlt]; exact ht
  · rw [(asW_below _ tb w).frozen (p := ⟨tb, 0, none⟩) hlt]; exact hf
  · rintro ev w' ⟨rfl, hs⟩
    exact ⟨_, rfl, rfl, hs.ofAs hlt⟩
theorem As_joinF1 (e y : Value) (bx tb : Nat) (old : Value) (w : World) (hj : Jn w e (.iface 50 (.pointer (some ⟨bx, 0, none⟩))) y) (hg : Glob w) (ht : w.cell? ⟨tb, 0, none⟩ = some old) (hf : w.frozen? ⟨tb, 0, none⟩ = false) :
    Calls Tryd.prog 27 #[e, .iface 79 (.pointer (some ⟨tb, 0, none⟩))] w fun ev w' => ev = .returned (.bool true) ∧ SetB w tb (.pointer (some ⟨bx, 0, none⟩)) w' := by
  have hlt := lt_of_cell ht
  have hj' := hj.below (asW_below 79 tb w)
  obtain ⟨jb, g, cap, rfl, -, -, -⟩ := hj
  refine As_F _ _ tb old w hg ht _ ((as_joinF1 _ y bx tb w.heap.size old _ hj' (asW_val _ _ _) ?_ ?_).mono ?_)
  · rw [(asW_below _ tb w).cell (p := ⟨tb, 0, none⟩) hlt]; exact ht
  · rw [(asW_below _ tb w).frozen (p := ⟨tb, 0, none⟩) hlt]; exact hf
  · rintro ev w' ⟨rfl, hs⟩
    exact ⟨_, rfl, rfl, hs.ofAs hlt⟩
theorem As_joinF2 (c : Int) (e : Value) (b2 tb : Nat) (old : Value) (w : World) (hj : Jn w e (.iface 24 (.int .i64 c)) (.iface 50 (.pointer (some ⟨b2, 0, none⟩)))) (hg : Glob w) (ht : w.cell? ⟨tb, 0, none⟩ = some old) (hf : w.frozen? ⟨tb, 0, none⟩ = false) :
    Calls Tryd.prog 27 #[e, .iface 79 (.pointer (some ⟨tb, 0, none⟩))] w fun ev w' => ev = .returned (.bool true) ∧ SetB w tb (.pointer (some ⟨b2, 0, none⟩)) w' := by
  have hlt := lt_of_cell ht
  have hj' := hj.below (asW_below 79 tb w)
  obtain ⟨jb, g, cap, rfl, -, -, -⟩ := hj
  refine As_F _ _ tb old w hg ht _ ((as_joinF2 c _ b2 tb w.heap.size old _ hj' (asW_val _ _ _) ?_ ?_).mono ?_)
  · rw [(asW_below _ tb w).cell (p := ⟨tb, 0, none⟩) hlt]; exact ht
  · rw [(asW_below _ tb w).frozen (p := ⟨tb, 0, none⟩) hlt]; exact hf
  · rintro ev w' ⟨rfl, hs⟩
    exact ⟨_, rfl, rfl, hs.ofAs hlt⟩
theorem As_joinF0 (c d : Int) (e : Value) (tb : Nat) (old : Value) (w : World) (hj : Jn w e (.iface 24 (.int .i64 c)) (.iface 24 (.int .i64 d))) (hg : Glob w) (ht : w.cell? ⟨tb, 0, none⟩ = some old) (hf : w.frozen? ⟨tb, 0, none⟩ = false) :
    Calls Tryd.prog 27 #[e, .iface 79 (.pointer (some ⟨tb, 0, none⟩))] w fun ev w' => ev = .returned (.bool false) ∧ Below w.heap.size w w' := by
  have hlt := lt_of_cell ht
  have hj' := hj.below (asW_below 79 tb w)
  obtain ⟨jb, g, cap, rfl, -, -, -⟩ := hj
  refine As_F _ _ tb old w hg ht _ ((as_joinF0 c d _ tb w.heap.size old _ hj' (asW_val _ _ _) ?_ ?_).mono ?_)
  · rw [(asW_below _ tb w).cell (p := ⟨tb, 0, none⟩) hlt]; exact ht
  · rw [(asW_below _ tb w).frozen (p := ⟨tb, 0, none⟩) hlt]; exact hf
  · rintro ev w' ⟨rfl, hs⟩
    exact ⟨_, rfl, rfl, (asW_below _ _ _).trans (hs.mono (by rw [asW_size]; omega))⟩

theorem Code_join (l : List (ByteArray × Int)) (c : Int) (e x y : Value) (w : World) (hj : Jn w e x y) (hx : Chn w x l c) (hg : Glob w) :
    Calls Tryd.prog 13 #[e] w fun ev w' => ev = .returned (.int .i64 c) ∧ Below w.heap.size w w' :=
  Code_of c e w fun _ hb hc hf => As_joinC l c e x y _ _ _ (hj.below hb) (hx.below hb) (hg.below hb) hc hf
theorem Code_over (b : Nat) (l : List (ByteArray × Int)) (c : Int) (e x y : Value) (w : World) (hj : Jn w e x y) (ho : w.cell? ⟨b, 2, none⟩ = some e) (hx : Chn w x l c) (hg : Glob w) :
    Calls Tryd.prog 13 #[.iface 50 (.pointer (some ⟨b, 0, none⟩))] w fun ev w' => ev = .returned (.int .i64 c) ∧ Below w.heap.size w w' :=
  Code_of c _ w fun _ hb hc hf => As_overC b l c e x y _ _ _ (hj.below hb) ((hb.cell (p := ⟨b, 2, none⟩) (lt_of_cell ho)).trans ho) (hx.below hb) (hg.below hb) hc hf

/-- findFault over a join: the first fault of both, or none. -/
theorem find_join (la lb : List (ByteArray × Int)) (ca cb : Int) (e x y : Value) (w : World) (hj : Jn w e x y) (hx : Chn w x la ca) (hy : Chn w y lb cb) (hg : Glob w) :
    (la ++ lb = [] ∧ Calls Tryd.prog 28 #[e] w fun ev w' => ev = .returned (.tuple #[.pointer none, .bool false]) ∧ Below w.heap.size w w') ∨
    (∃ p L b, la ++ lb = p :: L ∧ w.cell? ⟨b, 0, none⟩ = some (.string p.1) ∧ w.cell? ⟨b, 1, none⟩ = some (.int .i64 p.2) ∧
      Calls Tryd.prog 28 #[e] w fun ev w' => ev = .returned (.tuple #[.pointer (some ⟨b, 0, none⟩), .bool true]) ∧ Below w.heap.size w w') := by
  cases la with
  | cons p la =>
    obtain ⟨b, e', rfl, h0, h1, -, -⟩ := hx
    exact .inr ⟨p, la ++ lb, b, rfl, h0, h1, find_of _ b w fun _ hb hc hf => As_joinF1 e y b _ _ _ (hj.below hb) (hg.below hb) hc hf⟩
  | nil =>
    obtain rfl : x = _ := hx
    cases lb with
    | cons p lb =>
      obtain ⟨b, e', rfl, h0, h1, -, -⟩ := hy
      exact .inr ⟨p, lb, b, rfl, h0, h1, find_of _ b w fun _ hb hc hf => As_joinF2 ca e b _ _ _ (hj.below hb) (hg.below hb) hc hf⟩
    | nil =>
      obtain rfl : y = _ := hy
      exact .inl ⟨rfl, find_ofNone _ w fun _ hb hc hf => As_joinF0 ca cb e _ _ _ (hj.below hb) (hg.below hb) hc hf⟩
theorem Place_join (la lb : List (ByteArray × Int)) (ca cb : Int) (e x y : Value) (w : World) (hj : Jn w e x y) (hx : Chn w x la ca) (hy : Chn w y lb cb) (hg : Glob w) :
    Calls Tryd.prog 10 #[e] w fun ev w' => ev = .returned (plc (la ++ lb)) ∧ Below w.heap.size w w' := by
  rcases find_join la lb ca cb e x y w hj hx hy hg with ⟨h, hf⟩ | ⟨p, L, b, h, h0, h1, hf⟩
  · rw [h]; exact Place_none _ w (first_ofNone _ w hf)
  · rw [h]; exact Place_of _ b p.1 p.2 w h0 h1 (first_of _ b w hf)

theorem neqFJ (v x : Value) (w : World) : (binOp .neq 30 (.iface 50 v) (.iface 60 x)).run Tryd.prog w = .ok (.bool true) w := by
  have h : ∀ d : Nat, (Op.equalIn (d + 1) 30 (.iface 50 v) (.iface 60 x)).run Tryd.prog w = .ok false w := fun d => by simp [Op.equalIn, run_underlying Tryd.underlying30]
  simp only [binOp]
  simp [Op.equal, Op.maxDepth, h 9999]
theorem compInfoF : (Tryd.prog.info? 50).map (·.comparable) = some true := by kernel_rfl
theorem sizeInfoF : (Tryd.prog.info? 53).isSome = true := by kernel_rfl
theorem neqFF (a : Addr) (w : World) : (binOp .neq 30 (.iface 50 (.pointer (some a))) (.iface 50 (.pointer (some a)))).run Tryd.prog w = .ok (.bool false) w := by
  obtain ⟨i, hi, hcmp⟩ := Option.map_eq_some_iff.1 compInfoF
  obtain ⟨j, hj⟩ := Option.isSome_iff_exists.1 sizeInfoF
  have h := run_equalIn_iface_ptr_same (P := Tryd.prog) w 9998 a Tryd.underlying30 Tryd.underlying50 hi hcmp hj
  simp only [binOp]
  simp [Op.equal, Op.maxDepth, h]

set_option maxHeartbeats 4000000 in
/-- Trail over a join: none. -/
theorem Trail_join (la lb : List (ByteArray × Int)) (ca cb : Int) (e x y : Value) (w : World) (hj : Jn w e x y) (hx : Chn w x la ca) (hy : Chn w y lb cb) (hg : Glob w) :
    Calls Tryd.prog 14 #[e] w fun ev w' => ev = .returned (.slice none 0 0) ∧ Below w.heap.size w w' := by
  have hd := find_join la lb ca cb e x y w hj hx hy hg
  obtain ⟨jb, g, cap, rfl, -, -, -⟩ := hj
  have q1 := neqFJ
  rcases hd with ⟨-, hf⟩ | ⟨p, L, b, -, -, -, hf⟩
  all_goals
    have A : Aside (Calls _ _ _ _ _) := hf
    clear hf hx hy hg
    go_enter Tryd.func14, Tryd.ntmps14
    go_wp2
    refine wp_loop_rounds 1 ?_
    rw [rounds_succ]
    go_wp2_with fail
    refine A.out.mono ?_
    rintro ev w1 ⟨rfl, hs⟩
    have B : Aside (Below _ _ _) := hs
    clear hs
    go_wp2
    go_ret
    exact ⟨rfl, B.out⟩
end Go.Proofs.YtkhhdaekdledoaaDoor
