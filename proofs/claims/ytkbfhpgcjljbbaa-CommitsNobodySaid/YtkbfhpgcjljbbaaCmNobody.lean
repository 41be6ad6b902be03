/- The walk of the law CommitsNobody. -/
import Derived.Test.YtkbfhpgcjljbbaaErrIs
import Derived.Test.YtkbfhpgcjljbbaaCmMw
import Derived.Defers
import Derived.Recover
import Derived.Test.YtkbfhpgcjljbbaaCmClear
import Derived.Test.YtkbfhpgcjljbbaaCmAny
import Derived.Test.YtkbfhpgcjljbbaaCmDo
namespace Go.Proofs.Ytkbfhpgcjljbbaa
set_option linter.unusedVariables false
set_option linter.unusedSimpArgs false
open Go.RowKit Go.Extern.Stop Go.Stop Go.Extern

theorem run_makeFunc (fn : Fn) (first cap : Array Value) (w : World) : (Instr.makeFunc fn first cap).run Try.prog w = .ok (.func fn first cap) w := rfl
theorem is_idle (p : Addr) (w : World) :
    CallsD Try.prog 48 #[.pointer (some p)] .returning w fun e u' w' => e = .returned (.tuple #[]) ∧ u' = .returning ∧ w' = w := by
  refine callsD_of_wpS Try.func48 rfl fun c₀ cs hu => ?_
  apply wpS_seq
  apply wpS_region
  simp [wpOpsS, go_sem, recoverD, hu, Try.ntmps48, Exit.thenS]
  refine wpS_cond (t := false) (by simp [Act.eval, Array.replicate]) ?_
  simp only [Bool.false_eq_true, if_false]
  refine wpS_of_wp (wp_skip ?_)
  cases c₀
  simp_all [bodyPostS, results, Try.results48]
set_option maxHeartbeats 1000000 in
/-- fault.Is is errors.Is, where that answers x. -/
theorem fIs_of (e : Value) (d : Int) (x : Bool) (w : World)
    (h : Calls Try.prog 49 #[e, .iface 67 (.int .i64 d)] (w.alloc (.cells #[.bool false] 4)) fun ev w' => ev = .returned (.bool x) ∧ (w.alloc (.cells #[.bool false] 4)) = w') :
    Calls Try.prog 30 #[e, .int .i64 d] w fun ev w' => ev = .returned (.bool x) ∧ Below w.heap.size w w' := by
  have hmf := run_makeFunc
  have A := Lib.hid (show Calls _ _ _ _ _ from h)
  clear h
  go_enter_defers Try.func30, Try.ntmps30
  go_wp2_with fail
  refine A.out.mono ?_
  rintro ev w1 ⟨rfl, rfl⟩
  clear A
  go_wp2
  refine leaves_cons (f := 48) (args := #[.pointer (some ⟨w.heap.size, 0, none⟩)]) (by simp) (by simp [go_sem]) ?_
  refine (is_idle ⟨w.heap.size, 0, none⟩ _).mono ?_
  rintro e u' w'' ⟨rfl, rfl, rfl⟩
  simp [Leaves, settle, results, Try.results30, go_sem]
  exact (Below.refl _ _).alloc (Nat.le_refl _) _
theorem fIs_code (c d : Int) (w : World) :
    Calls Try.prog 30 #[.iface 67 (.int .i64 c), .int .i64 d] w fun ev w' => ev = .returned (.bool (c == d)) ∧ Below w.heap.size w w' :=
  fIs_of _ d (c == d) w ((Is_code c d _).mono fun _ _ ⟨h1, h2⟩ => ⟨h1, h2⟩)
theorem fIs_nil (d : Int) (w : World) :
    Calls Try.prog 30 #[.nilIface, .int .i64 d] w fun ev w' => ev = .returned (.bool false) ∧ Below w.heap.size w w' :=
  fIs_of _ d false w ((Is_nilC d _).mono fun _ _ ⟨h1, h2⟩ => ⟨h1, h2⟩)

set_option linter.unusedVariables false
set_option linter.unusedSimpArgs false
open Go.RowKit

/-- seven errors written out -/
def errE : Value := .iface 67 (.int .i64 1)
theorem err_cell (w : World) {k : Nat} (hk : k < 7) : (w.alloc (.cells #[errE, errE, errE, errE, errE, errE, errE] 32)).cell? ⟨w.heap.size, k, none⟩ = some errE := by
  rw [World.cell?_alloc_at _ _ _ _ rfl]
  match k, hk with
  | 0, _ => rfl
  | 1, _ => rfl
  | 2, _ => rfl
  | 3, _ => rfl
  | 4, _ => rfl
  | 5, _ => rfl
  | 6, _ => rfl
set_option maxRecDepth 100000 in
set_option maxHeartbeats 4000000 in
theorem lawNobody16 (C : CmC) (verb n th : Int) (r : Bool) (L : Value) (xs : List Wr) (w : World) (hL : WrV lDw w L xs) :
    Calls Try.prog 6 #[doV verb n th r L] w fun ev w' => ev = .returned (.bool true) ∧ Below w.heap.size w w' := by
  obtain ⟨la, lc, rfl, llc, lcm⟩ := hL.1.lenform
  obtain ⟨m, hm⟩ : ∃ m, xs.length = m := ⟨_, rfl⟩
  rw [hm] at hL llc ⊢
  have LM := Lib.hid hm
  have b0 := alloc_below0 w (doO verb n th r (.slice la m lc))
  have V0 := Lib.hid (hL.below b0)
  have D0 := Lib.hid (DoAt.new verb n th r (.slice la m lc) w)
  have B0 := Lib.hid b0
  unfold maxLen at lcm
  have c4 := D0.out.c4
  unfold doO at b0 V0 D0 B0 c4
  unfold doV
  clear hL hm b0
  go_enter Try.func6, Try.ntmps6
  go_wp2_with fail
  refine (wfew_any _ xs _ V0.out).mono ?_
  rintro ev w1 ⟨rfl, hs⟩
  have V1 := Lib.hid (V0.out.below hs)
  have D1 := Lib.hid (D0.out.step hs)
  have B1 := Lib.hid (B0.out.trans (hs.mono B0.out.size))
  clear hs V0 D0 B0 c4
  cases hf : fewW xs with
  | false =>
    clear hf
    go_wp2_with fail
    refine (awake16 C.T _).mono ?_
    rintro ev wz ⟨rfl, hs⟩
    have BZ := Lib.hid (B1.out.trans (hs.mono B1.out.size))
    clear hs
    go_wp2
    go_ret
    exact ⟨rfl, BZ.out⟩
  | true =>
    have KF := Lib.hid (show m ≤ 40 by rw [← LM.out]; exact fewW_len hf)
    clear hf
    have c1 := D1.out.c1
    have c4 := D1.out.c4
    go_wp2_with fail
    refine anyH_region (fun w' => w'.cell? ⟨w.heap.size, 1, none⟩ = some (.int .i64 n) ∧ w'.cell? ⟨w.heap.size, 4, none⟩ = some (.slice la m lc)) (by kernel_rfl) ?_
    refine wpAnyH_take (i := 0) (oi := ⟨some 24, _, _, _, _, _⟩) (v := ?vn4_0) rfl (by kernel_rfl) (by kernel_rfl) (by kernel_rfl) (fun _ _ _ h => h) (Or.inl ⟨by rfl, ?hyn4_0⟩) ⟨c1, c4⟩ ?restn4_0
    case hyn4_0 => (intro w hSw; go_simp; try (with_reducible rfl))
    simp only [Act.put, List.setIfInBounds_toArray, List.set_cons_zero, List.set_cons_succ]
    refine wpAnyH_take (i := 1) (oi := ⟨some 25, _, _, _, _, _⟩) (v := ?vn4_1) rfl (by kernel_rfl) (by kernel_rfl) (by kernel_rfl) (fun _ _ _ h => h) (Or.inl ⟨by rfl, ?hyn4_1⟩) ⟨c1, c4⟩ ?restn4_1
    case hyn4_1 => (intro w hSw; go_simp; try (with_reducible rfl))
    simp only [Act.put, List.setIfInBounds_toArray, List.set_cons_zero, List.set_cons_succ]
    refine wpAnyH_take (i := 2) (oi := ⟨some 26, _, _, _, _, _⟩) (v := ?vn4_2) rfl (by kernel_rfl) (by kernel_rfl) (by kernel_rfl) (fun _ _ _ h => h) (Or.inl ⟨by rfl, ?hyn4_2⟩) ⟨c1, c4⟩ ?restn4_2
    case hyn4_2 => (intro w hSw; have q0 := hSw.1; have q1 := hSw.2; go_simp; try (with_reducible rfl))
    simp only [Act.put, List.setIfInBounds_toArray, List.set_cons_zero, List.set_cons_succ]
    refine wpAnyH_take (i := 3) (oi := ⟨some 27, _, _, _, _, _⟩) (v := ?vn4_3) rfl (by kernel_rfl) (by kernel_rfl) (by kernel_rfl) (fun _ _ _ h => h) (Or.inl ⟨by rfl, ?hyn4_3⟩) ⟨c1, c4⟩ ?restn4_3
    case hyn4_3 => (intro w hSw; go_simp; try (with_reducible rfl))
    simp only [Act.put, List.setIfInBounds_toArray, List.set_cons_zero, List.set_cons_succ]
    refine wpAnyH_take (i := 4) (oi := ⟨some 28, _, _, _, _, _⟩) (v := ?vn4_4) rfl (by kernel_rfl) (by kernel_rfl) (by kernel_rfl) (fun _ _ _ h => h) (Or.inl ⟨by rfl, ?hyn4_4⟩) ⟨c1, c4⟩ ?restn4_4
    case hyn4_4 => (intro w hSw; have q0 := hSw.1; have q1 := hSw.2; go_simp; try (with_reducible rfl))
    simp only [Act.put, List.setIfInBounds_toArray, List.set_cons_zero, List.set_cons_succ]
    refine anyH_one (i := 5) (o := ⟨some 29, _, _, _, _, _⟩) (by kernel_rfl) rfl (fun K hK => ?_)
    rw [if_pos (by rfl)]
    go_simp
    refine (given_any _ xs _ (V1.out.below (Below.refl _ _).drew) (by rw [LM.out]; have := KF.out; omega)).mono ?_
    rintro e w2 ⟨gv, rfl, ho, hs⟩
    obtain ⟨ga, gc, rfl, -, -⟩ := ho.lenN LM.out
    have G2 := Lib.hid (show WrV lPw w2 (.slice ga m gc) xs from ⟨ho.sv, V1.out.2⟩)
    have D2 := Lib.hid ((D1.out.step (Below.refl _ _).drew).step hs)
    have B2 := Lib.hid (B1.out.drew.trans (hs.mono B1.out.drew.size))
    have d_c1 := (hs.cell (p := ⟨w.heap.size, 1, none⟩) (lt_of_cell c1)).trans c1
    have d_c4 := (hs.cell (p := ⟨w.heap.size, 4, none⟩) (lt_of_cell c4)).trans c4
    clear hs ho
    refine hK.out _ _ ⟨d_c1, d_c4⟩ ?_
    clear hK K
    try simp only [Act.put, List.setIfInBounds_toArray, List.set_cons_zero, List.set_cons_succ]
    refine anyH_one (i := 6) (o := ⟨some 30, _, _, _, _, _⟩) (by kernel_rfl) rfl (fun K hK => ?_)
    rw [if_pos (by rfl)]
    go_simp
    refine (C.N.append n _ xs _ G2.out (by rw [LM.out]; have := KF.out; omega)).mono ?_
    rintro e w3 ⟨rfl, hs⟩
    have D3 := Lib.hid (D2.out.step hs)
    have B3 := Lib.hid (B2.out.trans (hs.mono B2.out.size))
    have e_c1 := (hs.cell (p := ⟨w.heap.size, 1, none⟩) (lt_of_cell d_c1)).trans d_c1
    have e_c4 := (hs.cell (p := ⟨w.heap.size, 4, none⟩) (lt_of_cell d_c4)).trans d_c4
    unfold two errV
    clear hs
    refine hK.out _ _ ⟨e_c1, e_c4⟩ ?_
    clear hK K
    try simp only [Act.put, List.setIfInBounds_toArray, List.set_cons_zero, List.set_cons_succ]
    refine wpAnyH_take (i := 7) (oi := ⟨some 23, _, _, _, _, _⟩) (v := ?vn4_7) rfl (by kernel_rfl) (by kernel_rfl) (by kernel_rfl) (fun _ _ _ h => h) (Or.inl ⟨by rfl, ?hyn4_7⟩) ⟨e_c1, e_c4⟩ ?restn4_7
    case hyn4_7 => (intro w hSw; go_simp; try (with_reducible rfl))
    simp only [Act.put, List.setIfInBounds_toArray, List.set_cons_zero, List.set_cons_succ]
    refine wpAnyH_take (i := 8) (oi := ⟨some 31, _, _, _, _, _⟩) (v := ?vn4_8) rfl (by kernel_rfl) (by kernel_rfl) (by kernel_rfl) (fun _ _ _ h => h) (Or.inl ⟨by rfl, ?hyn4_8⟩) ⟨e_c1, e_c4⟩ ?restn4_8
    case hyn4_8 => (intro w hSw; go_simp; try (with_reducible rfl))
    simp only [Act.put, List.setIfInBounds_toArray, List.set_cons_zero, List.set_cons_succ]
    refine wpAnyH_take (i := 9) (oi := ⟨some 32, _, _, _, _, _⟩) (v := ?vn4_9) rfl (by kernel_rfl) (by kernel_rfl) (by kernel_rfl) (fun _ _ _ h => h) (Or.inl ⟨by rfl, ?hyn4_9⟩) ⟨e_c1, e_c4⟩ ?restn4_9
    case hyn4_9 => (intro w hSw; go_simp; try (with_reducible rfl))
    simp only [Act.put, List.setIfInBounds_toArray, List.set_cons_zero, List.set_cons_succ]
    refine wpAnyH_take (i := 10) (oi := ⟨some 4, _, _, _, _, _⟩) (v := ?vn4_10) rfl (by kernel_rfl) (by kernel_rfl) (by kernel_rfl) (fun _ _ _ h => h) (Or.inl ⟨by rfl, ?hyn4_10⟩) ⟨e_c1, e_c4⟩ ?restn4_10
    case hyn4_10 => (intro w hSw; go_simp; try (with_reducible rfl))
    simp only [Act.put, List.setIfInBounds_toArray, List.set_cons_zero, List.set_cons_succ]
    refine wpAnyH_take (i := 11) (oi := ⟨some 5, _, _, _, _, _⟩) (v := ?vn4_11) rfl (by kernel_rfl) (by kernel_rfl) (by kernel_rfl) (fun _ _ _ h => h) (Or.inl ⟨by rfl, ?hyn4_11⟩) ⟨e_c1, e_c4⟩ ?restn4_11
    case hyn4_11 => (intro w hSw; go_simp; try (with_reducible rfl))
    simp only [Act.put, List.setIfInBounds_toArray, List.set_cons_zero, List.set_cons_succ]
    refine wpAnyH_done (by kernel_rfl) ?_ _
    clear c1 c4 d_c1 d_c4 e_c1 e_c4 G2 D2 B2 V1 D1 B1
    have c1 := D3.out.c1
    go_wp2_with fail
    refine (C.N.at_ n _).mono ?_
    rintro ev w4 ⟨va, rfl, hva, hs⟩
    obtain ⟨aa, ac, rfl, -, -⟩ := hva.lenform
    clear hva
    simp only [List.length_nil]
    have D4 := Lib.hid (D3.out.step hs)
    have B4 := Lib.hid (B3.out.trans (hs.mono B3.out.size))
    unfold errV
    clear hs c1 D3 B3
    have c2 := D4.out.c2
    go_wp2_with fail
    refine (C.N.marked th _).mono ?_
    rintro ev w5 ⟨rfl, hs⟩
    have D5 := Lib.hid (D4.out.step hs)
    have B5 := Lib.hid (B4.out.trans (hs.mono B4.out.size))
    unfold errV
    clear hs c2 D4 B4
    have c2 := D5.out.c2
    go_wp2_with fail
    refine (C.N.grab th _).mono ?_
    rintro ev w6 ⟨rfl, hs⟩
    have D6 := Lib.hid (D5.out.step hs)
    have B6 := Lib.hid (B5.out.trans (hs.mono B5.out.size))
    unfold two errV
    clear hs c2 D5 B5
    have c2 := D6.out.c2
    go_wp2_with fail
    refine (C.N.yield_ th _).mono ?_
    rintro ev w7 ⟨rfl, hs⟩
    have D7 := Lib.hid (D6.out.step hs)
    have B7 := Lib.hid (B6.out.trans (hs.mono B6.out.size))
    unfold two errV
    clear hs c2 D6 B6
    have c1 := D7.out.c1
    go_wp2_with fail
    refine (C.N.advance n _).mono ?_
    rintro ev w8 ⟨rfl, hs⟩
    have D8 := Lib.hid (D7.out.step hs)
    have B8 := Lib.hid (B7.out.trans (hs.mono B7.out.size))
    unfold two errV
    clear hs c1 D7 B7
    have c1 := D8.out.c1
    have c2 := D8.out.c2
    go_wp2_with fail
    refine (C.N.mark th n _).mono ?_
    rintro ev w9 ⟨rfl, hs⟩
    have b := alloc_below0 w9 (.cells #[errE, errE, errE, errE, errE, errE, errE] 32)
    have EC := Lib.hid (fun k (hk : k < 7) => err_cell w9 hk)
    have D9 := Lib.hid ((D8.out.step hs).step b)
    have B9 := Lib.hid ((B8.out.trans (hs.mono B8.out.size)).trans (b.mono (B8.out.trans (hs.mono B8.out.size)).size))
    obtain ⟨wa, hwa⟩ : ∃ W, W = w9.alloc (.cells #[errE, errE, errE, errE, errE, errE, errE] 32) := ⟨_, rfl⟩
    rw [← hwa] at D9 B9 EC
    unfold errE at hwa EC
    rw [show errV 1 = .iface 67 (.int .i64 1) from rfl]
    clear hs b c1 c2 D8 B8
    go_wp2
    rw [← hwa]
    clear hwa
    go_loopg [82] 7 (fun c i wr => ∃ k : Nat, k + c = 7 ∧ i = .int .i64 k ∧ Below wa.heap.size wa wr)
    case atStart => exact ⟨0, by omega, rfl, Below.refl _ _⟩
    case round =>
      obtain ⟨k, hk, rfl, hB⟩ := hrel
      have A := Lib.hid (show Below wa.heap.size wa wr ∧ k + gk = 7 from ⟨hB, hk⟩)
      by_cases hlt : k < 7
      · have e0 := cell_step (EC.out k hlt) hB
        have j3 : (0 : Int) ≤ (k : Int) := by omega
        have j4 : (k : Int) < 7 := by omega
        clear hB
        go_wp2_with fail
        refine (fIs_code 1 1 _).mono ?_
        rintro ev wq ⟨rfl, hs⟩
        rw [show ((1 : Int) == 1) = true from rfl]
        have AQ := Lib.hid (A.out.1.trans (hs.mono A.out.1.size))
        clear hs e0
        go_wp2
        go_roundg (7 - (k + 1))
        case measure => have := A.out.2; omega
        case rel => exact ⟨k + 1, by omega, by go_num, AQ.out⟩
      · obtain rfl : k = 7 := by have := A.out.2; omega
        have hs := A.out.1
        have DW := Lib.hid (D9.out.step hs)
        have BW := Lib.hid (B9.out.trans (hs.mono B9.out.size))
        clear hs hB A EC hk hlt
        generalize wr = y0 at *
        go_wp2_with fail
        refine (C.N.last _).mono ?_
        rintro ev y1 ⟨rfl, hs⟩
        have DY0 := Lib.hid (DW.out.step hs)
        have BY0 := Lib.hid (BW.out.trans (hs.mono BW.out.size))
        clear hs
        go_wp2_with fail
        refine (C.N.base _).mono ?_
        rintro ev y2 ⟨rfl, hs⟩
        have DY1 := Lib.hid (DY0.out.step hs)
        have BY1 := Lib.hid (BY0.out.trans (hs.mono BY0.out.size))
        clear hs
        go_wp2_with fail
        refine (C.N.count _).mono ?_
        rintro ev y3 ⟨rfl, hs⟩
        have DY2 := Lib.hid (DY1.out.step hs)
        have BY2 := Lib.hid (BY1.out.trans (hs.mono BY1.out.size))
        clear hs
        have c1 := DY2.out.c1
        go_wp2_with fail
        refine (C.N.trim n _).mono ?_
        rintro ev y4 ⟨rfl, hs⟩
        have DY3 := Lib.hid (DY2.out.step hs)
        have BY3 := Lib.hid (BY2.out.trans (hs.mono BY2.out.size))
        clear hs c1
        go_wp2_with fail
        refine (C.N.copy _).mono ?_
        rintro ev y5 ⟨rfl, hs⟩
        have DY4 := Lib.hid (DY3.out.step hs)
        have BY4 := Lib.hid (BY3.out.trans (hs.mono BY3.out.size))
        clear hs
        go_wp2_with fail
        refine (awake16 C.T _).mono ?_
        rintro ev wz ⟨rfl, hs⟩
        have BZ := Lib.hid (BY4.out.trans (hs.mono BY4.out.size))
        clear hs
        go_wp2
        go_ret
        exact ⟨rfl, BZ.out⟩
end Go.Proofs.Ytkbfhpgcjljbbaa
