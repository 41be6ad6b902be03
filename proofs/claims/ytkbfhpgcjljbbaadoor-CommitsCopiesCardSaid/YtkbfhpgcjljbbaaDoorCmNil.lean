/- Package commits' calls on a table that is not there, and the bundle of its tables (layer 16). -/
import Derived.Test.YtkbfhpgcjljbbaaDoorCmPut
import Derived.Laws.Externs
import Derived.Test.YtkbfhpgcjljbbaaDoorCmTrim
namespace Go.Proofs.YtkbfhpgcjljbbaaDoor
set_option linter.unusedVariables false
set_option linter.unusedSimpArgs false
open Go.RowKit Go.Maps

theorem x_clone16 (args : Array Value) (w : World) : (callFunc 46 args).run Tryd.prog w = ((Extern.MapsClone.clone args).run Tryd.prog w).andThen fun v w' => .ok (.value v) w' :=
  run_callFunc_extern (e := Extern.MapsClone.clone) Tryd.func46 (by kernel_rfl) (by kernel_rfl) (by kernel_rfl) (by kernel_rfl) args w
theorem clone_run16 {w : World} {r : Nat} {es : Array MapEntry} {clock : Nat} (t : TypeId) (hb : w.heap[r]? = some (.map es clock)) :
    (Extern.MapsClone.clone #[.iface t (.map (some r))]).run Tryd.prog w = .ok (.iface t (.map (some w.heap.size))) (w.alloc (.map es clock)) := by
  have e : Extern.MapsClone.clone #[.iface t (.map (some r))] = (getObj r >>= fun o => match o with
      | .map entries clock => (newObj (.map entries clock) >>= fun n => pure (.iface t (.map (some n))))
      | _ => stuck "maps.clone: a map expected") := rfl
  rw [e]
  simp [MapKept.run_getObj_map hb, Result.andThen, go_sem]
theorem assert_wm (w : World) (xT : TypeId) (v : Value) : (Instr.typeAssert (.iface 53 v) xT 53 false).run Tryd.prog w = .ok v w := by
  simp [Instr.typeAssert, run_underlying Tryd.underlying53, go_sem, Result.andThen]
set_option maxRecDepth 100000 in
set_option maxHeartbeats 4000000 in
theorem clone_wm (w : World) (mb : Nat) (z : Value) (F : Int → Option Value) (n : Nat) (D : DataW Value) (h : MapF w mb z F n D) :
    Calls Tryd.prog 37 #[.map (some mb)] w fun ev w' => ev = .returned (.map (some w.heap.size)) ∧ MapF w' w.heap.size z F n D ∧ Below w.heap.size w w' := by
  obtain ⟨es, clock, hb, hF, hz, hD⟩ := h.own
  have hq := fun w => run_eql_map_nil (P := Tryd.prog) w 53 _ _ (some mb) Tryd.underlying53
  have hcl := fun a w => x_clone16 a w
  have hrun := clone_run16 (w := w) 53 hb
  have has' := fun w xT v => assert_wm w xT v
  have M := Lib.hid (show MapF (w.alloc (.map es clock)) w.heap.size z F n D from ⟨⟨es, clock, heap_alloc_new w _, hF, hz, hD⟩, h.at_, h.has, h.size⟩)
  have B := Lib.hid (alloc_below0 w (.map es clock))
  clear h hb hF hz hD
  go_enter Tryd.func37, Tryd.ntmps37
  go_wp2
  go_ret
  exact ⟨rfl, M.out, B.out⟩
theorem assert_im (w : World) (xT : TypeId) (v : Value) : (Instr.typeAssert (.iface 54 v) xT 54 false).run Tryd.prog w = .ok v w := by
  simp [Instr.typeAssert, run_underlying Tryd.underlying54, go_sem, Result.andThen]
set_option maxRecDepth 100000 in
set_option maxHeartbeats 4000000 in
theorem clone_im (w : World) (mb : Nat) (z : Value) (F : Int → Option Value) (n : Nat) (D : DataW Value) (h : MapF w mb z F n D) :
    Calls Tryd.prog 38 #[.map (some mb)] w fun ev w' => ev = .returned (.map (some w.heap.size)) ∧ MapF w' w.heap.size z F n D ∧ Below w.heap.size w w' := by
  obtain ⟨es, clock, hb, hF, hz, hD⟩ := h.own
  have hq := fun w => run_eql_map_nil (P := Tryd.prog) w 54 _ _ (some mb) Tryd.underlying54
  have hcl := fun a w => x_clone16 a w
  have hrun := clone_run16 (w := w) 54 hb
  have has' := fun w xT v => assert_im w xT v
  have M := Lib.hid (show MapF (w.alloc (.map es clock)) w.heap.size z F n D from ⟨⟨es, clock, heap_alloc_new w _, hF, hz, hD⟩, h.at_, h.has, h.size⟩)
  have B := Lib.hid (alloc_below0 w (.map es clock))
  clear h hb hF hz hD
  go_enter Tryd.func38, Tryd.ntmps38
  go_wp2
  go_ret
  exact ⟨rfl, M.out, B.out⟩
set_option maxRecDepth 100000 in
set_option maxHeartbeats 4000000 in
theorem copy16 (w : World) (b cm mm : Nat) (S : Nat → Prop) (t : Tb) (d : Nat) (V : Nat → Value) (h : TabAt w b cm mm S t d V) :
    Calls Tryd.prog 12 #[.pointer (some ⟨b, 0, none⟩)] w fun ev w' => ∃ a' S', ev = .returned (.pointer (some a')) ∧ InvT w' a' S' t ∧ (∀ k, S' k → w.heap.size ≤ k ∨ (S k ∧ isW w k)) ∧ Below w.heap.size w w' := by
  have I := Lib.hid h
  have c0 := h.c0
  have c1 := h.c1
  have c2 := h.c2
  have c3 := h.c3
  have c4 := h.c4
  have c5 := h.c5
  have c6 := h.c6
  have c7 := h.c7
  clear h
  go_enter Tryd.func12, Tryd.ntmps12
  have k0 := blk_new w (.cells (tbC t d cm mm) 56)
  have b0 := alloc_below0 w (.cells (tbC t d cm mm) 56)
  obtain ⟨wA, hwA⟩ : ∃ x, x = w.alloc (.cells (tbC t d cm mm) 56) := ⟨_, rfl⟩
  rw [← hwA] at k0 b0
  unfold tbC at hwA
  go_wp2
  rw [← hwA]
  have q0 : Below wA.heap.size wA wA.drew := (Below.refl _ wA).drew
  clear c0 c1 c2 c3 c4 c7 hwA
  refine anyH_region (fun w' => w'.cell? ⟨b, 5, none⟩ = some (.map (some cm)) ∧ w'.cell? ⟨b, 6, none⟩ = some (.map (some mm))) (by kernel_rfl) ?_
  generalize (World.drew wA) = wd at *
  have BD := Lib.hid (b0.trans (q0.mono b0.size))
  have KD := Lib.hid (blk_step k0 q0)
  have d5 := cell_step c5 BD.out
  have d6 := cell_step c6 BD.out
  obtain ⟨D1, hD1⟩ := (I.out.step BD.out).com
  obtain ⟨D2, hD2⟩ := (I.out.step BD.out).mks
  have M1 := Lib.hid hD1
  have M2 := Lib.hid hD2
  clear b0 q0 k0 c5 c6 hD1 hD2
  refine wpAnyH_take (i := 0) (oi := ⟨some 9, _, _, _, _, _⟩) (v := ?vp1) rfl (by kernel_rfl) (by kernel_rfl) (by kernel_rfl) (fun _ _ _ h => h) (Or.inl ⟨by rfl, ?hyp1⟩) ⟨d5, d6⟩ ?restp1
  case hyp1 => (intro w hSw; obtain ⟨q0, q1⟩ := hSw; go_simp; try (with_reducible rfl))
  simp only [Act.put, List.setIfInBounds_toArray, List.set_cons_zero, List.set_cons_succ]
  refine wpAnyH_take (i := 1) (oi := ⟨some 10, _, _, _, _, _⟩) (v := ?vp2) rfl (by kernel_rfl) (by kernel_rfl) (by kernel_rfl) (fun _ _ _ h => h) (Or.inl ⟨by rfl, ?hyp2⟩) ⟨d5, d6⟩ ?restp2
  case hyp2 => (intro w hSw; obtain ⟨q0, q1⟩ := hSw; go_simp; try (with_reducible rfl))
  simp only [Act.put, List.setIfInBounds_toArray, List.set_cons_zero, List.set_cons_succ]
  refine wpAnyH_take (i := 2) (oi := ⟨some 11, _, _, _, _, _⟩) (v := ?vp3) rfl (by kernel_rfl) (by kernel_rfl) (by kernel_rfl) (fun _ _ _ h => h) (Or.inl ⟨by rfl, ?hyp3⟩) ⟨d5, d6⟩ ?restp3
  case hyp3 => (intro w hSw; obtain ⟨q0, q1⟩ := hSw; go_simp; try (with_reducible rfl))
  simp only [Act.put, List.setIfInBounds_toArray, List.set_cons_zero, List.set_cons_succ]
  refine wpAnyH_take (i := 3) (oi := ⟨some 12, _, _, _, _, _⟩) (v := ?vp4) rfl (by kernel_rfl) (by kernel_rfl) (by kernel_rfl) (fun _ _ _ h => h) (Or.inl ⟨by rfl, ?hyp4⟩) ⟨d5, d6⟩ ?restp4
  case hyp4 => (intro w hSw; obtain ⟨q0, q1⟩ := hSw; go_simp; try (with_reducible rfl))
  simp only [Act.put, List.setIfInBounds_toArray, List.set_cons_zero, List.set_cons_succ]
  refine wpAnyH_take (i := 5) (oi := ⟨some 14, _, _, _, _, _⟩) (v := ?vp5) rfl (by kernel_rfl) (by kernel_rfl) (by kernel_rfl) (fun _ _ _ h => h) (Or.inl ⟨by rfl, ?hyp5⟩) ⟨d5, d6⟩ ?restp5
  case hyp5 => (intro w hSw; obtain ⟨q0, q1⟩ := hSw; go_simp; try (with_reducible rfl))
  simp only [Act.put, List.setIfInBounds_toArray, List.set_cons_zero, List.set_cons_succ]
  refine wpAnyH_take (i := 6) (oi := ⟨some 15, _, _, _, _, _⟩) (v := ?vp6) rfl (by kernel_rfl) (by kernel_rfl) (by kernel_rfl) (fun _ _ _ h => h) (Or.inl ⟨by rfl, ?hyp6⟩) ⟨d5, d6⟩ ?restp6
  case hyp6 => (intro w hSw; obtain ⟨q0, q1⟩ := hSw; go_simp; try (with_reducible rfl))
  simp only [Act.put, List.setIfInBounds_toArray, List.set_cons_zero, List.set_cons_succ]
  refine wpAnyH_take (i := 7) (oi := ⟨some 16, _, _, _, _, _⟩) (v := ?vp7) rfl (by kernel_rfl) (by kernel_rfl) (by kernel_rfl) (fun _ _ _ h => h) (Or.inl ⟨by rfl, ?hyp7⟩) ⟨d5, d6⟩ ?restp7
  case hyp7 => (intro w hSw; obtain ⟨q0, q1⟩ := hSw; go_simp; try (with_reducible rfl))
  simp only [Act.put, List.setIfInBounds_toArray, List.set_cons_zero, List.set_cons_succ]
  refine wpAnyH_take (i := 8) (oi := ⟨some 17, _, _, _, _, _⟩) (v := ?vp8) rfl (by kernel_rfl) (by kernel_rfl) (by kernel_rfl) (fun _ _ _ h => h) (Or.inl ⟨by rfl, ?hyp8⟩) ⟨d5, d6⟩ ?restp8
  case hyp8 => (intro w hSw; obtain ⟨q0, q1⟩ := hSw; go_simp; try (with_reducible rfl))
  simp only [Act.put, List.setIfInBounds_toArray, List.set_cons_zero, List.set_cons_succ]
  refine anyH_one (i := 4) (o := ⟨some 13, _, _, _, _, _⟩) (by kernel_rfl) rfl (fun K hK => ?_)
  rw [if_pos (by rfl)]
  go_simp
  refine (clone_wm _ cm _ _ _ D1 M1.out).mono ?_
  rintro e4 w4 ⟨rfl, hM, hs⟩
  obtain ⟨m1, hm1⟩ : ∃ x, x = wd.heap.size := ⟨_, rfl⟩
  rw [← hm1] at hM ⊢
  have B4 := Lib.hid (BD.out.trans (hs.mono BD.out.size))
  have K4 := Lib.hid (blk_step KD.out hs)
  have N1 := Lib.hid hM
  have N2 := Lib.hid (M2.out.low hs)
  have e5 := cell_step d5 hs
  have e6 := cell_step d6 hs
  have L1 := Lib.hid (show w.heap.size + 1 ≤ m1 ∧ m1 < w4.heap.size by have h1 := BD.out.size; have h2 := (Array.getElem?_eq_some_iff.1 KD.out).1; have h3 := hM.ltN; omega)
  refine hK.out _ _ ⟨e5, e6⟩ ?_
  clear hK K hs hM hm1 d5 d6
  try simp only [Act.put, List.setIfInBounds_toArray, List.set_cons_zero, List.set_cons_succ]
  refine anyH_one (i := 9) (o := ⟨some 18, _, _, _, _, _⟩) (by kernel_rfl) rfl (fun K hK => ?_)
  rw [if_pos (by rfl)]
  go_simp
  refine (clone_im _ mm _ _ _ D2 N2.out).mono ?_
  rintro e9 w9 ⟨rfl, hM, hs⟩
  obtain ⟨m2, hm2⟩ : ∃ x, x = w4.heap.size := ⟨_, rfl⟩
  rw [← hm2] at hM ⊢
  have B9 := Lib.hid (B4.out.trans (hs.mono B4.out.size))
  have K9 := Lib.hid (blk_step K4.out hs)
  have P1 := Lib.hid (N1.out.low hs)
  have P2 := Lib.hid hM
  have g5 := cell_step e5 hs
  have g6 := cell_step e6 hs
  have L2 := Lib.hid (show w.heap.size + 1 ≤ m2 ∧ m2 < w9.heap.size ∧ m1 ≠ m2 ∧ b ≠ w.heap.size by have h1 := L1.out; have h3 := hM.ltN; have h4 := I.out.lt b I.out.Sb; omega)
  refine hK.out _ _ ⟨g5, g6⟩ ?_
  clear hK K hs hM hm2 e5 e6
  try simp only [Act.put, List.setIfInBounds_toArray, List.set_cons_zero, List.set_cons_succ]
  refine wpAnyH_take (i := 10) (oi := ⟨some 19, _, _, _, _, _⟩) (v := ?vp9) rfl (by kernel_rfl) (by kernel_rfl) (by kernel_rfl) (fun _ _ _ h => h) (Or.inl ⟨by rfl, ?hyp9⟩) ⟨g5, g6⟩ ?restp9
  case hyp9 => (intro w hSw; obtain ⟨q0, q1⟩ := hSw; go_simp; try (with_reducible rfl))
  simp only [Act.put, List.setIfInBounds_toArray, List.set_cons_zero, List.set_cons_succ]
  refine anyH_one (i := 11) (o := ⟨none, _, _, _, _, _⟩) (by kernel_rfl) rfl (fun K hK => ?_)
  rw [if_pos (by rfl)]
  have f5 := blk_free K9.out 5
  have o5 : w9.cell? ⟨w.heap.size, 5, none⟩ = some (.map (some cm)) := by rw [blk_cell K9.out]; rfl
  have s5 := blk_set K9.out 5 (.map (some m1))
  have ks5 : Kept (fun k => k = w.heap.size) w9 (w9.setCell ⟨w.heap.size, 5, none⟩ (.map (some m1))) := (Kept.refl _ _).setCell 5 _
  go_simp
  obtain ⟨wB, hwB⟩ : ∃ x, x = w9.setCell ⟨w.heap.size, 5, none⟩ (.map (some m1)) := ⟨_, rfl⟩
  rw [← hwB] at s5 ks5
  simp only [← hwB]
  have h5 := ks5.cell L2.out.2.2.2 g5
  have h6 := ks5.cell L2.out.2.2.2 g6
  have KB := Lib.hid (show Kept (fun k => k = w.heap.size) w9 wB from ks5)
  have K5 := Lib.hid s5
  refine hK.out _ _ ⟨h5, h6⟩ ?_
  clear hK K g5 g6 f5 o5 s5 ks5 hwB
  try simp only [Act.put, List.setIfInBounds_toArray, List.set_cons_zero, List.set_cons_succ]
  refine wpAnyH_take (i := 12) (oi := ⟨some 20, _, _, _, _, _⟩) (v := ?vp10) rfl (by kernel_rfl) (by kernel_rfl) (by kernel_rfl) (fun _ _ _ h => h) (Or.inl ⟨by rfl, ?hyp10⟩) ⟨h5, h6⟩ ?restp10
  case hyp10 => (intro w hSw; obtain ⟨q0, q1⟩ := hSw; go_simp; try (with_reducible rfl))
  simp only [Act.put, List.setIfInBounds_toArray, List.set_cons_zero, List.set_cons_succ]
  refine anyH_one (i := 13) (o := ⟨none, _, _, _, _, _⟩) (by kernel_rfl) rfl (fun K hK => ?_)
  rw [if_pos (by rfl)]
  have f6 := blk_free K5.out 6
  have o6 : wB.cell? ⟨w.heap.size, 6, none⟩ = some (.map (some mm)) := by rw [blk_cell K5.out]; rfl
  have s6 := blk_set K5.out 6 (.map (some m2))
  have ks6 : Kept (fun k => k = w.heap.size) wB (wB.setCell ⟨w.heap.size, 6, none⟩ (.map (some m2))) := (Kept.refl _ _).setCell 6 _
  go_simp
  obtain ⟨wC, hwC⟩ : ∃ x, x = wB.setCell ⟨w.heap.size, 6, none⟩ (.map (some m2)) := ⟨_, rfl⟩
  rw [← hwC] at s6 ks6
  simp only [← hwC]
  have j5 := ks6.cell L2.out.2.2.2 h5
  have j6 := ks6.cell L2.out.2.2.2 h6
  have KC := Lib.hid (KB.out.trans ks6)
  have K6 := Lib.hid s6
  refine hK.out _ _ ⟨j5, j6⟩ ?_
  clear hK K h5 h6 f6 o6 s6 ks6 hwC
  try simp only [Act.put]
  refine wpAnyH_done (by kernel_rfl) ?_ _
  go_wp2
  go_ret
  have bc : Below w.heap.size w wC := B9.out.trans (KC.out.below (fun k e => Nat.le_of_eq e.symm) (by have := B9.out.size; omega))
  refine ⟨⟨w.heap.size, 0, none⟩, fun k => (w.heap.size ≤ k ∧ k < wC.heap.size) ∨ (S k ∧ isW w k), rfl, ⟨w.heap.size, m1, m2, d, V, rfl, ⟨I.out.ok, I.out.drp, I.out.dlow, K6.out, ⟨D1, P1.out.keep KC.out (by have h1 := L1.out; omega)⟩, ⟨D2, P2.out.keep KC.out (by have h1 := L2.out; omega)⟩, ?_, ?_, ?_, ?_, ?_, ?_⟩⟩, ?_, bc⟩
  · intro i xs hi hd
    obtain ⟨q1, q2⟩ := I.out.wr i xs hi hd
    exact ⟨q1.below bc, fun k ek => .inr ⟨q2 k ek, q1.isW k ek⟩⟩
  · exact .inl (by have h1 := L1.out; have h2 := KC.out.size; have h3 := L2.out; omega)
  · exact .inl (by have h1 := L1.out; have h2 := KC.out.size; have h3 := L2.out; have h4 := B9.out.size; have h5 := P1.out.ltN; omega)
  · exact .inl (by have h1 := L1.out; have h2 := KC.out.size; have h3 := L2.out; omega)
  · exact L2.out.2.2.1
  · intro k hk
    rcases hk with hk | hk
    · exact hk.2
    · have h1 := I.out.lt k hk.1; have h2 := bc.size; omega
  · intro k hk
    exact hk.imp (fun h => h.1) id

set_option linter.unusedVariables false
set_option linter.unusedSimpArgs false
open Go.RowKit Go.Maps

set_option maxRecDepth 100000 in
set_option maxHeartbeats 4000000 in
theorem nilHas16 (k : Int) (w : World) : Calls Tryd.prog 44 #[.pointer none, .int .i64 k] w fun ev w' => ev = .returned (.bool false) ∧ Below w.heap.size w w' := by
  have B0 := Lib.hid (Below.refl w.heap.size w)
  go_enter Tryd.func44, Tryd.ntmps44
  go_wp2
  go_ret
  exact ⟨rfl, B0.out⟩
set_option maxRecDepth 100000 in
set_option maxHeartbeats 4000000 in
theorem nilLast16 (w : World) : Calls Tryd.prog 13 #[.pointer none] w fun ev w' => ev = .returned (.int .i64 0) ∧ Below w.heap.size w w' := by
  have B0 := Lib.hid (Below.refl w.heap.size w)
  go_enter Tryd.func13, Tryd.ntmps13
  go_wp2
  go_ret
  exact ⟨rfl, B0.out⟩
set_option maxRecDepth 100000 in
set_option maxHeartbeats 4000000 in
theorem nilBase16 (w : World) : Calls Tryd.prog 14 #[.pointer none] w fun ev w' => ev = .returned (.int .i64 0) ∧ Below w.heap.size w w' := by
  have B0 := Lib.hid (Below.refl w.heap.size w)
  go_enter Tryd.func14, Tryd.ntmps14
  go_wp2
  go_ret
  exact ⟨rfl, B0.out⟩
set_option maxRecDepth 100000 in
set_option maxHeartbeats 4000000 in
theorem nilCount16 (w : World) : Calls Tryd.prog 15 #[.pointer none] w fun ev w' => ev = .returned (.int .i64 0) ∧ Below w.heap.size w w' := by
  have B0 := Lib.hid (Below.refl w.heap.size w)
  go_enter Tryd.func15, Tryd.ntmps15
  go_wp2
  go_ret
  exact ⟨rfl, B0.out⟩
set_option maxRecDepth 100000 in
set_option maxHeartbeats 4000000 in
theorem nilAt16 (n : Int) (w : World) : Calls Tryd.prog 18 #[.pointer none, .int .i64 n] w fun ev w' => ∃ v', ev = .returned (.tuple #[v', errV 1]) ∧ SV lPw w' v' [] ∧ Below w.heap.size w w' := by
  have B0 := Lib.hid (Below.refl w.heap.size w)
  have E := Lib.hid (show errV 1 = .iface 58 (.int .i64 1) from rfl)
  go_enter Tryd.func18, Tryd.ntmps18
  go_wp2
  go_ret2
  rw [E.out]
  exact ⟨_, rfl, SV.nil _ _, B0.out⟩
set_option maxRecDepth 100000 in
set_option maxHeartbeats 4000000 in
theorem nilAppend16 (n : Int) (v : Value) (xs : List Wr) (w : World) (hv : WrV lPw w v xs) : Calls Tryd.prog 17 #[.pointer none, .int .i64 n, v] w fun ev w' => ev = .returned (two false 1) ∧ Below w.heap.size w w' := by
  obtain ⟨a, cap, rfl, hlc, hcm⟩ := hv.1.lenform
  have B0 := Lib.hid (Below.refl w.heap.size w)
  have E := Lib.hid (show two false 1 = .tuple #[.bool false, .iface 58 (.int .i64 1)] from rfl)
  clear hv
  go_enter Tryd.func17, Tryd.ntmps17
  go_wp2
  go_ret2
  rw [E.out]
  exact ⟨rfl, B0.out⟩
set_option maxRecDepth 100000 in
set_option maxHeartbeats 4000000 in
theorem nilMark16 (k n : Int) (w : World) : Calls Tryd.prog 24 #[.pointer none, .int .i64 k, .int .i64 n] w fun ev w' => ev = .returned (errV 1) ∧ Below w.heap.size w w' := by
  have E := Lib.hid (show errV 1 = .iface 58 (.int .i64 1) from rfl)
  have B0 := Lib.hid (Below.refl w.heap.size w)
  go_enter Tryd.func24, Tryd.ntmps24
  go_wp2_with fail
  refine (nilHas16 _ _).mono ?_
  rintro ev w1 ⟨rfl, hs⟩
  have B := Lib.hid hs
  clear hs
  go_wp2
  go_ret
  rw [E.out]
  exact ⟨rfl, B.out⟩
set_option maxRecDepth 100000 in
set_option maxHeartbeats 4000000 in
theorem nilMarked16 (k : Int) (w : World) : Calls Tryd.prog 26 #[.pointer none, .int .i64 k] w fun ev w' => ev = .returned (.tuple #[.int .i64 (-1), errV 1]) ∧ Below w.heap.size w w' := by
  have E := Lib.hid (show errV 1 = .iface 58 (.int .i64 1) from rfl)
  have B0 := Lib.hid (Below.refl w.heap.size w)
  go_enter Tryd.func26, Tryd.ntmps26
  go_wp2_with fail
  refine (nilHas16 _ _).mono ?_
  rintro ev w1 ⟨rfl, hs⟩
  have B := Lib.hid hs
  clear hs
  go_wp2
  go_ret2
  rw [E.out]
  exact ⟨rfl, B.out⟩
set_option maxRecDepth 100000 in
set_option maxHeartbeats 4000000 in
theorem nilGrab16 (k : Int) (w : World) : Calls Tryd.prog 28 #[.pointer none, .int .i64 k] w fun ev w' => ev = .returned (two false 1) ∧ Below w.heap.size w w' := by
  have E := Lib.hid (show two false 1 = .tuple #[.bool false, .iface 58 (.int .i64 1)] from rfl)
  have B0 := Lib.hid (Below.refl w.heap.size w)
  go_enter Tryd.func28, Tryd.ntmps28
  go_wp2_with fail
  refine (nilHas16 _ _).mono ?_
  rintro ev w1 ⟨rfl, hs⟩
  have B := Lib.hid hs
  clear hs
  go_wp2
  go_ret2
  rw [E.out]
  exact ⟨rfl, B.out⟩
set_option maxRecDepth 100000 in
set_option maxHeartbeats 4000000 in
theorem nilYield16 (k : Int) (w : World) : Calls Tryd.prog 30 #[.pointer none, .int .i64 k] w fun ev w' => ev = .returned (two false 1) ∧ Below w.heap.size w w' := by
  have E := Lib.hid (show two false 1 = .tuple #[.bool false, .iface 58 (.int .i64 1)] from rfl)
  have B0 := Lib.hid (Below.refl w.heap.size w)
  go_enter Tryd.func30, Tryd.ntmps30
  go_wp2_with fail
  refine (nilHas16 _ _).mono ?_
  rintro ev w1 ⟨rfl, hs⟩
  have B := Lib.hid hs
  clear hs
  go_wp2
  go_ret2
  rw [E.out]
  exact ⟨rfl, B.out⟩
set_option maxRecDepth 100000 in
set_option maxHeartbeats 4000000 in
theorem nilAdvance16 (b : Int) (w : World) : Calls Tryd.prog 32 #[.pointer none, .int .i64 b] w fun ev w' => ev = .returned (two false 1) ∧ Below w.heap.size w w' := by
  have E := Lib.hid (show two false 1 = .tuple #[.bool false, .iface 58 (.int .i64 1)] from rfl)
  have B0 := Lib.hid (Below.refl w.heap.size w)
  go_enter Tryd.func32, Tryd.ntmps32
  go_wp2
  go_ret2
  rw [E.out]
  exact ⟨rfl, B0.out⟩
set_option maxRecDepth 100000 in
set_option maxHeartbeats 4000000 in
theorem nilTrim16 (n : Int) (w : World) : Calls Tryd.prog 34 #[.pointer none, .int .i64 n] w fun ev w' => ev = .returned (.int .i64 0) ∧ Below w.heap.size w w' := by
  have B0 := Lib.hid (Below.refl w.heap.size w)
  go_enter Tryd.func34, Tryd.ntmps34
  go_wp2
  go_ret
  exact ⟨rfl, B0.out⟩
set_option maxRecDepth 100000 in
set_option maxHeartbeats 4000000 in
theorem nilCopy16 (w : World) : Calls Tryd.prog 12 #[.pointer none] w fun ev w' => ev = .returned (.pointer none) ∧ Below w.heap.size w w' := by
  have B0 := Lib.hid (Below.refl w.heap.size w)
  go_enter Tryd.func12, Tryd.ntmps12
  go_wp2
  go_ret
  exact ⟨rfl, B0.out⟩
theorem cmn : CmN where
  last := nilLast16
  base := nilBase16
  count := nilCount16
  at_ := nilAt16
  append n v xs w hv _ := nilAppend16 n v xs w hv
  mark := nilMark16
  marked := nilMarked16
  grab := nilGrab16
  yield_ := nilYield16
  advance := nilAdvance16
  trim := nilTrim16
  copy := nilCopy16
def cmt : CmT where
  Inv := InvT
  keep := InvT.keep
  foot := fun h => let ⟨_, _, _, _, _, _, q⟩ := h; q.lt
  ok := fun h => let ⟨_, _, _, _, _, _, q⟩ := h; q.ok
  new := new16
  newNo := new16no
  last := by rintro a S t w ⟨b, cm, mm, d, V, rfl, q⟩; exact last16 w b cm mm S t d V q
  base := by rintro a S t w ⟨b, cm, mm, d, V, rfl, q⟩; exact base16 w b cm mm S t d V q
  count := by
    rintro a S t w ⟨b, cm, mm, d, V, rfl, q⟩ _
    have e : t.count = t.all.length - d := by unfold Tb.count; rw [q.drp, countB_dropL]
    rw [e]
    exact count16 w b cm mm S t d V q
  at_ := by rintro a S t n w ⟨b, cm, mm, d, V, rfl, q⟩ hl; exact at16 w b cm mm S t d V q n hl
  append := by rintro a S t n v xs w ⟨b, cm, mm, d, V, rfl, q⟩ hl hv hx; exact append16 w b cm mm S t d V q n v xs hl hv hx
  mark := by rintro a S t k n w ⟨b, cm, mm, d, V, rfl, q⟩ hn; exact mark16 w b cm mm S t d V q k n hn
  marked := by rintro a S t k w ⟨b, cm, mm, d, V, rfl, q⟩; exact marked16 w b cm mm S t d V q k
  grab := by rintro a S t k w ⟨b, cm, mm, d, V, rfl, q⟩; exact grab16 w b cm mm S t d V q k
  yield_ := by rintro a S t k w ⟨b, cm, mm, d, V, rfl, q⟩; exact yield16 w b cm mm S t d V q k
  advance := by rintro a S t k w ⟨b, cm, mm, d, V, rfl, q⟩; exact advance16 w b cm mm S t d V q k
  trim := by rintro a S t n w ⟨b, cm, mm, d, V, rfl, q⟩ hl hn; exact trim16 w b cm mm S t d V q hl n hn
  copy := by rintro a S t w ⟨b, cm, mm, d, V, rfl, q⟩ _; exact copy16 w b cm mm S t d V q
end Go.Proofs.YtkbfhpgcjljbbaaDoor
