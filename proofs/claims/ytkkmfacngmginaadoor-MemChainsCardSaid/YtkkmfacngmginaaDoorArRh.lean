/- The document's own arena: Load, by a contract. -/
import Derived.Test.YtkkmfacngmginaaDoorMm
import Derived.Test.YtkkmfacngmginaaDoorArRf
namespace Go.Proofs.YtkkmfacngmginaaDoor
open Go.RowKit

/-- the parameter's block, and the puts that it reads, behind some calls -/
structure RfBa (b : Nat) (n l : Nat) (va : Option Addr) (vc : Nat) (us : List PuD) (w : World) : Prop where
  a0 : w.cell? ⟨b, 0, none⟩ = some (.int .i64 n)
  a1 : w.cell? ⟨b, 1, none⟩ = some (.int .i64 l)
  a2 : w.cell? ⟨b, 2, none⟩ = some (.slice va us.length vc)
  sv : SV lPut w (.slice va us.length vc) us
theorem RfBa.step {b n l : Nat} {va : Option Addr} {vc : Nat} {us : List PuD} {w w' : World} (h : RfBa b n l va vc us w) (hs : Below w.heap.size w w') : RfBa b n l va vc us w' :=
  ⟨cell_step h.a0 hs, cell_step h.a1 hs, cell_step h.a2 hs, h.sv.below hs⟩
theorem RfBa.new (n l : Nat) {va : Option Addr} {vc : Nat} {us : List PuD} {w : World} (h : SV lPut w (.slice va us.length vc) us) : RfBa w.heap.size n l va vc us (w.alloc (.cells #[.int .i64 n, .int .i64 l, .slice va us.length vc] 82)) :=
  ⟨by rw [World.cell?_alloc_at _ _ _ _ rfl]; rfl, by rw [World.cell?_alloc_at _ _ _ _ rfl]; rfl, by rw [World.cell?_alloc_at _ _ _ _ rfl]; rfl, h.below (alloc_below0 _ _)⟩
set_option maxRecDepth 100000 in
set_option maxHeartbeats 4000000 in
theorem rf_same (v u : Value) (xs : List Rf) (w : World) (hv : SV lRef w v xs) (hu : SV lRef w u xs) :
    Calls Tryd.prog 37 #[v, u] w fun ev w' => ev = .returned (.bool true) ∧ Below w.heap.size w w' := by
  obtain ⟨va, vc, rfl, hlc, hcm⟩ := hv.lenform
  obtain ⟨ua, uc, rfl, hlc2, hcm2⟩ := hu.lenform
  obtain ⟨N, hN⟩ : ∃ N, xs.length = N := ⟨_, rfl⟩
  have LN := Lib.hid hN
  have V := Lib.hid hv
  have U := Lib.hid hu
  unfold maxLen at hcm
  rw [hN] at V U hlc ⊢
  clear hv hu hN hlc2 hcm2
  go_enter Tryd.func37, Tryd.ntmps37
  go_wp2
  go_loopg [5] N (fun r i wr => ∃ k : Nat, k + r = N ∧ i = .int .i64 k ∧ Below w.heap.size w wr)
  case atStart => exact ⟨0, by omega, rfl, Below.refl _ _⟩
  case round =>
    obtain ⟨k, hk, rfl, hB⟩ := hrel
    have A := Lib.hid (show Below w.heap.size w wr ∧ k + gk = N from ⟨hB, hk⟩)
    have V := Lib.hid (V.out.below hB)
    have U := Lib.hid (U.out.below hB)
    clear hB hk
    by_cases hlt : k < N
    · obtain ⟨⟨p, q⟩, hx⟩ : ∃ d, xs[k]? = some d := ⟨_, List.getElem?_eq_getElem (by rw [LN.out]; exact hlt)⟩
      obtain ⟨b, off, ha⟩ := V.out.addr (by rw [LN.out]; omega)
      subst ha
      obtain ⟨b2, off2, ha⟩ := U.out.addr (by rw [LN.out]; omega)
      subst ha
      have x0 := V.out.cellAt (j := 0) hx rfl
      have x1 := V.out.cellAt (j := 1) hx rfl
      have y0 := U.out.cellAt (j := 0) hx rfl
      have y1 := U.out.cellAt (j := 1) hx rfl
      simp only [lRef, Nat.add_zero] at x0 x1 y0 y1
      have j3 : (0 : Int) ≤ (k : Int) := by omega
      have j4 : (k : Int) < (N : Int) := by omega
      have e1 : (p == p) = true := by simp
      have e2 : (q == q) = true := by simp
      clear hx
      go_wp2
      go_quiet (fail)
      go_wp2
      go_roundg (N - (k + 1))
      case measure => have := A.out.2; omega
      case rel => exact ⟨k + 1, by omega, by go_num, below_drewN A.out.1 _⟩
    · obtain rfl : k = N := by have := A.out.2; omega
      go_wp2
      go_ret
      exact ⟨rfl, A.out.1⟩

open Go.RowKit

theorem SV.there {α : Type} {E : Lay α} {w : World} {b off n c : Nat} {xs : List α} (h : SV E w (.slice (some ⟨b, off, none⟩) n c) xs) {i j : Nat} {x : α} {cs : List Value} (hi : xs[i]? = some x) (hc : ∀ k u, cs[k]? = some u → (E.enc x)[j + k]? = some u) : w.rangeAt b (off + i * E.sz + j) cs := fun k u hk => by
  have := h.cellAt hi (hc k u hk)
  rw [Nat.add_assoc (off + i * E.sz) j k]
  exact this
theorem PuD.rec_cells (d : PuD) (k : Nat) (u : Value) (h : (recCells d.sc d.rv d.en)[k]? = some u) : d.cells[2 + k]? = some u := by
  have e : d.cells = [.int .i64 (d.slot : Int), .int .i64 (d.gen : Int)] ++ (recCells d.sc d.rv d.en ++ [.bool d.live]) := rfl
  rw [e, List.getElem?_append_right (by simp), show 2 + k - List.length [Value.int .i64 (d.slot : Int), .int .i64 (d.gen : Int)] = k by simp, List.getElem?_append_left (List.getElem?_eq_some_iff.1 h).1]
  exact h
theorem codeM_arg {n : Nat} {ps : List Pt} {x y : Int} (h : x < 1 ∨ (n : Int) < x) : codeM n ps x y = 1 := by unfold codeM; rw [if_pos h]
theorem codeM_stale {n : Nat} {ps : List Pt} {x y : Int} (h : ¬ (x < 1 ∨ (n : Int) < x)) (hf : findM ps x y = none) : codeM n ps x y = 4 := by unfold codeM; rw [if_neg h, hf]; rfl
theorem codeM_here {n : Nat} {ps : List Pt} {x y : Int} {i : Nat} (h : ¬ (x < 1 ∨ (n : Int) < x)) (hf : findM ps x y = some i) : codeM n ps x y = 0 := by unfold codeM; rw [if_neg h, hf]; rfl
theorem loadM_no {n : Nat} {ps : List Pt} {x y : Int} (h : codeM n ps x y ≠ 0) : loadM n ps x y = RecD.zero := by unfold loadM; rw [if_neg h]
theorem findM_at {us : List PuD} {x y : Int} {i : Nat} (hf : findM (us.map PuD.pt) x y = some i) : ∃ d, us[i]? = some d := by
  unfold findM at hf
  rw [List.findIdx?_eq_some_iff_getElem] at hf
  obtain ⟨h, -⟩ := hf
  exact ⟨us[i]'(by simpa using h), List.getElem?_eq_getElem (by simpa using h)⟩
/-- Load's end: its first result lies in a block -/
theorem rf_load_end {w1 : World} {b : Nat} {cs : List Value} {ev : Value} {a : Act} {Q : Ending → World → Prop} (h : w1.rangeAt b 0 cs) (hev : a.tmps.getD 5 undef = ev) (hp : a.tmps.getD 4 undef = .pointer (some ⟨b, 0, none⟩)) (hd : a.defers = [])
    (hi : (Tryd.prog.info? 32).map (·.size) = some cs.length) (hq : Q (.returned (.tuple #[.agg cs.toArray, ev])) w1) : bodyPost Tryd.prog Tryd.f70 Q Exit.ret a w1 :=
  bodyPost_ret (v := .tuple #[.agg cs.toArray, ev]) (results_cellT rfl _ _ b cs _ ev hp hev h Tryd.underlying32 rfl hi) hd hq
set_option maxRecDepth 100000 in
set_option maxHeartbeats 4000000 in
theorem rf_load (n l : Nat) (v : Value) (us : List PuD) (x y : Int) (w : World) (hv : PutsV w v us) :
    Calls Tryd.prog 70 #[refA n l v, refV x y] w fun ev w' => ∃ rv en, ev = .returned (.tuple #[recVal (loadM n (us.map PuD.pt) x y).sc rv en, .int .i64 (codeM n (us.map PuD.pt) x y)]) ∧ SV lRow w' rv (loadM n (us.map PuD.pt) x y).rows ∧ SV lEnt w' en (loadM n (us.map PuD.pt) x y).ents ∧ Below w.heap.size w w' := by
  obtain ⟨va, vc, rfl, hlc, hcm⟩ := hv.1.lenform
  have V0 := Lib.hid hv
  obtain ⟨w1, hw1⟩ : ∃ w1, w1 = w.alloc (.cells #[.int .i64 n, .int .i64 l, .slice va us.length vc] 82) := ⟨_, rfl⟩
  obtain ⟨w2, hw2⟩ : ∃ w2, w2 = w1.alloc (.cells #[.int .i64 x, .int .i64 y] 30) := ⟨_, rfl⟩
  obtain ⟨W, hW⟩ : ∃ W, W = w2.alloc (recObj Sc.zero (.slice none 0 0) (.slice none 0 0)) := ⟨_, rfl⟩
  have K1 := RfBa.new n l hv.1
  have b1 := alloc_below0 w (.cells #[.int .i64 n, .int .i64 l, .slice va us.length vc] 82)
  rw [← hw1] at K1 b1
  have b2 := alloc_below0 w1 (.cells #[.int .i64 x, .int .i64 y] 30)
  rw [← hw2] at b2
  have b3 := alloc_below0 w2 (recObj Sc.zero (.slice none 0 0) (.slice none 0 0))
  rw [← hW] at b3
  have X0 := XB.new x y w1 30
  rw [← hw2] at X0
  have X := Lib.hid (X0.step b3)
  have K := Lib.hid ((K1.step b2).step b3)
  have B0 := Lib.hid (show Below w.heap.size w W from (b1.trans (b2.mono b1.size)).trans (b3.mono (Nat.le_trans b1.size b2.size)))
  have V := Lib.hid (show PutsV W (.slice va us.length vc) us from hv.below B0.out)
  have z1 : w1.heap.size = w.heap.size + 1 := by rw [hw1]; simp
  have z2 : w2.heap.size = w.heap.size + 1 + 1 := by rw [hw2]; simp [z1]
  have K2 := Lib.hid (show W.heap[w.heap.size + 1 + 1]? = some (recObj Sc.zero (.slice none 0 0) (.slice none 0 0)) by rw [hW, ← z2]; exact blk_new _ _)
  have Z := Lib.hid (show W.heap.size = w.heap.size + 3 by rw [hW]; simp [z2])
  rw [z1] at X
  rw [hw2, hw1] at hW
  simp only [recObj, Sc.zero] at hW
  obtain ⟨N, hN⟩ : ∃ N, us.length = N := ⟨_, rfl⟩
  have LN := Lib.hid hN
  unfold maxLen at hcm
  have a0 := K.out.a0
  have a1 := K.out.a1
  have a2 := K.out.a2
  have r0 := X.out.c0
  have r1 := X.out.c1
  have v1 := V.out
  have hc := ar_rf_find n l (.slice va us.length vc) us x y W v1.1
  rw [hN] at a2 hW V hlc hc ⊢
  clear hv b1 b2 b3 X0 K1 z1 z2 hw1 hw2 v1
  clear w1 w2
  by_cases hg : x < 1 ∨ (n : Int) < x
  · have E := Lib.hid (codeM_arg (ps := us.map PuD.pt) (y := y) hg)
    have EL := Lib.hid (loadM_no (n := n) (ps := us.map PuD.pt) (x := x) (y := y) (by rw [E.out]; decide))
    rw [E.out, EL.out]
    clear hc
    unfold refA refV
    rcases hg with hg | hg
    all_goals
      go_enter Tryd.func70, Tryd.ntmps70
      go_wp2
      rw [← hW]
      first
        | exact rf_load_end (rec_range K2.out) rfl rfl rfl (by kernel_rfl) ⟨_, _, rfl, SV.nil _ _, SV.nil _ _, B0.out⟩
        | (go_wp2
           exact rf_load_end (rec_range K2.out) rfl rfl rfl (by kernel_rfl) ⟨_, _, rfl, SV.nil _ _, SV.nil _ _, B0.out⟩)
  · have h1 : ¬ x < 1 := fun h => hg (.inl h)
    have h2 : ¬ (n : Int) < x := fun h => hg (.inr h)
    cases hf : findM (us.map PuD.pt) x y with
    | none =>
      have E := Lib.hid (codeM_stale hg hf)
      have EL := Lib.hid (loadM_no (n := n) (ps := us.map PuD.pt) (x := x) (y := y) (by rw [E.out]; decide))
      rw [E.out, EL.out]
      rw [hf] at hc
      simp only [Option.elim_none] at hc
      clear hf hg
      unfold refA refV at hc ⊢
      go_enter Tryd.func70, Tryd.ntmps70
      go_wp2_with fail
      rw [← hW]
      refine hc.mono ?_
      rintro ev w1 ⟨rfl, hs⟩
      have B := Lib.hid (B0.out.trans (hs.mono B0.out.size))
      have K3 := Lib.hid (blk_step K2.out hs)
      have j1 : (-1 : Int) < 0 := by decide
      clear hs hc hW a0 a1 a2 r0 r1
      go_wp2_with (refine wpList_store_mid rfl 32 (.tmp 4) (.tmp 23) rfl (w.heap.size + 1 + 1) 0 (recCells Sc.zero (.slice none 0 0) (.slice none 0 0)).toArray rfl rfl (blk_there K3.out 15 (Nat.le_refl _)) (by kernel_rfl) (rec_one ..) ?_)
      exact rf_load_end (World.rangeAt_setCells_same _ _ _ _ (blk_there K3.out 15 (Nat.le_refl _))) rfl rfl rfl (by kernel_rfl) ⟨_, _, rfl, SV.nil _ _, SV.nil _ _, B.out.trans ((Kept.setCells (b := w.heap.size + 1 + 1) (recCells Sc.zero (.slice none 0 0) (.slice none 0 0)) 0 _ (Kept.refl _ w1)).below (n := w.heap.size) (fun k h => by omega) B.out.size)⟩
    | some i =>
      have E := Lib.hid (codeM_here hg hf)
      obtain ⟨d, hx⟩ := findM_at hf
      have EL := Lib.hid (show loadM n (us.map PuD.pt) x y = ⟨d.sc, d.rows, d.ents⟩ by
        unfold loadM; rw [if_pos E.out, hf]; simp only [Option.bind_some, List.getElem?_map, hx, Option.map_some]; rfl)
      rw [E.out, EL.out]
      rw [hf] at hc
      simp only [Option.elim_some] at hc
      have hlt : i < N := by rw [← LN.out]; exact (List.getElem?_eq_some_iff.1 hx).1
      have HX := Lib.hid hx
      have M := Lib.hid (V0.out.2 d (List.mem_of_getElem? hx))
      have j3 : (0 : Int) ≤ (i : Int) := by omega
      have j4 : (i : Int) < (N : Int) := by omega
      have j5 : ¬ (i : Int) < 0 := by omega
      clear hf hg hx
      obtain ⟨b, off, ha⟩ := V.out.1.addr (by rw [LN.out]; omega)
      subst ha
      have BV := Lib.hid (show b < W.heap.size from lt_of_cell (V.out.1.cellAt (j := 0) HX.out rfl))
      unfold refA refV at hc ⊢
      go_enter Tryd.func70, Tryd.ntmps70
      go_wp2_with fail
      rw [← hW]
      refine hc.mono ?_
      rintro ev w1 ⟨rfl, hs⟩
      have B := Lib.hid (B0.out.trans (hs.mono B0.out.size))
      have K3 := Lib.hid (blk_step K2.out hs)
      have V3 := Lib.hid (V.out.below hs)
      have a2 := cell_step a2 hs
      have RG := V3.out.1.there (j := 2) (cs := recCells d.sc d.rv d.en) HX.out d.rec_cells
      have hrng : w1.rangeAt b (off + i * 18 + 2) (recCells d.sc d.rv d.en) := RG
      clear hs hc hW a0 a1 r0 r1 RG
      go_wp2_with (first
        | (refine wpList_load_mid rfl 32 (.tmp 28) rfl b (off + i * 18 + 2) rfl (recCells d.sc d.rv d.en) _ hrng Tryd.underlying32 rfl (by kernel_rfl) ?_)
        | (refine wpList_store_mid rfl 32 (.tmp 4) (.tmp 29) rfl (w.heap.size + 1 + 1) 0 (recCells d.sc d.rv d.en).toArray rfl rfl (blk_there K3.out 15 (Nat.le_refl _)) (by kernel_rfl) (rec_one ..) ?_))
      have BE : Below w.heap.size w (w1.setCells (w.heap.size + 1 + 1) 0 (recCells d.sc d.rv d.en)) := B.out.trans ((Kept.setCells (b := w.heap.size + 1 + 1) (recCells d.sc d.rv d.en) 0 _ (Kept.refl _ w1)).below (n := w.heap.size) (fun k h => by omega) B.out.size)
      exact rf_load_end (World.rangeAt_setCells_same _ _ _ _ (blk_there K3.out 15 (Nat.le_refl _))) rfl rfl rfl (by kernel_rfl) ⟨d.rv, d.en, rfl, M.out.1.below BE, M.out.2.below BE, BE⟩
end Go.Proofs.YtkkmfacngmginaaDoor
