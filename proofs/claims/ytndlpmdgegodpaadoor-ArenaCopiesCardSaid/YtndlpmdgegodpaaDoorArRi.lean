/- The document's own arena: Free, by a contract. -/
import Derived.Test.YtndlpmdgegodpaaDoorArRh
namespace Go.Proofs.YtndlpmdgegodpaaDoor
open Go.RowKit

theorem putInfo : (Tryd.prog.info? 91).map (fun i => (i.zero, i.size, i.bytes)) = some (some (.agg #[.int .i64 0, .int .i64 0, .int .i64 0, .string ⟨#[]⟩, .string ⟨#[]⟩, .bool false, .int .i64 0, .slice none 0 0, .slice none 0 0, .string ⟨#[]⟩, .string ⟨#[]⟩, .int .i64 0, .int .i64 0, .int .i64 0, .string ⟨#[]⟩, .int .i64 0, .int .i64 0, .bool false]), 18, 216) := by kernel_rfl
theorem lPut_known : lPut.known 216 := known_of putInfo rfl rfl
def arCells (n l : Int) (v : Value) : List Value := [.int .i64 n, .int .i64 l, v]
theorem rf_free_end {w1 : World} {b : Nat} {cs : List Value} {ev : Value} {a : Act} {Q : Ending → World → Prop} (h : w1.rangeAt b 0 cs) (hev : a.tmps.getD 5 undef = ev) (hp : a.tmps.getD 4 undef = .pointer (some ⟨b, 0, none⟩)) (hd : a.defers = [])
    (hi : (Tryd.prog.info? 29).map (·.size) = some cs.length) (hq : Q (.returned (.tuple #[.agg cs.toArray, ev])) w1) : bodyPost Tryd.prog Tryd.f25 Q Exit.ret a w1 :=
  bodyPost_ret (v := .tuple #[.agg cs.toArray, ev]) (results_cellT rfl _ _ b cs _ ev hp hev h Tryd.underlying29 rfl hi) hd hq
theorem blk_range {w : World} {b : Nat} {cs : List Value} {T : TypeId} (h : w.heap[b]? = some (.cells cs.toArray T (0, 0))) : w.rangeAt b 0 cs := fun j u hj => by
  rw [Nat.zero_add, blk_cell h]; simpa using hj
theorem three_facts {w : World} {b : Nat} {T : TypeId} {x0 x1 x2 : Value} (h : w.heap[b]? = some (.cells #[x0, x1, x2] T (0, 0))) (u0 u1 u2 : Value) :
    w.cell? ⟨b, 0, none⟩ = some x0 ∧ w.frozen? ⟨b, 0, none⟩ = false ∧ (w.setCell ⟨b, 0, none⟩ u0).cell? ⟨b, 1, none⟩ = some x1 ∧ (w.setCell ⟨b, 0, none⟩ u0).frozen? ⟨b, 1, none⟩ = false ∧
    ((w.setCell ⟨b, 0, none⟩ u0).setCell ⟨b, 1, none⟩ u1).cell? ⟨b, 2, none⟩ = some x2 ∧ ((w.setCell ⟨b, 0, none⟩ u0).setCell ⟨b, 1, none⟩ u1).frozen? ⟨b, 2, none⟩ = false ∧
    (((w.setCell ⟨b, 0, none⟩ u0).setCell ⟨b, 1, none⟩ u1).setCell ⟨b, 2, none⟩ u2).heap[b]? = some (.cells #[u0, u1, u2] T (0, 0)) := by
  have h1 := blk_set h 0 u0
  have h2 := blk_set h1 1 u1
  have h3 := blk_set h2 2 u2
  exact ⟨blk_cell h 0, blk_free h 0, blk_cell h1 1, blk_free h1 1, blk_cell h2 2, blk_free h2 2, h3⟩
theorem freeM_no {n : Nat} {ps : List Pt} {x y : Int} (h : codeM n ps x y ≠ 0) : freeM n ps x y = ps := by unfold freeM; rw [if_neg h]
theorem set_modify {us : List PuD} {i : Nat} {d : PuD} (h : us[i]? = some d) : (us.set i { d with live := false }).map PuD.pt = (us.map PuD.pt).modify i (fun p => { p with live := false }) := by
  apply List.ext_getElem?
  intro j
  rw [List.getElem?_map, List.getElem?_modify, List.getElem?_map, List.getElem?_set]
  by_cases hj : i = j
  · subst hj
    rw [if_pos rfl, if_pos (List.getElem?_eq_some_iff.1 h).1, h]
    simp [PuD.pt]
  · rw [if_neg hj]
    simp [hj]
/-- what a call tells lies in memory of its own, or is what came in -/
def NewP (w w' : World) (v v' : Value) (us us' : List PuD) : Prop := OwnS lPut w.heap.size w' v' us' ∨ (v' = v ∧ us' = us)
/-- its record is just that one -/
def Heir (e e0 : PuD) : Prop := e.rv = e0.rv ∧ e.en = e0.en ∧ e.rows = e0.rows ∧ e.ents = e0.ents
theorem Heir.refl (e : PuD) : Heir e e := ⟨rfl, rfl, rfl, rfl⟩
set_option maxRecDepth 100000 in
set_option maxHeartbeats 4000000 in
theorem rf_free (n l : Nat) (v : Value) (us : List PuD) (x y : Int) (w : World) (hv : PutsV w v us) (hus : us.length ≤ 1000) :
    Calls Tryd.prog 25 #[refA n l v, refV x y] w fun ev w' => ∃ v' us', ev = .returned (.tuple #[refA n l v', .int .i64 (codeM n (us.map PuD.pt) x y)]) ∧ PutsV w' v' us' ∧ us'.map PuD.pt = freeM n (us.map PuD.pt) x y ∧ us'.length = us.length ∧ (NewP w w' v v' us us' ∧ ∀ e ∈ us', ∃ e0 ∈ us, Heir e e0) ∧ Below w.heap.size w w' := by
  obtain ⟨va, vc, rfl, hlc, hcm⟩ := hv.1.lenform
  have V0 := Lib.hid hv
  obtain ⟨w1, hw1⟩ : ∃ w1, w1 = w.alloc (.cells #[.int .i64 n, .int .i64 l, .slice va us.length vc] 29) := ⟨_, rfl⟩
  obtain ⟨w2, hw2⟩ : ∃ w2, w2 = w1.alloc (.cells #[.int .i64 x, .int .i64 y] 38) := ⟨_, rfl⟩
  obtain ⟨W, hW⟩ : ∃ W, W = w2.alloc (.cells #[.int .i64 0, .int .i64 0, .slice none 0 0] 29) := ⟨_, rfl⟩
  obtain ⟨W3, hW3⟩ : ∃ W, W = w2.alloc (.cells #[.int .i64 n, .int .i64 l, .slice va us.length vc] 29) := ⟨_, rfl⟩
  have b1 := alloc_below0 w (.cells #[.int .i64 n, .int .i64 l, .slice va us.length vc] 29)
  have k1 := blk_new w (.cells #[.int .i64 n, .int .i64 l, .slice va us.length vc] 29)
  rw [← hw1] at b1 k1
  have b2 := alloc_below0 w1 (.cells #[.int .i64 x, .int .i64 y] 38)
  rw [← hw2] at b2
  have b3 := alloc_below0 w2 (.cells #[.int .i64 0, .int .i64 0, .slice none 0 0] 29)
  rw [← hW] at b3
  have b4 := alloc_below0 w2 (.cells #[.int .i64 n, .int .i64 l, .slice va us.length vc] 29)
  rw [← hW3] at b4
  have X0 := XB.new x y w1 38
  rw [← hw2] at X0
  have X := Lib.hid (X0.step b3)
  have K := Lib.hid (blk_step (blk_step k1 b2) b3)
  have B0 := Lib.hid (show Below w.heap.size w W from (b1.trans (b2.mono b1.size)).trans (b3.mono (Nat.le_trans b1.size b2.size)))
  have B3 := Lib.hid (show Below w.heap.size w W3 from (b1.trans (b2.mono b1.size)).trans (b4.mono (Nat.le_trans b1.size b2.size)))
  have V := Lib.hid (show PutsV W (.slice va us.length vc) us from hv.below B0.out)
  have z1 : w1.heap.size = w.heap.size + 1 := by rw [hw1]; simp
  have z2 : w2.heap.size = w.heap.size + 1 + 1 := by rw [hw2]; simp [z1]
  have K2 := Lib.hid (show W.heap[w.heap.size + 1 + 1]? = some (.cells #[.int .i64 0, .int .i64 0, .slice none 0 0] 29) by rw [hW, ← z2]; exact blk_new _ _)
  have K3 := Lib.hid (show W3.heap[w.heap.size + 1 + 1]? = some (.cells (arCells n l (.slice va us.length vc)).toArray 29) by rw [hW3, ← z2]; exact blk_new _ _)
  have Z := Lib.hid (show W.heap.size = w.heap.size + 3 by rw [hW]; simp [z2])
  rw [z1] at X
  rw [hw2, hw1] at hW hW3
  obtain ⟨N, hN⟩ : ∃ N, us.length = N := ⟨_, rfl⟩
  have LN := Lib.hid hN
  unfold maxLen at hcm
  have a0 := blk_cell K.out 0
  have a1 := blk_cell K.out 1
  have a2 := blk_cell K.out 2
  simp only [List.getElem?_toArray, List.getElem?_cons_zero, List.getElem?_cons_succ] at a0 a1 a2
  have r0 := X.out.c0
  have r1 := X.out.c1
  have v1 := V.out
  have hc := rf_find n l (.slice va us.length vc) us x y W v1.1
  rw [hN] at a2 hW hW3 V V0 K K3 hlc hc hus ⊢
  clear hv b1 b2 b3 b4 X0 z1 z2 hw1 hw2 v1 k1
  clear w1 w2
  by_cases hg : x < 1 ∨ (n : Int) < x
  · have E := Lib.hid (codeM_arg (ps := us.map PuD.pt) (y := y) hg)
    have EF := Lib.hid (freeM_no (n := n) (ps := us.map PuD.pt) (x := x) (y := y) (by rw [E.out]; decide))
    rw [E.out, EF.out]
    clear hc
    unfold refA refV
    rcases hg with hg | hg
    all_goals
      go_enter Tryd.func25, Tryd.ntmps25
      go_wp2
      rw [← hW3]
      exact rf_free_end (blk_range K3.out) rfl rfl rfl (by kernel_rfl) ⟨_, us, rfl, V0.out.below B3.out, rfl, LN.out, ⟨.inr ⟨rfl, rfl⟩, fun e he => ⟨e, he, Heir.refl e⟩⟩, B3.out⟩
  · have h1 : ¬ x < 1 := fun h => hg (.inl h)
    have h2 : ¬ (n : Int) < x := fun h => hg (.inr h)
    cases hf : findM (us.map PuD.pt) x y with
    | none =>
      have E := Lib.hid (codeM_stale hg hf)
      have EF := Lib.hid (freeM_no (n := n) (ps := us.map PuD.pt) (x := x) (y := y) (by rw [E.out]; decide))
      rw [E.out, EF.out]
      rw [hf] at hc
      simp only [Option.elim_none] at hc
      clear hf hg
      unfold refA refV at hc ⊢
      go_enter Tryd.func25, Tryd.ntmps25
      go_wp2_with fail
      rw [← hW]
      refine hc.mono ?_
      rintro ev w1 ⟨rfl, hs⟩
      have B := Lib.hid (B0.out.trans (hs.mono B0.out.size))
      have K4 := Lib.hid (blk_step K2.out hs)
      have a0 := cell_step a0 hs
      have a1 := cell_step a1 hs
      have a2 := cell_step a2 hs
      have j1 : (-1 : Int) < 0 := by decide
      clear hs hc hW hW3 r0 r1
      obtain ⟨s0, s1, s2, s3, s4, s5, s6⟩ := three_facts K4.out (.int .i64 n) (.int .i64 l) (.slice va N vc)
      have BE := Lib.hid (below_set (below_set (below_set B.out (b := w.heap.size + 1 + 1) (by omega) 0 (.int .i64 n)) (b := w.heap.size + 1 + 1) (by omega) 1 (.int .i64 l)) (b := w.heap.size + 1 + 1) (by omega) 2 (.slice va N vc))
      have S6 := Lib.hid s6
      clear s6
      go_wp2
      exact rf_free_end (blk_range (cs := arCells n l (.slice va N vc)) S6.out) rfl rfl rfl (by kernel_rfl) ⟨_, us, rfl, V0.out.below BE.out, rfl, LN.out, ⟨.inr ⟨rfl, rfl⟩, fun e he => ⟨e, he, Heir.refl e⟩⟩, BE.out⟩
    | some i =>
      have E := Lib.hid (codeM_here hg hf)
      obtain ⟨d, hx⟩ := findM_at hf
      have EF := Lib.hid (show (us.set i { d with live := false }).map PuD.pt = freeM n (us.map PuD.pt) x y by
        unfold freeM; rw [if_pos E.out, hf]; exact set_modify hx)
      rw [E.out, ← EF.out]
      rw [hf] at hc
      simp only [Option.elim_some] at hc
      have hlt : i < N := by rw [← LN.out]; exact (List.getElem?_eq_some_iff.1 hx).1
      have HX := Lib.hid hx
      have j3 : (0 : Int) ≤ (i : Int) := by omega
      have j4 : (i : Int) < (N : Int) := by omega
      have j5 : ¬ (i : Int) < 0 := by omega
      clear hf hg hx
      unfold refA refV at hc ⊢
      go_enter Tryd.func25, Tryd.ntmps25
      go_wp2_with fail
      rw [← hW]
      refine hc.mono ?_
      rintro ev w1 ⟨rfl, hs⟩
      have B := Lib.hid (B0.out.trans (hs.mono B0.out.size))
      have KR := Lib.hid (blk_step K2.out hs)
      have KA := Lib.hid (blk_step K.out hs)
      have V3 := Lib.hid (V.out.below hs)
      have bz := alloc_below0 w1 (.cells #[] 91)
      have a2 := cell_step (cell_step a2 hs) bz
      have V4 := Lib.hid (V3.out.below bz)
      have O0 := Lib.hid (OwnS.lit lPut w1.heap.size w1 w1.heap.size rfl [] (Nat.le_refl _) (by simp))
      have BZ := Lib.hid bz
      have SW := Lib.hid (show w.heap.size + 1 + 1 < w1.heap.size from (Array.getElem?_eq_some_iff.1 KR.out).1)
      have NZ := Lib.hid (show ¬ N = 0 by omega)
      clear hs hc hW a0 a1 r0 r1 hW3 bz
      go_wp2_with (refine wpList_appS lPut 27 Tryd.underlying27 lPut_known (by decide) (by decide) rfl (.tmp 25) (.tmp 27) rfl w1.heap.size rfl rfl O0.out V4.out.1 (by have := LN.out; simp; omega) BZ.out.size ?_
                   intro v2 w4 ho2 hg2
                   have B4 := Lib.hid (BZ.out.trans ((Kept.of_grown hg2).below (n := w1.heap.size) (fun j hj => by have : j = w1.heap.size := Option.some.inj hj; omega) BZ.out.size))
                   rw [List.nil_append] at ho2
                   obtain ⟨g, cap, rfl, h1, h2, h3, h4⟩ := ho2.form (by rw [LN.out]; exact NZ.out)
                   have G := Lib.hid (show w1.heap.size ≤ g from h1)
                   rw [LN.out] at ho2 h4 ⊢
                   have OW := Lib.hid ho2
                   have z17 := ho2.sv.cellAt (i := i) (j := 17) HX.out rfl
                   have f17 := ho2.free (i * 18 + 17)
                   simp only [lPut, Nat.zero_add] at z17
                   have KA4 := blk_step KA.out B4.out
                   have KA5 := blk_off KA4 (b := g) (by have := G.out; have := SW.out; omega) (i * 18 + 17) (.bool false)
                   have c5 := blk_cell KA5 2
                   have f5 := blk_free KA5 2
                   simp only [List.getElem?_toArray, List.getElem?_cons_zero, List.getElem?_cons_succ] at c5
                   have KA6 := blk_set KA5 2 (.slice (some ⟨g, 0, none⟩) N cap)
                   have d0 := blk_cell KA6 0
                   have d1 := blk_cell KA6 1
                   have d2 := blk_cell KA6 2
                   have KR4 := blk_step KR.out B4.out
                   have KR6 := blk_off (blk_off KR4 (b := g) (by have := G.out; have := SW.out; omega) (i * 18 + 17) (.bool false)) (b := w.heap.size) (by omega) 2 (.slice (some ⟨g, 0, none⟩) N cap)
                   obtain ⟨s0, s1, s2, s3, s4, s5, s6⟩ := three_facts KR6 (.int .i64 n) (.int .i64 l) (.slice (some ⟨g, 0, none⟩) N cap)
                   have S6 := Lib.hid s6
                   have O1 := Lib.hid (OwnS.set ho2 (y := { d with live := false }) HX.out (j := 17) (by decide) (u := .bool false) rfl)
                   clear ho2 hg2 h1 h2 h3 KA4 KA5 KA6 KR4 KR6 s6)
      have BE := Lib.hid (below_set (below_set (below_set (below_set (below_set (B.out.trans (B4.out.mono (by have := SW.out; omega))) (b := g) (by have := G.out; have := SW.out; omega) (i * 18 + 17) (.bool false)) (b := w.heap.size) (Nat.le_refl _) 2 (.slice (some ⟨g, 0, none⟩) N cap)) (b := w.heap.size + 1 + 1) (by omega) 0 (.int .i64 n)) (b := w.heap.size + 1 + 1) (by omega) 1 (.int .i64 l)) (b := w.heap.size + 1 + 1) (by omega) 2 (.slice (some ⟨g, 0, none⟩) N cap))
      have k1 := (Kept.refl (fun k => k = w.heap.size) (w4.setCell ⟨g, i * 18 + 17, none⟩ (.bool false))).setCell 2 (.slice (some ⟨g, 0, none⟩) N cap)
      have k2 := (((Kept.refl (fun k => k = w.heap.size + 1 + 1) ((w4.setCell ⟨g, i * 18 + 17, none⟩ (.bool false)).setCell ⟨w.heap.size, 2, none⟩ (.slice (some ⟨g, 0, none⟩) N cap))).setCell 0 (.int .i64 n)).setCell 1 (.int .i64 l)).setCell 2 (.slice (some ⟨g, 0, none⟩) N cap)
      have k3 := Kept.trans2 (U := fun k => k < w1.heap.size) k1 k2 (fun x h => by have := SW.out; omega) (fun x h => by have := SW.out; omega)
      have O2f := Lib.hid ((O1.out.kept k3 (O1.out.out fun _ h => h)).mono (b' := w.heap.size) (by have := SW.out; omega))
      have O2 := Lib.hid (O1.out.kept k3 (O1.out.out fun _ h => h)).sv
      clear k1 k2 k3
      exact rf_free_end (blk_range (cs := arCells n l (.slice (some ⟨g, 0, none⟩) N cap)) S6.out) rfl rfl rfl (by kernel_rfl) ⟨_, us.set i { d with live := false }, rfl, ⟨O2.out, fun e he => by
        rcases List.mem_or_eq_of_mem_set he with he | rfl
        · exact ⟨(V0.out.2 e he).1.below BE.out, (V0.out.2 e he).2.below BE.out⟩
        · exact ⟨(V0.out.2 d (List.mem_of_getElem? HX.out)).1.below BE.out, (V0.out.2 d (List.mem_of_getElem? HX.out)).2.below BE.out⟩⟩, rfl, by rw [List.length_set]; exact LN.out, ⟨.inl O2f.out, fun e he => by
        rcases List.mem_or_eq_of_mem_set he with he | rfl
        · exact ⟨e, he, Heir.refl e⟩
        · exact ⟨d, List.mem_of_getElem? HX.out, rfl, rfl, rfl, rfl⟩⟩, BE.out⟩
end Go.Proofs.YtndlpmdgegodpaaDoor
