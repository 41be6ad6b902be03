/- The document's own arena: Alloc, by a contract. -/
import Derived.Test.YtkkmfacngmginaaDoorMm
import Derived.Test.YtkkmfacngmginaaDoorArRi
import Derived.Test.YtkkmfacngmginaaDoorArLast
namespace Go.Proofs.YtkkmfacngmginaaDoor
open Go.RowKit

theorem results_cellCC {fn : Func} {p q u : Tmp} {ty ty2 : TypeId} (h : fn.results = #[.cell p ty, .cell q ty2, .tmp u]) (tmps : Array Value) (P : Program) (w : World) :
    (results fn tmps).run P w =
      ((asAddr (tmps.getD p undef)).run P w).andThen fun a w₁ => ((loadVar ty a).run P w₁).andThen fun v w₂ => ((asAddr (tmps.getD q undef)).run P w₂).andThen fun a2 w₃ => ((loadVar ty2 a2).run P w₃).andThen fun v2 w₄ => .ok (.tuple #[v, v2, tmps.getD u undef]) w₄ := by
  simp only [results, h]
  simp [Sem.run_bind, Result.andThen]
theorem results_cellCT {fn : Func} {p q u : Tmp} {ty ty2 : TypeId} (h : fn.results = #[.cell p ty, .cell q ty2, .tmp u]) (tmps : Array Value) (w : World) (b b2 : Nat) (cs cs2 : List Value) (d d2 : TypeDesc) (ev : Value) (hp : tmps.getD p undef = .pointer (some ⟨b, 0, none⟩)) (hq : tmps.getD q undef = .pointer (some ⟨b2, 0, none⟩)) (hev : tmps.getD u undef = ev) (hc : w.rangeAt b 0 cs) (hc2 : w.rangeAt b2 0 cs2)
    (hu : Tryd.prog.underlying ty = some d) (hd : d.isRow = true) (hi : (Tryd.prog.info? ty).map (·.size) = some cs.length) (hu2 : Tryd.prog.underlying ty2 = some d2) (hd2 : d2.isRow = true) (hi2 : (Tryd.prog.info? ty2).map (·.size) = some cs2.length) : (results fn tmps).run Tryd.prog w = .ok (.tuple #[.agg cs.toArray, .agg cs2.toArray, ev]) w := by
  have hl := run_loadVar_mid w b 0 ty cs d hc hu hd hi
  have hl2 := run_loadVar_mid w b2 0 ty2 cs2 d2 hc2 hu2 hd2 hi2
  rw [results_cellCC h, hp, hq, hev]
  simp [asAddr, hl, hl2, Result.andThen]
theorem rf_alloc_end {w1 : World} {b b2 : Nat} {cs cs2 : List Value} {ev : Value} {a : Act} {Q : Ending → World → Prop} (h : w1.rangeAt b 0 cs) (h2 : w1.rangeAt b2 0 cs2) (hev : a.tmps.getD 6 undef = ev) (hp : a.tmps.getD 4 undef = .pointer (some ⟨b, 0, none⟩)) (hp2 : a.tmps.getD 5 undef = .pointer (some ⟨b2, 0, none⟩)) (hd : a.defers = [])
    (hi : (Tryd.prog.info? 82).map (·.size) = some cs.length) (hi2 : (Tryd.prog.info? 30).map (·.size) = some cs2.length) (hq : Q (.returned (.tuple #[.agg cs.toArray, .agg cs2.toArray, ev])) w1) : bodyPost Tryd.prog Tryd.f33 Q Exit.ret a w1 :=
  bodyPost_ret (v := .tuple #[.agg cs.toArray, .agg cs2.toArray, ev]) (results_cellCT rfl _ _ b b2 cs cs2 _ _ ev hp hp2 hev h h2 Tryd.underlying82 rfl hi Tryd.underlying30 rfl hi2) hd hq
theorem ar_grown_below {n : Nat} {w0 wx wy : World} {v : Value} {xs : List PuD} (hb : Below n w0 wx) (ho : OwnS lPut n wx v xs) (hg : wx.grownBy wy v.ownBlock) (hn : n ≤ wx.heap.size) : Below n w0 wy ∧ n ≤ wy.heap.size :=
  ⟨hb.trans ((Kept.of_grown hg).below (fun j hj => (ho.bounds j hj.symm).1) hn), Nat.le_trans hn (Kept.of_grown hg).size⟩
theorem out_ne {m j p q c d : Nat} (h : j ≠ m) : Out (fun k => some k = (Value.slice (some ⟨m, 0, none⟩) p q).ownBlock) (.slice (some ⟨j, 0, none⟩) c d) := fun a n c hv hs => by
  obtain ⟨e, -, -⟩ := Value.slice.inj hv
  obtain rfl := Option.some.inj e
  exact h (Option.some.inj hs)
theorem ar_below_drew {n : Nat} {w w' : World} (h : Below n w w') : Below n w w'.drew := h.drew
theorem OwnS.drew {α : Type} {E : Lay α} {b : Nat} {w : World} {v : Value} {xs : List α} (h : OwnS E b w v xs) : OwnS E b w.drew v xs := h.below (Below.refl _ _).drew
theorem SV.drew {α : Type} {E : Lay α} {w : World} {v : Value} {xs : List α} (h : SV E w v xs) : SV E w.drew v xs := h.below (Below.refl _ _).drew
theorem slot_used {l : Nat} {ps : List Pt} {m f : Nat} {e : Int} (h : (slotOf ps m).2 = true) : allocGo l ps (f + 1) m e = allocGo l ps f (m + 1) e := allocGo_used (g := (slotOf ps m).1) (by rw [← h])
theorem slot_free {l : Nat} {ps : List Pt} {m f : Nat} {e : Int} (h : (slotOf ps m).2 = false) (hl : (slotOf ps m).1 < l) : allocGo l ps (f + 1) m e = (m, (slotOf ps m).1 + 1, 0) := allocGo_free (g := (slotOf ps m).1) (by rw [← h]) hl
theorem slot_worn {l : Nat} {ps : List Pt} {m f : Nat} {e : Int} (h : (slotOf ps m).2 = false) (hl : ¬ (slotOf ps m).1 < l) : allocGo l ps (f + 1) m e = allocGo l ps f (m + 1) 5 := allocGo_worn (g := (slotOf ps m).1) (by rw [← h]) hl
theorem putM_no {n l : Nat} {ps : List Pt} {d : RecD} (h : (allocM n l ps).2.2 ≠ 0) : putM n l ps d = ps := by unfold putM; rw [if_neg h]
set_option maxRecDepth 100000 in
set_option maxHeartbeats 4000000 in
theorem rf_alloc (n l : Nat) (v r : Value) (us : List PuD) (d : RecD) (w : World) (hv : PutsV w v us) (hr : RecV w r d) (hus : us.length ≤ 1000) (hn : n ≤ 4096) (hl : l ≤ 1099511627776) :
    Calls Tryd.prog 33 #[refA n l v, r] w fun ev w' => ∃ v' us', ev = .returned (.tuple #[refA n l v', refV ((allocM n l (us.map PuD.pt)).1 : Int) ((allocM n l (us.map PuD.pt)).2.1 : Int), .int .i64 (allocM n l (us.map PuD.pt)).2.2]) ∧ PutsV w' v' us' ∧ us'.map PuD.pt = putM n l (us.map PuD.pt) d ∧ us'.length ≤ us.length + 1 ∧ (NewP w w' v v' us us' ∧ ∀ e ∈ us', (∃ e0 ∈ us, Heir e e0) ∨ (r = recVal e.sc e.rv e.en ∧ e.rows = d.rows ∧ e.ents = d.ents)) ∧ Below w.heap.size w w' := by
  obtain ⟨sc, rows, ents⟩ := d
  obtain ⟨rv, en, rfl, hr, he⟩ := hr
  simp only at hr he
  obtain ⟨ra, rc, rfl, -, -⟩ := hr.lenform
  obtain ⟨ea, ec, rfl, -, -⟩ := he.lenform
  obtain ⟨va, vc, rfl, hlc, hcm⟩ := hv.1.lenform
  have V0 := Lib.hid hv
  have R0 := Lib.hid hr
  have E0 := Lib.hid he
  obtain ⟨w1, hw1⟩ : ∃ w1, w1 = w.alloc (.cells #[.int .i64 n, .int .i64 l, .slice va us.length vc] 82) := ⟨_, rfl⟩
  obtain ⟨w2, hw2⟩ : ∃ w2, w2 = w1.alloc (recObj sc (.slice ra rows.length rc) (.slice ea ents.length ec)) := ⟨_, rfl⟩
  obtain ⟨w3, hw3⟩ : ∃ w3, w3 = w2.alloc (.cells #[.int .i64 0, .int .i64 0, .slice none 0 0] 82) := ⟨_, rfl⟩
  obtain ⟨W, hW⟩ : ∃ W, W = w3.alloc (.cells #[.int .i64 0, .int .i64 0] 30) := ⟨_, rfl⟩
  have b1 := alloc_below0 w (.cells #[.int .i64 n, .int .i64 l, .slice va us.length vc] 82)
  have k1 := blk_new w (.cells #[.int .i64 n, .int .i64 l, .slice va us.length vc] 82)
  rw [← hw1] at b1 k1
  have b2 := alloc_below0 w1 (recObj sc (.slice ra rows.length rc) (.slice ea ents.length ec))
  have k2 := blk_new w1 (recObj sc (.slice ra rows.length rc) (.slice ea ents.length ec))
  rw [← hw2] at b2 k2
  have b3 := alloc_below0 w2 (.cells #[.int .i64 0, .int .i64 0, .slice none 0 0] 82)
  have k3 := blk_new w2 (.cells #[.int .i64 0, .int .i64 0, .slice none 0 0] 82)
  rw [← hw3] at b3 k3
  have b4 := alloc_below0 w3 (.cells #[.int .i64 0, .int .i64 0] 30)
  have k4 := blk_new w3 (.cells #[.int .i64 0, .int .i64 0] 30)
  rw [← hW] at b4 k4
  have z1 : w1.heap.size = w.heap.size + 1 := by rw [hw1]; simp
  have z2 : w2.heap.size = w.heap.size + 1 + 1 := by rw [hw2]; simp [z1]
  have z3 : w3.heap.size = w.heap.size + 1 + 1 + 1 := by rw [hw3]; simp [z2]
  have B0 := Lib.hid (show Below w.heap.size w W from ((b1.trans (b2.mono b1.size)).trans (b3.mono (by omega))).trans (b4.mono (by omega)))
  have KA := Lib.hid (blk_step (blk_step (blk_step k1 b2) b3) b4)
  have KR := Lib.hid (blk_step (blk_step k2 b3) b4)
  have KZ := Lib.hid (blk_step k3 b4)
  have KX := Lib.hid k4
  rw [z1] at KR
  rw [z2] at KZ
  rw [z3] at KX
  rw [hw3, hw2, hw1] at hW
  simp only [recObj] at hW
  have ZW := Lib.hid (show w.heap.size + 4 ≤ W.heap.size by have := (Array.getElem?_eq_some_iff.1 KX.out).1; omega)
  have V := Lib.hid (show PutsV W (.slice va us.length vc) us from hv.below B0.out)
  obtain ⟨N, hN⟩ : ∃ N, us.length = N := ⟨_, rfl⟩
  have LN := Lib.hid hN
  obtain ⟨nr, hnr⟩ : ∃ n, rows.length = n := ⟨_, rfl⟩
  obtain ⟨ne, hne⟩ : ∃ n, ents.length = n := ⟨_, rfl⟩
  have LR := Lib.hid hnr
  have LE := Lib.hid hne
  unfold maxLen at hcm
  rw [hN] at hW V V0 KA hlc hus ⊢
  rw [hnr] at hW KR R0 ⊢
  rw [hne] at hW KR E0 ⊢
  obtain ⟨ps, hps⟩ : ∃ ps, us.map PuD.pt = ps := ⟨_, rfl⟩
  have P := Lib.hid hps
  rw [hps]
  clear hv hr he b1 b2 b3 b4 k1 k2 k3 k4 z1 z2 z3 hw1 hw2 hw3 hps hN hnr hne
  clear w1 w2 w3
  unfold refA refV recVal
  go_enter Tryd.func33, Tryd.ntmps33
  go_wp2
  rw [← hW]
  clear hW
  go_loopg [7, 8] n (fun r y i wr => ∃ (k : Nat) (e : Int), k + r = n ∧ i = .int .i64 ((k + 1 : Nat) : Int) ∧ y = .int .i64 e ∧ (e = 3 ∨ e = 5) ∧ allocM n l ps = allocGo l ps (n - k) (k + 1) e ∧ Below W.heap.size W wr)
  case atStart => exact ⟨0, 3, by omega, rfl, rfl, .inl rfl, rfl, Below.refl _ _⟩
  case round =>
    obtain ⟨k, e, hk, rfl, rfl, he, hal, hB⟩ := hrel
    have A := Lib.hid (show (e = 3 ∨ e = 5) ∧ allocM n l ps = allocGo l ps (n - k) (k + 1) e ∧ Below W.heap.size W wr ∧ k + gk = n from ⟨he, hal, hB, hk⟩)
    have KA1 := Lib.hid (blk_step KA.out hB)
    have V1 := Lib.hid (V.out.below hB)
    have a0 := blk_cell KA1.out 0
    have a1 := blk_cell KA1.out 1
    have a2 := blk_cell KA1.out 2
    simp only [List.getElem?_toArray, List.getElem?_cons_zero, List.getElem?_cons_succ] at a0 a1 a2
    clear he hal hB
    by_cases hlt : k < n
    · have j1 : ((k + 1 : Nat) : Int) ≤ (n : Int) := by omega
      have hnk := Lib.hid (show n - k = (n - (k + 1)) + 1 by omega)
      have SL := rf_slot n l _ us (k + 1) wr V1.out.1
      unfold refA at SL
      go_wp2_with fail
      refine SL.mono ?_
      rintro ev w3 ⟨rfl, hs⟩
      rw [P.out]
      have B3 := Lib.hid (A.out.2.2.1.trans (hs.mono A.out.2.2.1.size))
      have KA3 := Lib.hid (blk_step KA1.out hs)
      have a0 := cell_step a0 hs
      have a1 := cell_step a1 hs
      have a2 := cell_step a2 hs
      clear hs SL
      cases hst : (slotOf ps (k + 1)).2 with
      | true =>
        have T := Lib.hid (show allocM n l ps = allocGo l ps (n - (k + 1)) (k + 1 + 1) e by rw [A.out.2.1, hnk.out]; exact slot_used hst)
        obtain ⟨g, hgg⟩ : ∃ g, (slotOf ps (k + 1)).1 = g := ⟨_, rfl⟩
        rw [hgg]
        clear hst hgg
        go_wp2
        go_roundg (n - (k + 1))
        case measure => have := A.out.2.2.2; omega
        case rel => exact ⟨k + 1, e, by omega, by go_num, rfl, A.out.1, T.out, B3.out⟩
      | false =>
        by_cases hg : (slotOf ps (k + 1)).1 < l
        · have T := Lib.hid (show allocM n l ps = (k + 1, (slotOf ps (k + 1)).1 + 1, 0) by rw [A.out.2.1, hnk.out]; exact slot_free hst hg)
          obtain ⟨g, hgg⟩ : ∃ g, (slotOf ps (k + 1)).1 = g := ⟨_, rfl⟩
          rw [hgg] at T hg ⊢
          have e1 : (g : Int) < (l : Int) := by omega
          have i1 : IntKind.i64.wrap ((g : Int) + 1) = (g : Int) + 1 := Go.IntWalk.i64_in _ (by omega)
          clear hst hgg
          go_wp2_with fail
          obtain ⟨w0, hw0⟩ : ∃ w0, w0 = w3.alloc (.cells #[.int .i64 ((k : Int) + 1), .int .i64 ((g : Int) + 1)] 30) := ⟨_, rfl⟩
          rw [← hw0]
          have bx := alloc_below0 w3 (.cells #[.int .i64 ((k : Int) + 1), .int .i64 ((g : Int) + 1)] 30)
          have kx := blk_new w3 (.cells #[.int .i64 ((k : Int) + 1), .int .i64 ((g : Int) + 1)] 30)
          rw [← hw0] at bx kx
          have BX := Lib.hid (B3.out.trans (bx.mono B3.out.size))
          have KA0 := Lib.hid (blk_step KA3.out bx)
          have KX0 := Lib.hid kx
          have KR0 := Lib.hid (blk_step KR.out BX.out)
          have V3 := Lib.hid (V.out.below BX.out)
          have HS := Lib.hid (show ∀ w', Below w0.heap.size w0 w' → w'.cell? ⟨w.heap.size, 2, none⟩ = some (.slice va N vc) ∧ w'.cell? ⟨w3.heap.size, 0, none⟩ = some (.int .i64 ((k : Int) + 1)) ∧ w'.cell? ⟨w3.heap.size, 1, none⟩ = some (.int .i64 ((g : Int) + 1)) ∧ w'.cell? ⟨w.heap.size + 1, 0, none⟩ = some (.int .i64 sc.kind) ∧ w'.cell? ⟨w.heap.size + 1, 1, none⟩ = some (.string sc.low) ∧ w'.cell? ⟨w.heap.size + 1, 2, none⟩ = some (.string sc.high) ∧ w'.cell? ⟨w.heap.size + 1, 3, none⟩ = some (.bool sc.unb) ∧ w'.cell? ⟨w.heap.size + 1, 4, none⟩ = some (.int .i64 sc.right) ∧ w'.cell? ⟨w.heap.size + 1, 5, none⟩ = some (.slice ra nr rc) ∧ w'.cell? ⟨w.heap.size + 1, 6, none⟩ = some (.slice ea ne ec) ∧ w'.cell? ⟨w.heap.size + 1, 7, none⟩ = some (.string sc.key) ∧ w'.cell? ⟨w.heap.size + 1, 8, none⟩ = some (.string sc.value) ∧ w'.cell? ⟨w.heap.size + 1, 9, none⟩ = some (.int .i64 sc.page) ∧ w'.cell? ⟨w.heap.size + 1, 10, none⟩ = some (.int .i64 sc.hp) ∧ w'.cell? ⟨w.heap.size + 1, 11, none⟩ = some (.int .i64 sc.hl) ∧ w'.cell? ⟨w.heap.size + 1, 12, none⟩ = some (.string sc.hk) ∧ w'.cell? ⟨w.heap.size + 1, 13, none⟩ = some (.int .i64 sc.ns) ∧ w'.cell? ⟨w.heap.size + 1, 14, none⟩ = some (.int .i64 sc.ng) from fun w' hb => by
            have q0 := blk_step KA0.out hb
            have q1 := blk_step KX0.out hb
            have q2 := blk_step KR0.out hb
            exact ⟨blk_cell q0 2, blk_cell q1 0, blk_cell q1 1, blk_cell q2 0, blk_cell q2 1, blk_cell q2 2, blk_cell q2 3, blk_cell q2 4, blk_cell q2 5, blk_cell q2 6, blk_cell q2 7, blk_cell q2 8, blk_cell q2 9, blk_cell q2 10, blk_cell q2 11, blk_cell q2 12, blk_cell q2 13, blk_cell q2 14⟩)
          have BD := Lib.hid (show Below w0.heap.size w0 w0.drew from (Below.refl _ _).drew)
          clear hw0 bx kx a0 a1 a2 j1 e1 i1
          have ONE := Lib.hid (show ∀ wx : World, SV lPut (wx.alloc (.cells #[.int .i64 ((k : Int) + 1), .int .i64 ((g : Int) + 1), .int .i64 sc.kind, .string sc.low, .string sc.high, .bool sc.unb, .int .i64 sc.right, .slice ra nr rc, .slice ea ne ec, .string sc.key, .string sc.value, .int .i64 sc.page, .int .i64 sc.hp, .int .i64 sc.hl, .string sc.hk, .int .i64 sc.ns, .int .i64 sc.ng, .bool true] 143)) (.slice (some ⟨wx.heap.size, 0, none⟩) 1 1) [⟨k + 1, g + 1, sc, ra, rc, ea, ec, rows, ents, true⟩] from fun wx => by
            have h := (OwnS.lit lPut 0 wx wx.heap.size rfl [⟨k + 1, g + 1, sc, ra, rc, ea, ec, rows, ents, true⟩] (Nat.zero_le _) (by simp [maxLen])).sv
            rw [show (lPut.flat [(⟨k + 1, g + 1, sc, ra, rc, ea, ec, rows, ents, true⟩ : PuD)]).toArray = #[.int .i64 ((k : Int) + 1), .int .i64 ((g : Int) + 1), .int .i64 sc.kind, .string sc.low, .string sc.high, .bool sc.unb, .int .i64 sc.right, .slice ra nr rc, .slice ea ne ec, .string sc.key, .string sc.value, .int .i64 sc.page, .int .i64 sc.hp, .int .i64 sc.hl, .string sc.hk, .int .i64 sc.ns, .int .i64 sc.ng, .bool true] by simp [lPut, Lay.flat, PuD.cells, LR.out, LE.out]] at h
            exact h)
          have NIL := Lib.hid (show ∀ wx : World, w0.heap.size ≤ wx.heap.size → OwnS lPut w0.heap.size (wx.alloc (.cells #[] 143)) (.slice (some ⟨wx.heap.size, 0, none⟩) 0 0) [] from fun wx h => OwnS.lit lPut w0.heap.size wx wx.heap.size rfl [] h (by simp))
          have Z1 := Lib.hid (show (w0.alloc (.cells #[] 143)).heap.size = w0.heap.size + 1 ∧ (w0.alloc (.cells #[.int .i64 ((k : Int) + 1), .int .i64 ((g : Int) + 1), .int .i64 sc.kind, .string sc.low, .string sc.high, .bool sc.unb, .int .i64 sc.right, .slice ra nr rc, .slice ea ne ec, .string sc.key, .string sc.value, .int .i64 sc.page, .int .i64 sc.hp, .int .i64 sc.hl, .string sc.hk, .int .i64 sc.ns, .int .i64 sc.ng, .bool true] 143)).heap.size = w0.heap.size + 1 from ⟨by simp, by simp⟩)
          have b0 := alloc_below0 w0 (.cells #[] 143)
          have b1 := alloc_below0 w0 (.cells #[.int .i64 ((k : Int) + 1), .int .i64 ((g : Int) + 1), .int .i64 sc.kind, .string sc.low, .string sc.high, .bool sc.unb, .int .i64 sc.right, .slice ra nr rc, .slice ea ne ec, .string sc.key, .string sc.value, .int .i64 sc.page, .int .i64 sc.hp, .int .i64 sc.hl, .string sc.hk, .int .i64 sc.ns, .int .i64 sc.ng, .bool true] 143)
          have BW := Lib.hid (show Below w0.heap.size w0 (w0.alloc (.cells #[] 143)) ∧ Below w0.heap.size w0 (w0.alloc (.cells #[.int .i64 ((k : Int) + 1), .int .i64 ((g : Int) + 1), .int .i64 sc.kind, .string sc.low, .string sc.high, .bool sc.unb, .int .i64 sc.right, .slice ra nr rc, .slice ea ne ec, .string sc.key, .string sc.value, .int .i64 sc.page, .int .i64 sc.hp, .int .i64 sc.hl, .string sc.hk, .int .i64 sc.ns, .int .i64 sc.ng, .bool true] 143)) ∧ Below w0.heap.size w0 ((w0.alloc (.cells #[] 143)).alloc (.cells #[.int .i64 ((k : Int) + 1), .int .i64 ((g : Int) + 1), .int .i64 sc.kind, .string sc.low, .string sc.high, .bool sc.unb, .int .i64 sc.right, .slice ra nr rc, .slice ea ne ec, .string sc.key, .string sc.value, .int .i64 sc.page, .int .i64 sc.hp, .int .i64 sc.hl, .string sc.hk, .int .i64 sc.ns, .int .i64 sc.ng, .bool true] 143)) ∧ Below w0.heap.size w0 ((w0.alloc (.cells #[.int .i64 ((k : Int) + 1), .int .i64 ((g : Int) + 1), .int .i64 sc.kind, .string sc.low, .string sc.high, .bool sc.unb, .int .i64 sc.right, .slice ra nr rc, .slice ea ne ec, .string sc.key, .string sc.value, .int .i64 sc.page, .int .i64 sc.hp, .int .i64 sc.hl, .string sc.hk, .int .i64 sc.ns, .int .i64 sc.ng, .bool true] 143)).alloc (.cells #[] 143)) from ⟨b0, b1, b0.trans ((alloc_below0 _ _).mono b0.size), b1.trans ((alloc_below0 _ _).mono b1.size)⟩)
          clear b0 b1
          refine AnyBut.region (fun w' => w'.cell? ⟨w.heap.size, 2, none⟩ = some (.slice va N vc) ∧ w'.cell? ⟨w3.heap.size, 0, none⟩ = some (.int .i64 ((k : Int) + 1)) ∧ w'.cell? ⟨w3.heap.size, 1, none⟩ = some (.int .i64 ((g : Int) + 1)) ∧ w'.cell? ⟨w.heap.size + 1, 0, none⟩ = some (.int .i64 sc.kind) ∧ w'.cell? ⟨w.heap.size + 1, 1, none⟩ = some (.string sc.low) ∧ w'.cell? ⟨w.heap.size + 1, 2, none⟩ = some (.string sc.high) ∧ w'.cell? ⟨w.heap.size + 1, 3, none⟩ = some (.bool sc.unb) ∧ w'.cell? ⟨w.heap.size + 1, 4, none⟩ = some (.int .i64 sc.right) ∧ w'.cell? ⟨w.heap.size + 1, 5, none⟩ = some (.slice ra nr rc) ∧ w'.cell? ⟨w.heap.size + 1, 6, none⟩ = some (.slice ea ne ec) ∧ w'.cell? ⟨w.heap.size + 1, 7, none⟩ = some (.string sc.key) ∧ w'.cell? ⟨w.heap.size + 1, 8, none⟩ = some (.string sc.value) ∧ w'.cell? ⟨w.heap.size + 1, 9, none⟩ = some (.int .i64 sc.page) ∧ w'.cell? ⟨w.heap.size + 1, 10, none⟩ = some (.int .i64 sc.hp) ∧ w'.cell? ⟨w.heap.size + 1, 11, none⟩ = some (.int .i64 sc.hl) ∧ w'.cell? ⟨w.heap.size + 1, 12, none⟩ = some (.string sc.hk) ∧ w'.cell? ⟨w.heap.size + 1, 13, none⟩ = some (.int .i64 sc.ns) ∧ w'.cell? ⟨w.heap.size + 1, 14, none⟩ = some (.int .i64 sc.ng)) 10 (by kernel_rfl) ?_
          refine AnyBut.take (i := 1) (oi := ⟨some 37, _, _, _, _, none⟩) (v := ?v1) rfl (by kernel_rfl) (by kernel_rfl) (by kernel_rfl) (by kernel_rfl) (fun _ _ _ h => h) (Or.inl ⟨by rfl, ?hy1⟩) (HS.out _ BD.out) ?rest1
          case hy1 => (intro w hSw; go_simp; try (with_reducible rfl))
          simp only [Act.put, List.setIfInBounds_toArray, List.set_cons_zero, List.set_cons_succ]
          refine AnyBut.take (i := 2) (oi := ⟨some 38, _, _, _, _, none⟩) (v := ?v2) rfl (by kernel_rfl) (by kernel_rfl) (by kernel_rfl) (by kernel_rfl) (fun _ _ _ h => h) (Or.inl ⟨by rfl, ?hy2⟩) (HS.out _ BD.out) ?rest2
          case hy2 => (intro w hSw; go_simp; try (with_reducible rfl))
          simp only [Act.put, List.setIfInBounds_toArray, List.set_cons_zero, List.set_cons_succ]
          refine AnyBut.take (i := 4) (oi := ⟨some 40, _, _, _, _, none⟩) (v := ?v4) rfl (by kernel_rfl) (by kernel_rfl) (by kernel_rfl) (by kernel_rfl) (fun _ _ _ h => h) (Or.inl ⟨by rfl, ?hy4⟩) (HS.out _ BD.out) ?rest4
          case hy4 => (intro w hSw; go_simp; try (with_reducible rfl))
          simp only [Act.put, List.setIfInBounds_toArray, List.set_cons_zero, List.set_cons_succ]
          refine AnyBut.take (i := 5) (oi := ⟨some 41, _, _, _, _, none⟩) (v := ?v5) rfl (by kernel_rfl) (by kernel_rfl) (by kernel_rfl) (by kernel_rfl) (fun _ _ _ h => h) (Or.inl ⟨by rfl, ?hy5⟩) (HS.out _ BD.out) ?rest5
          case hy5 => (intro w hSw; go_simp; try (with_reducible rfl))
          simp only [Act.put, List.setIfInBounds_toArray, List.set_cons_zero, List.set_cons_succ]
          refine AnyBut.take (i := 6) (oi := ⟨some 42, _, _, _, _, none⟩) (v := ?v6) rfl (by kernel_rfl) (by kernel_rfl) (by kernel_rfl) (by kernel_rfl) (fun _ _ _ h => h) (Or.inl ⟨by rfl, ?hy6⟩) (HS.out _ BD.out) ?rest6
          case hy6 => (intro w hSw; go_simp; try (with_reducible rfl))
          simp only [Act.put, List.setIfInBounds_toArray, List.set_cons_zero, List.set_cons_succ]
          refine AnyBut.two (i := 0) (j := 7) (o := ⟨some 36, _, _, _, _, none⟩) (u := ⟨some 43, _, _, _, _, none⟩) (by kernel_rfl) rfl rfl (fun K hK => ?_) (fun K hK => ?_)
          rotate_left
          go_simp
          refine hK.out _ _ (fun _ => HS.out _ (ar_below_drew BW.out.2.1)) ?_
          clear hK K
          try simp only [Act.put, List.setIfInBounds_toArray, List.set_cons_zero, List.set_cons_succ]
          refine AnyBut.one (i := 0) (o := ⟨some 36, _, _, _, _, none⟩) (by kernel_rfl) rfl (fun K hK => ?_)
          go_simp
          refine hK.out _ _ (fun _ => HS.out _ (ar_below_drew BW.out.2.2.2)) ?_
          clear hK K
          try simp only [Act.put, List.setIfInBounds_toArray, List.set_cons_zero, List.set_cons_succ]
          refine AnyBut.one (i := 3) (o := ⟨some 39, _, _, _, _, none⟩) (by kernel_rfl) rfl (fun K hK => ?_)
          refine step_appS lPut 80 Tryd.underlying80 lPut_known (by decide) (by decide) rfl (.tmp 36) (.tmp 38) rfl w0.heap.size rfl rfl (by have h := (NIL.out (w0.alloc (.cells #[.int .i64 ((k : Int) + 1), .int .i64 ((g : Int) + 1), .int .i64 sc.kind, .string sc.low, .string sc.high, .bool sc.unb, .int .i64 sc.right, .slice ra nr rc, .slice ea ne ec, .string sc.key, .string sc.value, .int .i64 sc.page, .int .i64 sc.hp, .int .i64 sc.hl, .string sc.hk, .int .i64 sc.ns, .int .i64 sc.ng, .bool true] 143)) (by rw [Z1.out.2]; omega)).drew; rw [Z1.out.2] at h; exact h) (V3.out.1.below (ar_below_drew BW.out.2.2.2)) (by have := LN.out; simp; omega) ((ar_below_drew BW.out.2.2.2)).size ?_
          intro v2 w4 ho hg
          have P2 := Lib.hid (ar_grown_below (ar_below_drew BW.out.2.2.2) (by have h := (NIL.out (w0.alloc (.cells #[.int .i64 ((k : Int) + 1), .int .i64 ((g : Int) + 1), .int .i64 sc.kind, .string sc.low, .string sc.high, .bool sc.unb, .int .i64 sc.right, .slice ra nr rc, .slice ea ne ec, .string sc.key, .string sc.value, .int .i64 sc.page, .int .i64 sc.hp, .int .i64 sc.hl, .string sc.hk, .int .i64 sc.ns, .int .i64 sc.ng, .bool true] 143)) (by rw [Z1.out.2]; omega)).drew; rw [Z1.out.2] at h; exact h) hg ((ar_below_drew BW.out.2.2.2)).size)
          have R2 := Lib.hid (((ONE.out w0).below (alloc_below0 _ (.cells #[] 143))).drew.kept (Kept.of_grown hg) (out_ne (by omega)))
          rw [List.nil_append] at ho
          have O2 := Lib.hid ho
          clear ho hg
          refine hK.out _ _ (fun _ => HS.out _ P2.out.1) ?_
          clear hK K
          try simp only [Act.put, List.setIfInBounds_toArray, List.set_cons_zero, List.set_cons_succ]
          refine AnyBut.one (i := 8) (o := ⟨some 44, _, _, _, _, none⟩) (by kernel_rfl) rfl (fun K hK => ?_)
          refine step_appS lPut 80 Tryd.underlying80 lPut_known (by decide) (by decide) rfl (.tmp 39) (.tmp 43) rfl w0.heap.size rfl rfl O2.out R2.out (by have := LN.out; simp; omega) (P2.out.1).size ?_
          intro v3 w5 ho hg
          have P3 := Lib.hid (ar_grown_below P2.out.1 O2.out hg (P2.out.1).size)
          have O3 := Lib.hid ho
          clear ho hg
          refine hK.out _ _ (fun _ => HS.out _ P3.out.1) ?_
          clear hK K
          try simp only [Act.put, List.setIfInBounds_toArray, List.set_cons_zero, List.set_cons_succ]
          refine AnyBut.one (i := 9) (o := ⟨some 45, _, _, _, _, none⟩) (by kernel_rfl) rfl (fun K hK => ?_)
          go_simp
          refine hK.out _ _ (fun _ => HS.out _ P3.out.1) ?_
          clear hK K
          try simp only [Act.put, List.setIfInBounds_toArray, List.set_cons_zero, List.set_cons_succ]
          obtain ⟨gg, cap, rfl, h1, h2, h3, h4⟩ := O3.out.form (by simp)
          obtain ⟨NN, hNN⟩ : ∃ NN, (us ++ [(⟨k + 1, g + 1, sc, ra, rc, ea, ec, rows, ents, true⟩ : PuD)]).length = NN := ⟨_, rfl⟩
          have GN := Lib.hid hNN
          rw [hNN] at O3 h4 ⊢
          clear hNN
          have KA5 := blk_step KA0.out P3.out.1
          have c5 := blk_cell KA5 2
          have f5 := blk_free KA5 2
          simp only [List.getElem?_toArray, List.getElem?_cons_zero, List.getElem?_cons_succ] at c5
          have KA6 := Lib.hid (blk_set KA5 2 (.slice (some ⟨gg, 0, none⟩) NN cap))
          have G := Lib.hid (show w0.heap.size ≤ gg from h1)
          clear h1 h2 h3 h4 KA5
          refine AnyBut.one (i := 10) (o := ⟨none, _, _, _, _, none⟩) (by kernel_rfl) rfl (fun K hK => ?_)
          go_simp
          refine hK.out _ _ (fun h => absurd rfl h) ?_
          clear hK K c5 f5
          try simp only [Act.put, List.setIfInBounds_toArray, List.set_cons_zero, List.set_cons_succ]
          refine AnyBut.done (by kernel_rfl) ?_ _
          rotate_left
          go_simp
          refine hK.out _ _ (fun _ => HS.out _ (ar_below_drew BW.out.1)) ?_
          clear hK K
          try simp only [Act.put, List.setIfInBounds_toArray, List.set_cons_zero, List.set_cons_succ]
          refine AnyBut.two (i := 3) (j := 7) (o := ⟨some 39, _, _, _, _, none⟩) (u := ⟨some 43, _, _, _, _, none⟩) (by kernel_rfl) rfl rfl (fun K hK => ?_) (fun K hK => ?_)
          rotate_left
          go_simp
          refine hK.out _ _ (fun _ => HS.out _ (ar_below_drew BW.out.2.2.1)) ?_
          clear hK K
          try simp only [Act.put, List.setIfInBounds_toArray, List.set_cons_zero, List.set_cons_succ]
          refine AnyBut.one (i := 3) (o := ⟨some 39, _, _, _, _, none⟩) (by kernel_rfl) rfl (fun K hK => ?_)
          refine step_appS lPut 80 Tryd.underlying80 lPut_known (by decide) (by decide) rfl (.tmp 36) (.tmp 38) rfl w0.heap.size rfl rfl ((NIL.out w0 (Nat.le_refl _)).below (alloc_below0 _ _)).drew (V3.out.1.below (ar_below_drew BW.out.2.2.1)) (by have := LN.out; simp; omega) ((ar_below_drew BW.out.2.2.1)).size ?_
          intro v2 w4 ho hg
          have P2 := Lib.hid (ar_grown_below (ar_below_drew BW.out.2.2.1) ((NIL.out w0 (Nat.le_refl _)).below (alloc_below0 _ _)).drew hg ((ar_below_drew BW.out.2.2.1)).size)
          have R2 := Lib.hid (((ONE.out (w0.alloc (.cells #[] 143))).drew).kept (Kept.of_grown hg) (out_ne (by rw [Z1.out.1]; omega)))
          rw [List.nil_append] at ho
          have O2 := Lib.hid ho
          clear ho hg
          refine hK.out _ _ (fun _ => HS.out _ P2.out.1) ?_
          clear hK K
          try simp only [Act.put, List.setIfInBounds_toArray, List.set_cons_zero, List.set_cons_succ]
          rw [Z1.out.1] at R2
          refine AnyBut.one (i := 8) (o := ⟨some 44, _, _, _, _, none⟩) (by kernel_rfl) rfl (fun K hK => ?_)
          refine step_appS lPut 80 Tryd.underlying80 lPut_known (by decide) (by decide) rfl (.tmp 39) (.tmp 43) rfl w0.heap.size rfl rfl O2.out R2.out (by have := LN.out; simp; omega) (P2.out.1).size ?_
          intro v3 w5 ho hg
          have P3 := Lib.hid (ar_grown_below P2.out.1 O2.out hg (P2.out.1).size)
          have O3 := Lib.hid ho
          clear ho hg
          refine hK.out _ _ (fun _ => HS.out _ P3.out.1) ?_
          clear hK K
          try simp only [Act.put, List.setIfInBounds_toArray, List.set_cons_zero, List.set_cons_succ]
          refine AnyBut.one (i := 9) (o := ⟨some 45, _, _, _, _, none⟩) (by kernel_rfl) rfl (fun K hK => ?_)
          go_simp
          refine hK.out _ _ (fun _ => HS.out _ P3.out.1) ?_
          clear hK K
          try simp only [Act.put, List.setIfInBounds_toArray, List.set_cons_zero, List.set_cons_succ]
          obtain ⟨gg, cap, rfl, h1, h2, h3, h4⟩ := O3.out.form (by simp)
          obtain ⟨NN, hNN⟩ : ∃ NN, (us ++ [(⟨k + 1, g + 1, sc, ra, rc, ea, ec, rows, ents, true⟩ : PuD)]).length = NN := ⟨_, rfl⟩
          have GN := Lib.hid hNN
          rw [hNN] at O3 h4 ⊢
          clear hNN
          have KA5 := blk_step KA0.out P3.out.1
          have c5 := blk_cell KA5 2
          have f5 := blk_free KA5 2
          simp only [List.getElem?_toArray, List.getElem?_cons_zero, List.getElem?_cons_succ] at c5
          have KA6 := Lib.hid (blk_set KA5 2 (.slice (some ⟨gg, 0, none⟩) NN cap))
          have G := Lib.hid (show w0.heap.size ≤ gg from h1)
          clear h1 h2 h3 h4 KA5
          refine AnyBut.one (i := 10) (o := ⟨none, _, _, _, _, none⟩) (by kernel_rfl) rfl (fun K hK => ?_)
          go_simp
          refine hK.out _ _ (fun h => absurd rfl h) ?_
          clear hK K c5 f5
          try simp only [Act.put, List.setIfInBounds_toArray, List.set_cons_zero, List.set_cons_succ]
          refine AnyBut.done (by kernel_rfl) ?_ _
          rotate_left 2
          refine step_appS lPut 80 Tryd.underlying80 lPut_known (by decide) (by decide) rfl (.tmp 36) (.tmp 38) rfl w0.heap.size rfl rfl (NIL.out w0 (Nat.le_refl _)).drew (V3.out.1.below (ar_below_drew BW.out.1)) (by have := LN.out; simp; omega) ((ar_below_drew BW.out.1)).size ?_
          intro v2 w4 ho hg
          have P2 := Lib.hid (ar_grown_below (ar_below_drew BW.out.1) (NIL.out w0 (Nat.le_refl _)).drew hg ((ar_below_drew BW.out.1)).size)
          rw [List.nil_append] at ho
          have O2 := Lib.hid ho
          clear ho hg
          refine hK.out _ _ (fun _ => HS.out _ P2.out.1) ?_
          clear hK K
          try simp only [Act.put, List.setIfInBounds_toArray, List.set_cons_zero, List.set_cons_succ]
          refine AnyBut.one (i := 7) (o := ⟨some 43, _, _, _, _, none⟩) (by kernel_rfl) rfl (fun K hK => ?_)
          go_simp
          have b4 := alloc_below0 w4 (.cells #[.int .i64 ((k : Int) + 1), .int .i64 ((g : Int) + 1), .int .i64 sc.kind, .string sc.low, .string sc.high, .bool sc.unb, .int .i64 sc.right, .slice ra nr rc, .slice ea ne ec, .string sc.key, .string sc.value, .int .i64 sc.page, .int .i64 sc.hp, .int .i64 sc.hl, .string sc.hk, .int .i64 sc.ns, .int .i64 sc.ng, .bool true] 143)
          have P4 := Lib.hid (show Below w0.heap.size w0 (w4.alloc (.cells #[.int .i64 ((k : Int) + 1), .int .i64 ((g : Int) + 1), .int .i64 sc.kind, .string sc.low, .string sc.high, .bool sc.unb, .int .i64 sc.right, .slice ra nr rc, .slice ea ne ec, .string sc.key, .string sc.value, .int .i64 sc.page, .int .i64 sc.hp, .int .i64 sc.hl, .string sc.hk, .int .i64 sc.ns, .int .i64 sc.ng, .bool true] 143)) from P2.out.1.trans (b4.mono P2.out.2))
          have OB := Lib.hid (O2.out.below b4)
          clear b4
          refine hK.out _ _ (fun _ => HS.out _ P4.out) ?_
          clear hK K
          try simp only [Act.put, List.setIfInBounds_toArray, List.set_cons_zero, List.set_cons_succ]
          refine AnyBut.one (i := 8) (o := ⟨some 44, _, _, _, _, none⟩) (by kernel_rfl) rfl (fun K hK => ?_)
          refine step_appS lPut 80 Tryd.underlying80 lPut_known (by decide) (by decide) rfl (.tmp 39) (.tmp 43) rfl w0.heap.size rfl rfl OB.out (ONE.out w4) (by have := LN.out; simp; omega) (P4.out).size ?_
          intro v3 w5 ho hg
          have P3 := Lib.hid (ar_grown_below P4.out OB.out hg (P4.out).size)
          have O3 := Lib.hid ho
          clear ho hg
          refine hK.out _ _ (fun _ => HS.out _ P3.out.1) ?_
          clear hK K
          try simp only [Act.put, List.setIfInBounds_toArray, List.set_cons_zero, List.set_cons_succ]
          refine AnyBut.one (i := 9) (o := ⟨some 45, _, _, _, _, none⟩) (by kernel_rfl) rfl (fun K hK => ?_)
          go_simp
          refine hK.out _ _ (fun _ => HS.out _ P3.out.1) ?_
          clear hK K
          try simp only [Act.put, List.setIfInBounds_toArray, List.set_cons_zero, List.set_cons_succ]
          obtain ⟨gg, cap, rfl, h1, h2, h3, h4⟩ := O3.out.form (by simp)
          obtain ⟨NN, hNN⟩ : ∃ NN, (us ++ [(⟨k + 1, g + 1, sc, ra, rc, ea, ec, rows, ents, true⟩ : PuD)]).length = NN := ⟨_, rfl⟩
          have GN := Lib.hid hNN
          rw [hNN] at O3 h4 ⊢
          clear hNN
          have KA5 := blk_step KA0.out P3.out.1
          have c5 := blk_cell KA5 2
          have f5 := blk_free KA5 2
          simp only [List.getElem?_toArray, List.getElem?_cons_zero, List.getElem?_cons_succ] at c5
          have KA6 := Lib.hid (blk_set KA5 2 (.slice (some ⟨gg, 0, none⟩) NN cap))
          have G := Lib.hid (show w0.heap.size ≤ gg from h1)
          clear h1 h2 h3 h4 KA5
          refine AnyBut.one (i := 10) (o := ⟨none, _, _, _, _, none⟩) (by kernel_rfl) rfl (fun K hK => ?_)
          go_simp
          refine hK.out _ _ (fun h => absurd rfl h) ?_
          clear hK K c5 f5
          try simp only [Act.put, List.setIfInBounds_toArray, List.set_cons_zero, List.set_cons_succ]
          refine AnyBut.done (by kernel_rfl) ?_ _
          · have Y0 := Lib.hid (BX.out.trans (P3.out.1.mono BX.out.size))
            have W3 := Lib.hid (show w.heap.size + 4 ≤ w3.heap.size from Nat.le_trans ZW.out B3.out.size)
            have W0 := Lib.hid (show w.heap.size + 4 ≤ w0.heap.size from Nat.le_trans ZW.out BX.out.size)
            obtain ⟨w7, hw7⟩ : ∃ w7, w7 = (w5.setCell ⟨w.heap.size, 2, none⟩ (.slice (some ⟨gg, 0, none⟩) NN cap)).drew := ⟨_, rfl⟩
            have KA7 : w7.heap[w.heap.size]? = some (.cells #[.int .i64 n, .int .i64 l, (.slice (some ⟨gg, 0, none⟩) NN cap)] 82 (0, 0)) := by rw [hw7]; exact KA6.out
            have KX7 : w7.heap[w3.heap.size]? = some (.cells #[.int .i64 ((k : Int) + 1), .int .i64 ((g : Int) + 1)] 30 (0, 0)) := by rw [hw7]; exact blk_off (blk_step KX0.out P3.out.1) (b := w.heap.size) (by have := W3.out; omega) 2 (.slice (some ⟨gg, 0, none⟩) NN cap)
            have KZ7 : w7.heap[w.heap.size + 1 + 1]? = some (.cells #[.int .i64 0, .int .i64 0, .slice none 0 0] 82 (0, 0)) := by rw [hw7]; exact blk_off (blk_step KZ.out Y0.out) (b := w.heap.size) (by omega) 2 (.slice (some ⟨gg, 0, none⟩) NN cap)
            have KR7 : w7.heap[w.heap.size + 1 + 1 + 1]? = some (.cells #[.int .i64 0, .int .i64 0] 30 (0, 0)) := by rw [hw7]; exact blk_off (blk_step KX.out Y0.out) (b := w.heap.size) (by omega) 2 (.slice (some ⟨gg, 0, none⟩) NN cap)
            have B7 := Lib.hid (show Below w.heap.size w w7 by rw [hw7]; exact (below_set (B0.out.trans (Y0.out.mono B0.out.size)) (b := w.heap.size) (Nat.le_refl _) 2 (.slice (some ⟨gg, 0, none⟩) NN cap)).drew)
            have KK := Lib.hid (show Kept (fun j => j < w0.heap.size) w5 w7 by rw [hw7]; exact (((Kept.refl (fun j => j = w.heap.size) w5).setCell 2 (.slice (some ⟨gg, 0, none⟩) NN cap)).wide (fun j _ h => by have := W0.out; omega)).drew)
            have d0 := blk_cell KA7 0
            have d1 := blk_cell KA7 1
            have d2 := blk_cell KA7 2
            have x0 := blk_cell KX7 0
            have x1 := blk_cell KX7 1
            simp only [List.getElem?_toArray, List.getElem?_cons_zero, List.getElem?_cons_succ] at d0 d1 d2 x0 x1
            obtain ⟨s0, s1, s2, s3, s4, s5, s6⟩ := three_facts KZ7 (.int .i64 n) (.int .i64 l) (.slice (some ⟨gg, 0, none⟩) NN cap)
            have KR8 := blk_off (blk_off (blk_off KR7 (b := w.heap.size + 1 + 1) (by have := W3.out; omega) 0 (.int .i64 n)) (b := w.heap.size + 1 + 1) (by have := W3.out; omega) 1 (.int .i64 l)) (b := w.heap.size + 1 + 1) (by have := W3.out; omega) 2 (.slice (some ⟨gg, 0, none⟩) NN cap)
            have KA8 := Lib.hid (blk_off (blk_off (blk_off KA7 (b := w.heap.size + 1 + 1) (by have := W3.out; omega) 0 (.int .i64 n)) (b := w.heap.size + 1 + 1) (by have := W3.out; omega) 1 (.int .i64 l)) (b := w.heap.size + 1 + 1) (by have := W3.out; omega) 2 (.slice (some ⟨gg, 0, none⟩) NN cap))
            have KX8 := Lib.hid (blk_off (blk_off (blk_off KX7 (b := w.heap.size + 1 + 1) (by have := W3.out; omega) 0 (.int .i64 n)) (b := w.heap.size + 1 + 1) (by have := W3.out; omega) 1 (.int .i64 l)) (b := w.heap.size + 1 + 1) (by have := W3.out; omega) 2 (.slice (some ⟨gg, 0, none⟩) NN cap))
            obtain ⟨t0, t1, t2, t3, t4⟩ := two_facts KR8 (.int .i64 ((k : Int) + 1)) (.int .i64 ((g : Int) + 1))
            have KA9 := Lib.hid (blk_off (blk_off KA8.out (b := w.heap.size + 1 + 1 + 1) (by have := W3.out; omega) 0 (.int .i64 ((k : Int) + 1))) (b := w.heap.size + 1 + 1 + 1) (by have := W3.out; omega) 1 (.int .i64 ((g : Int) + 1)))
            have KX9 := Lib.hid (blk_off (blk_off KX8.out (b := w.heap.size + 1 + 1 + 1) (by have := W3.out; omega) 0 (.int .i64 ((k : Int) + 1))) (b := w.heap.size + 1 + 1 + 1) (by have := W3.out; omega) 1 (.int .i64 ((g : Int) + 1)))
            have S7 := Lib.hid (blk_off (blk_off s6 (b := w.heap.size + 1 + 1 + 1) (by have := W3.out; omega) 0 (.int .i64 ((k : Int) + 1))) (b := w.heap.size + 1 + 1 + 1) (by have := W3.out; omega) 1 (.int .i64 ((g : Int) + 1)))
            have T4 := Lib.hid t4
            have E7 := Lib.hid hw7
            clear s6 t4 KA7 KX7 KZ7 KR7 KR8 hw7
            go_wp2_with fail
            refine AnyBut.region (fun w' => w'.cell? ⟨w.heap.size, 0, none⟩ = some (.int .i64 n) ∧ w'.cell? ⟨w.heap.size, 1, none⟩ = some (.int .i64 l) ∧ w'.cell? ⟨w.heap.size, 2, none⟩ = some (.slice (some ⟨gg, 0, none⟩) NN cap) ∧ w'.cell? ⟨w3.heap.size, 0, none⟩ = some (.int .i64 ((k : Int) + 1)) ∧ w'.cell? ⟨w3.heap.size, 1, none⟩ = some (.int .i64 ((g : Int) + 1))) 4 (by kernel_rfl) ?_
            rw [← E7.out]
            refine AnyBut.take (i := 0) (oi := ⟨some 46, _, _, _, _, none⟩) (v := ?vx0) rfl (by kernel_rfl) (by kernel_rfl) (by kernel_rfl) (by kernel_rfl) (fun _ _ _ h => h) (Or.inl ⟨by rfl, ?hyx0⟩) ⟨d0, d1, d2, x0, x1⟩ ?restx0
            case hyx0 => (intro w hSw; go_simp; try (with_reducible rfl))
            simp only [Act.put, List.setIfInBounds_toArray, List.set_cons_zero, List.set_cons_succ]
            refine AnyBut.take (i := 1) (oi := ⟨some 47, _, _, _, _, none⟩) (v := ?vx1) rfl (by kernel_rfl) (by kernel_rfl) (by kernel_rfl) (by kernel_rfl) (fun _ _ _ h => h) (Or.inl ⟨by rfl, ?hyx1⟩) ⟨d0, d1, d2, x0, x1⟩ ?restx1
            case hyx1 => (intro w hSw; go_simp; try (with_reducible rfl))
            simp only [Act.put, List.setIfInBounds_toArray, List.set_cons_zero, List.set_cons_succ]
            clear d0 d1 d2 x0 x1
            refine AnyBut.one (i := 2) (o := ⟨none, _, _, _, _, none⟩) (by kernel_rfl) rfl (fun K hK => ?_)
            go_simp
            refine hK.out _ _ (fun _ => ⟨blk_cell KA8.out 0, blk_cell KA8.out 1, blk_cell KA8.out 2, blk_cell KX8.out 0, blk_cell KX8.out 1⟩) ?_
            clear hK K
            try simp only [Act.put, List.setIfInBounds_toArray, List.set_cons_zero, List.set_cons_succ]
            refine AnyBut.one (i := 3) (o := ⟨none, _, _, _, _, none⟩) (by kernel_rfl) rfl (fun K hK => ?_)
            go_simp
            refine hK.out _ _ (fun _ => ⟨blk_cell KA9.out 0, blk_cell KA9.out 1, blk_cell KA9.out 2, blk_cell KX9.out 0, blk_cell KX9.out 1⟩) ?_
            clear hK K
            try simp only [Act.put, List.setIfInBounds_toArray, List.set_cons_zero, List.set_cons_succ]
            refine AnyBut.one (i := 4) (o := ⟨some 6, _, _, _, _, none⟩) (by kernel_rfl) rfl (fun K hK => ?_)
            go_simp
            refine hK.out _ _ (fun h => absurd rfl h) ?_
            clear hK K s0 s1 s2 s3 s4 s5 t0 t1 t2 t3
            try simp only [Act.put, List.setIfInBounds_toArray, List.set_cons_zero, List.set_cons_succ]
            refine AnyBut.done (by kernel_rfl) ?_ _
            go_wp2
            refine rf_alloc_end (blk_range (cs := arCells n l (.slice (some ⟨gg, 0, none⟩) NN cap)) S7.out) (blk_range (cs := [.int .i64 ((k : Int) + 1), .int .i64 ((g : Int) + 1)]) T4.out) rfl rfl rfl rfl (by kernel_rfl) (by kernel_rfl) ?_
            have BE := Lib.hid (below_set (below_set (below_set (below_set (below_set B7.out (b := w.heap.size + 1 + 1) (by omega) 0 (.int .i64 n)) (b := w.heap.size + 1 + 1) (by omega) 1 (.int .i64 l)) (b := w.heap.size + 1 + 1) (by omega) 2 (.slice (some ⟨gg, 0, none⟩) NN cap)) (b := w.heap.size + 1 + 1 + 1) (by omega) 0 (.int .i64 ((k : Int) + 1))) (b := w.heap.size + 1 + 1 + 1) (by omega) 1 (.int .i64 ((g : Int) + 1)))
            have k2 := (((Kept.refl (fun j => j = w.heap.size + 1 + 1) w7).setCell 0 (.int .i64 n)).setCell 1 (.int .i64 l)).setCell 2 (.slice (some ⟨gg, 0, none⟩) NN cap)
            have k3 := ((Kept.refl (fun j => j = w.heap.size + 1 + 1 + 1) (((w7.setCell ⟨w.heap.size + 1 + 1, 0, none⟩ (.int .i64 n)).setCell ⟨w.heap.size + 1 + 1, 1, none⟩ (.int .i64 l)).setCell ⟨w.heap.size + 1 + 1, 2, none⟩ (.slice (some ⟨gg, 0, none⟩) NN cap))).setCell 0 (.int .i64 ((k : Int) + 1))).setCell 1 (.int .i64 ((g : Int) + 1))
            have k4 := Kept.trans2 (U := fun j => j < w0.heap.size) (Kept.trans2 (U := fun j => j < w0.heap.size) KK.out k2 (fun x h => h) (fun x h => by have := W0.out; omega)) k3 (fun x h => h) (fun x h => by have := W0.out; omega)
            refine ⟨(.slice (some ⟨gg, 0, none⟩) NN cap), us ++ [(⟨k + 1, g + 1, sc, ra, rc, ea, ec, rows, ents, true⟩ : PuD)], by rw [T.out]; rfl, ⟨(O3.out.kept k4 (O3.out.out fun _ h => h)).sv, fun e he => ?_⟩, by rw [List.map_append, P.out]; unfold putM; rw [T.out]; rfl, by rw [List.length_append, LN.out]; exact Nat.le_refl _, ⟨.inl ((O3.out.kept k4 (O3.out.out fun _ h => h)).mono (b' := w.heap.size) (by have := W0.out; omega)), fun e he => ?_⟩, BE.out⟩
            · rcases List.mem_append.1 he with he | he
              · exact ⟨(V0.out.2 e he).1.below BE.out, (V0.out.2 e he).2.below BE.out⟩
              · rw [List.mem_singleton] at he
                subst he
                exact ⟨by have h := R0.out.below BE.out; rw [← LR.out] at h; exact h, by have h := E0.out.below BE.out; rw [← LE.out] at h; exact h⟩
            · rcases List.mem_append.1 he with he | he
              · exact .inl ⟨e, he, Heir.refl e⟩
              · rw [List.mem_singleton] at he
                subst he
                refine .inr ⟨?_, rfl, rfl⟩
                unfold PuD.rv PuD.en
                simp only [LR.out, LE.out]
          · have Y0 := Lib.hid (BX.out.trans (P3.out.1.mono BX.out.size))
            have W3 := Lib.hid (show w.heap.size + 4 ≤ w3.heap.size from Nat.le_trans ZW.out B3.out.size)
            have W0 := Lib.hid (show w.heap.size + 4 ≤ w0.heap.size from Nat.le_trans ZW.out BX.out.size)
            obtain ⟨w7, hw7⟩ : ∃ w7, w7 = (w5.setCell ⟨w.heap.size, 2, none⟩ (.slice (some ⟨gg, 0, none⟩) NN cap)).drew := ⟨_, rfl⟩
            have KA7 : w7.heap[w.heap.size]? = some (.cells #[.int .i64 n, .int .i64 l, (.slice (some ⟨gg, 0, none⟩) NN cap)] 82 (0, 0)) := by rw [hw7]; exact KA6.out
            have KX7 : w7.heap[w3.heap.size]? = some (.cells #[.int .i64 ((k : Int) + 1), .int .i64 ((g : Int) + 1)] 30 (0, 0)) := by rw [hw7]; exact blk_off (blk_step KX0.out P3.out.1) (b := w.heap.size) (by have := W3.out; omega) 2 (.slice (some ⟨gg, 0, none⟩) NN cap)
            have KZ7 : w7.heap[w.heap.size + 1 + 1]? = some (.cells #[.int .i64 0, .int .i64 0, .slice none 0 0] 82 (0, 0)) := by rw [hw7]; exact blk_off (blk_step KZ.out Y0.out) (b := w.heap.size) (by omega) 2 (.slice (some ⟨gg, 0, none⟩) NN cap)
            have KR7 : w7.heap[w.heap.size + 1 + 1 + 1]? = some (.cells #[.int .i64 0, .int .i64 0] 30 (0, 0)) := by rw [hw7]; exact blk_off (blk_step KX.out Y0.out) (b := w.heap.size) (by omega) 2 (.slice (some ⟨gg, 0, none⟩) NN cap)
            have B7 := Lib.hid (show Below w.heap.size w w7 by rw [hw7]; exact (below_set (B0.out.trans (Y0.out.mono B0.out.size)) (b := w.heap.size) (Nat.le_refl _) 2 (.slice (some ⟨gg, 0, none⟩) NN cap)).drew)
            have KK := Lib.hid (show Kept (fun j => j < w0.heap.size) w5 w7 by rw [hw7]; exact (((Kept.refl (fun j => j = w.heap.size) w5).setCell 2 (.slice (some ⟨gg, 0, none⟩) NN cap)).wide (fun j _ h => by have := W0.out; omega)).drew)
            have d0 := blk_cell KA7 0
            have d1 := blk_cell KA7 1
            have d2 := blk_cell KA7 2
            have x0 := blk_cell KX7 0
            have x1 := blk_cell KX7 1
            simp only [List.getElem?_toArray, List.getElem?_cons_zero, List.getElem?_cons_succ] at d0 d1 d2 x0 x1
            obtain ⟨s0, s1, s2, s3, s4, s5, s6⟩ := three_facts KZ7 (.int .i64 n) (.int .i64 l) (.slice (some ⟨gg, 0, none⟩) NN cap)
            have KR8 := blk_off (blk_off (blk_off KR7 (b := w.heap.size + 1 + 1) (by have := W3.out; omega) 0 (.int .i64 n)) (b := w.heap.size + 1 + 1) (by have := W3.out; omega) 1 (.int .i64 l)) (b := w.heap.size + 1 + 1) (by have := W3.out; omega) 2 (.slice (some ⟨gg, 0, none⟩) NN cap)
            have KA8 := Lib.hid (blk_off (blk_off (blk_off KA7 (b := w.heap.size + 1 + 1) (by have := W3.out; omega) 0 (.int .i64 n)) (b := w.heap.size + 1 + 1) (by have := W3.out; omega) 1 (.int .i64 l)) (b := w.heap.size + 1 + 1) (by have := W3.out; omega) 2 (.slice (some ⟨gg, 0, none⟩) NN cap))
            have KX8 := Lib.hid (blk_off (blk_off (blk_off KX7 (b := w.heap.size + 1 + 1) (by have := W3.out; omega) 0 (.int .i64 n)) (b := w.heap.size + 1 + 1) (by have := W3.out; omega) 1 (.int .i64 l)) (b := w.heap.size + 1 + 1) (by have := W3.out; omega) 2 (.slice (some ⟨gg, 0, none⟩) NN cap))
            obtain ⟨t0, t1, t2, t3, t4⟩ := two_facts KR8 (.int .i64 ((k : Int) + 1)) (.int .i64 ((g : Int) + 1))
            have KA9 := Lib.hid (blk_off (blk_off KA8.out (b := w.heap.size + 1 + 1 + 1) (by have := W3.out; omega) 0 (.int .i64 ((k : Int) + 1))) (b := w.heap.size + 1 + 1 + 1) (by have := W3.out; omega) 1 (.int .i64 ((g : Int) + 1)))
            have KX9 := Lib.hid (blk_off (blk_off KX8.out (b := w.heap.size + 1 + 1 + 1) (by have := W3.out; omega) 0 (.int .i64 ((k : Int) + 1))) (b := w.heap.size + 1 + 1 + 1) (by have := W3.out; omega) 1 (.int .i64 ((g : Int) + 1)))
            have S7 := Lib.hid (blk_off (blk_off s6 (b := w.heap.size + 1 + 1 + 1) (by have := W3.out; omega) 0 (.int .i64 ((k : Int) + 1))) (b := w.heap.size + 1 + 1 + 1) (by have := W3.out; omega) 1 (.int .i64 ((g : Int) + 1)))
            have T4 := Lib.hid t4
            have E7 := Lib.hid hw7
            clear s6 t4 KA7 KX7 KZ7 KR7 KR8 hw7
            go_wp2_with fail
            refine AnyBut.region (fun w' => w'.cell? ⟨w.heap.size, 0, none⟩ = some (.int .i64 n) ∧ w'.cell? ⟨w.heap.size, 1, none⟩ = some (.int .i64 l) ∧ w'.cell? ⟨w.heap.size, 2, none⟩ = some (.slice (some ⟨gg, 0, none⟩) NN cap) ∧ w'.cell? ⟨w3.heap.size, 0, none⟩ = some (.int .i64 ((k : Int) + 1)) ∧ w'.cell? ⟨w3.heap.size, 1, none⟩ = some (.int .i64 ((g : Int) + 1))) 4 (by kernel_rfl) ?_
            rw [← E7.out]
            refine AnyBut.take (i := 0) (oi := ⟨some 46, _, _, _, _, none⟩) (v := ?vy0) rfl (by kernel_rfl) (by kernel_rfl) (by kernel_rfl) (by kernel_rfl) (fun _ _ _ h => h) (Or.inl ⟨by rfl, ?hyy0⟩) ⟨d0, d1, d2, x0, x1⟩ ?resty0
            case hyy0 => (intro w hSw; go_simp; try (with_reducible rfl))
            simp only [Act.put, List.setIfInBounds_toArray, List.set_cons_zero, List.set_cons_succ]
            refine AnyBut.take (i := 1) (oi := ⟨some 47, _, _, _, _, none⟩) (v := ?vy1) rfl (by kernel_rfl) (by kernel_rfl) (by kernel_rfl) (by kernel_rfl) (fun _ _ _ h => h) (Or.inl ⟨by rfl, ?hyy1⟩) ⟨d0, d1, d2, x0, x1⟩ ?resty1
            case hyy1 => (intro w hSw; go_simp; try (with_reducible rfl))
            simp only [Act.put, List.setIfInBounds_toArray, List.set_cons_zero, List.set_cons_succ]
            clear d0 d1 d2 x0 x1
            refine AnyBut.one (i := 2) (o := ⟨none, _, _, _, _, none⟩) (by kernel_rfl) rfl (fun K hK => ?_)
            go_simp
            refine hK.out _ _ (fun _ => ⟨blk_cell KA8.out 0, blk_cell KA8.out 1, blk_cell KA8.out 2, blk_cell KX8.out 0, blk_cell KX8.out 1⟩) ?_
            clear hK K
            try simp only [Act.put, List.setIfInBounds_toArray, List.set_cons_zero, List.set_cons_succ]
            refine AnyBut.one (i := 3) (o := ⟨none, _, _, _, _, none⟩) (by kernel_rfl) rfl (fun K hK => ?_)
            go_simp
            refine hK.out _ _ (fun _ => ⟨blk_cell KA9.out 0, blk_cell KA9.out 1, blk_cell KA9.out 2, blk_cell KX9.out 0, blk_cell KX9.out 1⟩) ?_
            clear hK K
            try simp only [Act.put, List.setIfInBounds_toArray, List.set_cons_zero, List.set_cons_succ]
            refine AnyBut.one (i := 4) (o := ⟨some 6, _, _, _, _, none⟩) (by kernel_rfl) rfl (fun K hK => ?_)
            go_simp
            refine hK.out _ _ (fun h => absurd rfl h) ?_
            clear hK K s0 s1 s2 s3 s4 s5 t0 t1 t2 t3
            try simp only [Act.put, List.setIfInBounds_toArray, List.set_cons_zero, List.set_cons_succ]
            refine AnyBut.done (by kernel_rfl) ?_ _
            go_wp2
            refine rf_alloc_end (blk_range (cs := arCells n l (.slice (some ⟨gg, 0, none⟩) NN cap)) S7.out) (blk_range (cs := [.int .i64 ((k : Int) + 1), .int .i64 ((g : Int) + 1)]) T4.out) rfl rfl rfl rfl (by kernel_rfl) (by kernel_rfl) ?_
            have BE := Lib.hid (below_set (below_set (below_set (below_set (below_set B7.out (b := w.heap.size + 1 + 1) (by omega) 0 (.int .i64 n)) (b := w.heap.size + 1 + 1) (by omega) 1 (.int .i64 l)) (b := w.heap.size + 1 + 1) (by omega) 2 (.slice (some ⟨gg, 0, none⟩) NN cap)) (b := w.heap.size + 1 + 1 + 1) (by omega) 0 (.int .i64 ((k : Int) + 1))) (b := w.heap.size + 1 + 1 + 1) (by omega) 1 (.int .i64 ((g : Int) + 1)))
            have k2 := (((Kept.refl (fun j => j = w.heap.size + 1 + 1) w7).setCell 0 (.int .i64 n)).setCell 1 (.int .i64 l)).setCell 2 (.slice (some ⟨gg, 0, none⟩) NN cap)
            have k3 := ((Kept.refl (fun j => j = w.heap.size + 1 + 1 + 1) (((w7.setCell ⟨w.heap.size + 1 + 1, 0, none⟩ (.int .i64 n)).setCell ⟨w.heap.size + 1 + 1, 1, none⟩ (.int .i64 l)).setCell ⟨w.heap.size + 1 + 1, 2, none⟩ (.slice (some ⟨gg, 0, none⟩) NN cap))).setCell 0 (.int .i64 ((k : Int) + 1))).setCell 1 (.int .i64 ((g : Int) + 1))
            have k4 := Kept.trans2 (U := fun j => j < w0.heap.size) (Kept.trans2 (U := fun j => j < w0.heap.size) KK.out k2 (fun x h => h) (fun x h => by have := W0.out; omega)) k3 (fun x h => h) (fun x h => by have := W0.out; omega)
            refine ⟨(.slice (some ⟨gg, 0, none⟩) NN cap), us ++ [(⟨k + 1, g + 1, sc, ra, rc, ea, ec, rows, ents, true⟩ : PuD)], by rw [T.out]; rfl, ⟨(O3.out.kept k4 (O3.out.out fun _ h => h)).sv, fun e he => ?_⟩, by rw [List.map_append, P.out]; unfold putM; rw [T.out]; rfl, by rw [List.length_append, LN.out]; exact Nat.le_refl _, ⟨.inl ((O3.out.kept k4 (O3.out.out fun _ h => h)).mono (b' := w.heap.size) (by have := W0.out; omega)), fun e he => ?_⟩, BE.out⟩
            · rcases List.mem_append.1 he with he | he
              · exact ⟨(V0.out.2 e he).1.below BE.out, (V0.out.2 e he).2.below BE.out⟩
              · rw [List.mem_singleton] at he
                subst he
                exact ⟨by have h := R0.out.below BE.out; rw [← LR.out] at h; exact h, by have h := E0.out.below BE.out; rw [← LE.out] at h; exact h⟩
            · rcases List.mem_append.1 he with he | he
              · exact .inl ⟨e, he, Heir.refl e⟩
              · rw [List.mem_singleton] at he
                subst he
                refine .inr ⟨?_, rfl, rfl⟩
                unfold PuD.rv PuD.en
                simp only [LR.out, LE.out]
          · have Y0 := Lib.hid (BX.out.trans (P3.out.1.mono BX.out.size))
            have W3 := Lib.hid (show w.heap.size + 4 ≤ w3.heap.size from Nat.le_trans ZW.out B3.out.size)
            have W0 := Lib.hid (show w.heap.size + 4 ≤ w0.heap.size from Nat.le_trans ZW.out BX.out.size)
            obtain ⟨w7, hw7⟩ : ∃ w7, w7 = (w5.setCell ⟨w.heap.size, 2, none⟩ (.slice (some ⟨gg, 0, none⟩) NN cap)).drew := ⟨_, rfl⟩
            have KA7 : w7.heap[w.heap.size]? = some (.cells #[.int .i64 n, .int .i64 l, (.slice (some ⟨gg, 0, none⟩) NN cap)] 82 (0, 0)) := by rw [hw7]; exact KA6.out
            have KX7 : w7.heap[w3.heap.size]? = some (.cells #[.int .i64 ((k : Int) + 1), .int .i64 ((g : Int) + 1)] 30 (0, 0)) := by rw [hw7]; exact blk_off (blk_step KX0.out P3.out.1) (b := w.heap.size) (by have := W3.out; omega) 2 (.slice (some ⟨gg, 0, none⟩) NN cap)
            have KZ7 : w7.heap[w.heap.size + 1 + 1]? = some (.cells #[.int .i64 0, .int .i64 0, .slice none 0 0] 82 (0, 0)) := by rw [hw7]; exact blk_off (blk_step KZ.out Y0.out) (b := w.heap.size) (by omega) 2 (.slice (some ⟨gg, 0, none⟩) NN cap)
            have KR7 : w7.heap[w.heap.size + 1 + 1 + 1]? = some (.cells #[.int .i64 0, .int .i64 0] 30 (0, 0)) := by rw [hw7]; exact blk_off (blk_step KX.out Y0.out) (b := w.heap.size) (by omega) 2 (.slice (some ⟨gg, 0, none⟩) NN cap)
            have B7 := Lib.hid (show Below w.heap.size w w7 by rw [hw7]; exact (below_set (B0.out.trans (Y0.out.mono B0.out.size)) (b := w.heap.size) (Nat.le_refl _) 2 (.slice (some ⟨gg, 0, none⟩) NN cap)).drew)
            have KK := Lib.hid (show Kept (fun j => j < w0.heap.size) w5 w7 by rw [hw7]; exact (((Kept.refl (fun j => j = w.heap.size) w5).setCell 2 (.slice (some ⟨gg, 0, none⟩) NN cap)).wide (fun j _ h => by have := W0.out; omega)).drew)
            have d0 := blk_cell KA7 0
            have d1 := blk_cell KA7 1
            have d2 := blk_cell KA7 2
            have x0 := blk_cell KX7 0
            have x1 := blk_cell KX7 1
            simp only [List.getElem?_toArray, List.getElem?_cons_zero, List.getElem?_cons_succ] at d0 d1 d2 x0 x1
            obtain ⟨s0, s1, s2, s3, s4, s5, s6⟩ := three_facts KZ7 (.int .i64 n) (.int .i64 l) (.slice (some ⟨gg, 0, none⟩) NN cap)
            have KR8 := blk_off (blk_off (blk_off KR7 (b := w.heap.size + 1 + 1) (by have := W3.out; omega) 0 (.int .i64 n)) (b := w.heap.size + 1 + 1) (by have := W3.out; omega) 1 (.int .i64 l)) (b := w.heap.size + 1 + 1) (by have := W3.out; omega) 2 (.slice (some ⟨gg, 0, none⟩) NN cap)
            have KA8 := Lib.hid (blk_off (blk_off (blk_off KA7 (b := w.heap.size + 1 + 1) (by have := W3.out; omega) 0 (.int .i64 n)) (b := w.heap.size + 1 + 1) (by have := W3.out; omega) 1 (.int .i64 l)) (b := w.heap.size + 1 + 1) (by have := W3.out; omega) 2 (.slice (some ⟨gg, 0, none⟩) NN cap))
            have KX8 := Lib.hid (blk_off (blk_off (blk_off KX7 (b := w.heap.size + 1 + 1) (by have := W3.out; omega) 0 (.int .i64 n)) (b := w.heap.size + 1 + 1) (by have := W3.out; omega) 1 (.int .i64 l)) (b := w.heap.size + 1 + 1) (by have := W3.out; omega) 2 (.slice (some ⟨gg, 0, none⟩) NN cap))
            obtain ⟨t0, t1, t2, t3, t4⟩ := two_facts KR8 (.int .i64 ((k : Int) + 1)) (.int .i64 ((g : Int) + 1))
            have KA9 := Lib.hid (blk_off (blk_off KA8.out (b := w.heap.size + 1 + 1 + 1) (by have := W3.out; omega) 0 (.int .i64 ((k : Int) + 1))) (b := w.heap.size + 1 + 1 + 1) (by have := W3.out; omega) 1 (.int .i64 ((g : Int) + 1)))
            have KX9 := Lib.hid (blk_off (blk_off KX8.out (b := w.heap.size + 1 + 1 + 1) (by have := W3.out; omega) 0 (.int .i64 ((k : Int) + 1))) (b := w.heap.size + 1 + 1 + 1) (by have := W3.out; omega) 1 (.int .i64 ((g : Int) + 1)))
            have S7 := Lib.hid (blk_off (blk_off s6 (b := w.heap.size + 1 + 1 + 1) (by have := W3.out; omega) 0 (.int .i64 ((k : Int) + 1))) (b := w.heap.size + 1 + 1 + 1) (by have := W3.out; omega) 1 (.int .i64 ((g : Int) + 1)))
            have T4 := Lib.hid t4
            have E7 := Lib.hid hw7
            clear s6 t4 KA7 KX7 KZ7 KR7 KR8 hw7
            go_wp2_with fail
            refine AnyBut.region (fun w' => w'.cell? ⟨w.heap.size, 0, none⟩ = some (.int .i64 n) ∧ w'.cell? ⟨w.heap.size, 1, none⟩ = some (.int .i64 l) ∧ w'.cell? ⟨w.heap.size, 2, none⟩ = some (.slice (some ⟨gg, 0, none⟩) NN cap) ∧ w'.cell? ⟨w3.heap.size, 0, none⟩ = some (.int .i64 ((k : Int) + 1)) ∧ w'.cell? ⟨w3.heap.size, 1, none⟩ = some (.int .i64 ((g : Int) + 1))) 4 (by kernel_rfl) ?_
            rw [← E7.out]
            refine AnyBut.take (i := 0) (oi := ⟨some 46, _, _, _, _, none⟩) (v := ?vz0) rfl (by kernel_rfl) (by kernel_rfl) (by kernel_rfl) (by kernel_rfl) (fun _ _ _ h => h) (Or.inl ⟨by rfl, ?hyz0⟩) ⟨d0, d1, d2, x0, x1⟩ ?restz0
            case hyz0 => (intro w hSw; go_simp; try (with_reducible rfl))
            simp only [Act.put, List.setIfInBounds_toArray, List.set_cons_zero, List.set_cons_succ]
            refine AnyBut.take (i := 1) (oi := ⟨some 47, _, _, _, _, none⟩) (v := ?vz1) rfl (by kernel_rfl) (by kernel_rfl) (by kernel_rfl) (by kernel_rfl) (fun _ _ _ h => h) (Or.inl ⟨by rfl, ?hyz1⟩) ⟨d0, d1, d2, x0, x1⟩ ?restz1
            case hyz1 => (intro w hSw; go_simp; try (with_reducible rfl))
            simp only [Act.put, List.setIfInBounds_toArray, List.set_cons_zero, List.set_cons_succ]
            clear d0 d1 d2 x0 x1
            refine AnyBut.one (i := 2) (o := ⟨none, _, _, _, _, none⟩) (by kernel_rfl) rfl (fun K hK => ?_)
            go_simp
            refine hK.out _ _ (fun _ => ⟨blk_cell KA8.out 0, blk_cell KA8.out 1, blk_cell KA8.out 2, blk_cell KX8.out 0, blk_cell KX8.out 1⟩) ?_
            clear hK K
            try simp only [Act.put, List.setIfInBounds_toArray, List.set_cons_zero, List.set_cons_succ]
            refine AnyBut.one (i := 3) (o := ⟨none, _, _, _, _, none⟩) (by kernel_rfl) rfl (fun K hK => ?_)
            go_simp
            refine hK.out _ _ (fun _ => ⟨blk_cell KA9.out 0, blk_cell KA9.out 1, blk_cell KA9.out 2, blk_cell KX9.out 0, blk_cell KX9.out 1⟩) ?_
            clear hK K
            try simp only [Act.put, List.setIfInBounds_toArray, List.set_cons_zero, List.set_cons_succ]
            refine AnyBut.one (i := 4) (o := ⟨some 6, _, _, _, _, none⟩) (by kernel_rfl) rfl (fun K hK => ?_)
            go_simp
            refine hK.out _ _ (fun h => absurd rfl h) ?_
            clear hK K s0 s1 s2 s3 s4 s5 t0 t1 t2 t3
            try simp only [Act.put, List.setIfInBounds_toArray, List.set_cons_zero, List.set_cons_succ]
            refine AnyBut.done (by kernel_rfl) ?_ _
            go_wp2
            refine rf_alloc_end (blk_range (cs := arCells n l (.slice (some ⟨gg, 0, none⟩) NN cap)) S7.out) (blk_range (cs := [.int .i64 ((k : Int) + 1), .int .i64 ((g : Int) + 1)]) T4.out) rfl rfl rfl rfl (by kernel_rfl) (by kernel_rfl) ?_
            have BE := Lib.hid (below_set (below_set (below_set (below_set (below_set B7.out (b := w.heap.size + 1 + 1) (by omega) 0 (.int .i64 n)) (b := w.heap.size + 1 + 1) (by omega) 1 (.int .i64 l)) (b := w.heap.size + 1 + 1) (by omega) 2 (.slice (some ⟨gg, 0, none⟩) NN cap)) (b := w.heap.size + 1 + 1 + 1) (by omega) 0 (.int .i64 ((k : Int) + 1))) (b := w.heap.size + 1 + 1 + 1) (by omega) 1 (.int .i64 ((g : Int) + 1)))
            have k2 := (((Kept.refl (fun j => j = w.heap.size + 1 + 1) w7).setCell 0 (.int .i64 n)).setCell 1 (.int .i64 l)).setCell 2 (.slice (some ⟨gg, 0, none⟩) NN cap)
            have k3 := ((Kept.refl (fun j => j = w.heap.size + 1 + 1 + 1) (((w7.setCell ⟨w.heap.size + 1 + 1, 0, none⟩ (.int .i64 n)).setCell ⟨w.heap.size + 1 + 1, 1, none⟩ (.int .i64 l)).setCell ⟨w.heap.size + 1 + 1, 2, none⟩ (.slice (some ⟨gg, 0, none⟩) NN cap))).setCell 0 (.int .i64 ((k : Int) + 1))).setCell 1 (.int .i64 ((g : Int) + 1))
            have k4 := Kept.trans2 (U := fun j => j < w0.heap.size) (Kept.trans2 (U := fun j => j < w0.heap.size) KK.out k2 (fun x h => h) (fun x h => by have := W0.out; omega)) k3 (fun x h => h) (fun x h => by have := W0.out; omega)
            refine ⟨(.slice (some ⟨gg, 0, none⟩) NN cap), us ++ [(⟨k + 1, g + 1, sc, ra, rc, ea, ec, rows, ents, true⟩ : PuD)], by rw [T.out]; rfl, ⟨(O3.out.kept k4 (O3.out.out fun _ h => h)).sv, fun e he => ?_⟩, by rw [List.map_append, P.out]; unfold putM; rw [T.out]; rfl, by rw [List.length_append, LN.out]; exact Nat.le_refl _, ⟨.inl ((O3.out.kept k4 (O3.out.out fun _ h => h)).mono (b' := w.heap.size) (by have := W0.out; omega)), fun e he => ?_⟩, BE.out⟩
            · rcases List.mem_append.1 he with he | he
              · exact ⟨(V0.out.2 e he).1.below BE.out, (V0.out.2 e he).2.below BE.out⟩
              · rw [List.mem_singleton] at he
                subst he
                exact ⟨by have h := R0.out.below BE.out; rw [← LR.out] at h; exact h, by have h := E0.out.below BE.out; rw [← LE.out] at h; exact h⟩
            · rcases List.mem_append.1 he with he | he
              · exact .inl ⟨e, he, Heir.refl e⟩
              · rw [List.mem_singleton] at he
                subst he
                refine .inr ⟨?_, rfl, rfl⟩
                unfold PuD.rv PuD.en
                simp only [LR.out, LE.out]
        · have T := Lib.hid (show allocM n l ps = allocGo l ps (n - (k + 1)) (k + 1 + 1) 5 by rw [A.out.2.1, hnk.out]; exact slot_worn hst hg)
          obtain ⟨g, hgg⟩ : ∃ g, (slotOf ps (k + 1)).1 = g := ⟨_, rfl⟩
          rw [hgg] at hg ⊢
          have e1 : ¬ (g : Int) < (l : Int) := by omega
          clear hst hgg
          go_wp2
          go_roundg (n - (k + 1))
          case measure => have := A.out.2.2.2; omega
          case rel => exact ⟨k + 1, 5, by omega, by go_num, rfl, .inr rfl, T.out, B3.out⟩
    · have T := Lib.hid (show allocM n l ps = (0, 0, e) by rw [A.out.2.1, show n - k = 0 by omega]; rfl)
      have j1 : ¬ ((k + 1 : Nat) : Int) ≤ (n : Int) := by omega
      have F := Lib.hid (show putM n l ps ⟨sc, rows, ents⟩ = ps from putM_no (by rw [T.out]; rcases A.out.1 with h | h <;> rw [h] <;> decide))
      have KZ1 := Lib.hid (blk_step KZ.out A.out.2.2.1)
      have KX1 := Lib.hid (blk_step KX.out A.out.2.2.1)
      have BW := Lib.hid (B0.out.trans (A.out.2.2.1.mono B0.out.size))
      obtain ⟨s0, s1, s2, s3, s4, s5, s6⟩ := three_facts KZ1.out (.int .i64 n) (.int .i64 l) (.slice va N vc)
      have KX2 := Lib.hid (blk_off (blk_off (blk_off KX1.out (b := w.heap.size + 1 + 1) (by omega) 0 (.int .i64 n)) (b := w.heap.size + 1 + 1) (by omega) 1 (.int .i64 l)) (b := w.heap.size + 1 + 1) (by omega) 2 (.slice va N vc))
      obtain ⟨t0, t1, t2, t3, t4⟩ := two_facts KX2.out (.int .i64 0) (.int .i64 0)
      have S6 := Lib.hid s6
      have T4 := Lib.hid t4
      clear s6 t4
      go_wp2
      have BE := Lib.hid (below_set (below_set (below_set (below_set (below_set BW.out (b := w.heap.size + 1 + 1) (by omega) 0 (.int .i64 n)) (b := w.heap.size + 1 + 1) (by omega) 1 (.int .i64 l)) (b := w.heap.size + 1 + 1) (by omega) 2 (.slice va N vc)) (b := w.heap.size + 1 + 1 + 1) (by omega) 0 (.int .i64 0)) (b := w.heap.size + 1 + 1 + 1) (by omega) 1 (.int .i64 0))
      have S7 := Lib.hid (blk_off (blk_off S6.out (b := w.heap.size + 1 + 1 + 1) (by omega) 0 (.int .i64 0)) (b := w.heap.size + 1 + 1 + 1) (by omega) 1 (.int .i64 0))
      refine rf_alloc_end (blk_range (cs := arCells n l (.slice va N vc)) S7.out) (blk_range (cs := [.int .i64 0, .int .i64 0]) T4.out) rfl rfl rfl rfl (by kernel_rfl) (by kernel_rfl) ?_
      exact ⟨_, by rw [T.out]; rfl, us, V0.out.below BE.out, by rw [P.out, F.out], by rw [LN.out]; exact Nat.le_succ _, ⟨.inr ⟨rfl, rfl⟩, fun e he => .inl ⟨e, he, Heir.refl e⟩⟩, BE.out⟩
end Go.Proofs.YtkkmfacngmginaaDoor
