/- A step done in both tables: does, by a contract. -/
import Derived.Test.YtfdgfonffocenaaDoorMpRj
import Derived.Test.YtfdgfonffocenaaDoorErrAs
namespace Go.Proofs.YtfdgfonffocenaaDoor
open Go.RowKit

theorem blk_keep {S : Nat → Prop} {w w' : World} {b : Nat} {o : Obj} (h : w.heap[b]? = some o) (hk : Kept S w w') (hn : ¬ S b) : w'.heap[b]? = some o := (hk.block b (Array.getElem?_eq_some_iff.1 h).1 hn).trans h
theorem Glob.keep {S : Nat → Prop} {w w' : World} (h : Ea.Glob w) (hk : Kept S w w') (hn : ¬ S 0) : Ea.Glob w' := hk.cell hn h
/-- the document's pages are in a block of another type than the table's -/
theorem TabAt.keepUp {w w' : World} {ab pb n : Nat} {L : List Pg} (hT : TabAt w ab pb n L) {v : Value} {us : List Up} (h : OwnS lUp 0 w v us) (hk : Kept (fun k => k = pb) w w') : OwnS lUp 0 w' v us :=
  h.kept hk (OwnS.ne hT.own h (by decide))
/-- what the old head is that a swap names -/
def oldOf (L : List Pg) (x : Int) (right : Bool) (o : Rf) : Rf := if right then headT L x else o
/-- what a step leaves -/
def stepL (L : List Pg) (verb x : Int) (right : Bool) (o r : Rf) : List Pg :=
  if verb = 0 then takeL L else if verb = 1 then giveL L x else if verb = 2 then L else if verb = 3 then swapL L x (oldOf L x right o) r else L
theorem stepL_len (L : List Pg) (verb x : Int) (right : Bool) (o r : Rf) : (stepL L verb x right o r).length = L.length := by
  unfold stepL
  split
  · exact takeL_len L
  · split
    · exact giveL_len L x
    · split
      · rfl
      · split
        · exact swapL_len L x _ r
        · rfl
/-- what does promises -/
def DoesP (w : World) (ab pb n : Nat) (us : List Up) (L' : List Pg) (ev : Ending) (w' : World) : Prop :=
  ∃ v' us', ev = .returned (.tuple #[refT n v', .bool true]) ∧ TabAt w' ab pb n L' ∧ OwnS lUp 0 w' v' us' ∧ RefOk us' L' ∧ us'.length ≤ us.length + 1 ∧ Kept (fun k => k = pb) w w'
/-- fault.Code of what a call told is that call's code -/
theorem code_of (e : Int) (w : World) (hg : Ea.Glob w) : Calls Tryd.prog 20 #[errV e] w fun ev w' => ev = .returned (.int .i64 e) ∧ Below w.heap.size w w' := by
  unfold errV
  by_cases h : e = 0
  · rw [if_pos h, h]; exact Ea.Code_nil w
  · rw [if_neg h]; exact Ea.Code_code e w hg
theorem errV_form (e : Int) : ∃ z, errV e = z := ⟨_, rfl⟩
theorem OwnS.neBlk {α : Type} {E : Lay α} {b : Nat} {w : World} {v : Value} {xs : List α} (h : OwnS E b w v xs) {g : Nat} {cs : Array Value} {T : TypeId} (hg : w.heap[g]? = some (.cells cs T (0, 0))) (hne : E.ty ≠ T) : ∀ k, v.ownBlock = some k → k ≠ g := by
  intro k hk e
  obtain ⟨_, h⟩ := h
  rcases h with ⟨rfl, -⟩ | ⟨g1, c1, u1, rfl, -, h1, -⟩
  · cases hk
  · obtain rfl : g1 = k := Option.some.inj hk
    subst e
    rw [hg] at h1
    simp only [Option.some.injEq, Obj.cells.injEq] at h1
    exact hne h1.2.1.symm
/-- does's end -/
theorem does_end {w w6 : World} {ab pb n b : Nat} {us us4 : List Up} {L' : List Pg} {a4 : Option Addr} {N4 c4 : Nat} {x0 x1 : Value} {a : Act} (hT : TabAt w6 ab pb n L') (hv : OwnS lUp 0 w6 (.slice a4 N4 c4) us4) (hr : RefOk us4 L') (hl : us4.length ≤ us.length + 1) (hk : Kept (fun k => k = pb) w w6) (hz : w.heap.size ≤ b) (hab : ab < w.heap.size) (hpb : pb < w.heap.size)
    (hb : w6.heap[b]? = some (.cells #[x0, x1] 28 (0, 0))) (hp : a.tmps.getD 6 undef = .pointer (some ⟨b, 0, none⟩)) (hbool : a.tmps.getD 7 undef = .bool true) (hd : a.defers = []) :
    bodyPost Tryd.prog Tryd.f9 (DoesP w ab pb n us L') Exit.ret a ((w6.setCell ⟨b, 0, none⟩ (.int .i64 n)).setCell ⟨b, 1, none⟩ (.slice a4 N4 c4)) := by
  obtain ⟨-, -, -, -, q4⟩ := two_facts hb (.int .i64 n) (.slice a4 N4 c4)
  have kk := ((Kept.refl (fun k => k = b) w6).setCell 0 (.int .i64 n)).setCell 1 (.slice a4 N4 c4)
  refine bodyPost_ret (v := .tuple #[.agg #[.int .i64 n, .slice a4 N4 c4], .bool true]) (results_cellT rfl _ _ b [.int .i64 n, .slice a4 N4 c4] _ (.bool true) hp hbool (rng2 q4) Tryd.underlying28 rfl (by kernel_rfl)) hd ?_
  refine ⟨_, us4, rfl, hT.keep kk (by omega) (by omega), ?_, hr, hl, (hk.setNew hz 0 _).setNew hz 1 _⟩
  exact (hv.setOther (fun k hk => hv.neBlk hb (by decide) k hk)).setOther (fun k hk => hv.neBlk hb (by decide) k hk)
set_option maxRecDepth 100000 in
set_option maxHeartbeats 4000000 in
theorem does_p0 (ab pb n : Nat) (L : List Pg) (v : Value) (us : List Up) (x os og ns ng : Int) (w : World) (hT : TabAt w ab pb n L) (hv : OwnS lUp 0 w v us) (hr : RefOk us L) (hl : us.length ≤ 900) (hg : Ea.Glob w) (hpb : ¬ 0 = pb) :
    Calls Tryd.prog 9 #[.pointer (some ⟨ab, 0, none⟩), refT n v, doVal 0 x false os og ns ng] w (DoesP w ab pb n us (stepL L 0 x false (os, og) (ns, ng))) := by
  obtain ⟨va, vc, rfl, hlc, hcm⟩ := hv.sv.lenform
  obtain ⟨N, hN⟩ : ∃ N, us.length = N := ⟨_, rfl⟩
  have H := Lib.hid hr
  have LN := Lib.hid (show us.length = N ∧ N ≤ 900 from ⟨hN, hN ▸ hl⟩)
  have HL := Lib.hid (show L.length = n from hT.len)
  have NP := Lib.hid (show ab < w.heap.size ∧ pb < w.heap.size ∧ ¬ 0 = pb from ⟨hT.ltA, hT.ltP, hpb⟩)
  rw [hN] at hlc hv ⊢
  obtain ⟨w1, hw1⟩ : ∃ W, W = w.alloc (.cells #[.int .i64 n, .slice va N vc] 28) := ⟨_, rfl⟩
  obtain ⟨w2, hw2⟩ : ∃ W, W = w1.alloc (doObj 0 x false os og ns ng) := ⟨_, rfl⟩
  obtain ⟨w3, hw3⟩ : ∃ W, W = w2.alloc (.cells #[.int .i64 0, .slice none 0 0] 28) := ⟨_, rfl⟩
  obtain ⟨W, hW⟩ : ∃ W, W = w3.alloc (.cells #[.int .i64 os, .int .i64 og] 32) := ⟨_, rfl⟩
  have b1 := alloc_below0 w (.cells #[.int .i64 n, .slice va N vc] 28)
  have k1 := blk_new w (.cells #[.int .i64 n, .slice va N vc] 28)
  rw [← hw1] at b1 k1
  have b2 := alloc_below0 w1 (doObj 0 x false os og ns ng)
  have k2 := blk_new w1 (doObj 0 x false os og ns ng)
  rw [← hw2] at b2 k2
  have b3 := alloc_below0 w2 (.cells #[.int .i64 0, .slice none 0 0] 28)
  have k3 := blk_new w2 (.cells #[.int .i64 0, .slice none 0 0] 28)
  rw [← hw3] at b3 k3
  have b4 := alloc_below0 w3 (.cells #[.int .i64 os, .int .i64 og] 32)
  have k4 := blk_new w3 (.cells #[.int .i64 os, .int .i64 og] 32)
  rw [← hW] at b4 k4
  have z1 : w1.heap.size = w.heap.size + 1 := by rw [hw1]; simp
  have z2 : w2.heap.size = w.heap.size + 1 + 1 := by rw [hw2]; simp [z1]
  have z3 : w3.heap.size = w.heap.size + 1 + 1 + 1 := by rw [hw3]; simp [z2]
  have Z0 := Lib.hid (show W.heap.size = w.heap.size + 4 by rw [hW]; simp [z3])
  have B0 := Lib.hid (show Below w.heap.size w W from ((b1.trans (b2.mono b1.size)).trans (b3.mono (Nat.le_trans b1.size b2.size))).trans (b4.mono (Nat.le_trans (Nat.le_trans b1.size b2.size) b3.size)))
  have KT0 := Lib.hid (blk_step (blk_step (blk_step k1 b2) b3) b4)
  have KD0 := Lib.hid (blk_step (blk_step k2 b3) b4)
  have KR0 := Lib.hid (blk_step k3 b4)
  have KO0 := Lib.hid k4
  rw [z1] at KD0
  rw [z2] at KR0
  rw [z3] at KO0
  rw [hw3, hw2, hw1] at hW
  have T0 := Lib.hid (hT.low B0.out)
  have V0 := Lib.hid (hv.below B0.out)
  have G0 := Lib.hid (Ea.Glob.below B0.out hg)
  clear hT hv hr hN hl hg hpb b1 b2 b3 b4 k1 k2 k3 k4 z1 z2 z3 hw1 hw2 hw3
  clear w1 w2 w3
  unfold doObj at hW
  unfold refT doVal
  go_enter Tryd.func9, Tryd.ntmps9
  go_wp2_with fail
  rw [← hW]
  have OH := Lib.hid (show oldOf L x false (os, og) = (os, og) from rfl)
  obtain ⟨w1, hw1⟩ : ∃ x, x = W := ⟨_, rfl⟩
  rw [← hw1]
  subst hw1
  have M1 := Lib.hid (show Kept (fun k => k = pb) w w1 from Kept.of_below B0.out)
  have KT1 := KT0
  have KD1 := Lib.hid (DoAt.of KD0.out)
  have KR1 := KR0
  have KO1 := Lib.hid (RfAt.of KO0.out)
  have T1 := T0
  have V1 := V0
  have G1 := G0
  have Z1 := Lib.hid (show w.heap.size + 4 ≤ w1.heap.size from Nat.le_of_eq Z0.out.symm)
  have d1 := KD1.out.c1
  clear hW B0 KT0 KD0 KR0 KO0 T0 V0 G0
  refine (take_any _ ab pb n L T1.out).mono ?_
  rintro ev w3 ⟨rfl, hT, hk⟩
  have M3 := Lib.hid (M1.out.trans hk)
  have KT3 := Lib.hid (blk_keep KT1.out hk (by have := NP.out.2.1; omega))
  have KD3 := Lib.hid (KD1.out.keep hk (by have := NP.out.2.1; omega))
  have KR3 := Lib.hid (blk_keep KR1.out hk (by have := NP.out.2.1; omega))
  have KO3 := Lib.hid (KO1.out.keep hk (by have := NP.out.2.1; omega))
  have V3 := Lib.hid (T1.out.keepUp V1.out hk)
  have G3 := Lib.hid (Glob.keep G1.out hk NP.out.2.2)
  have Z3 := Lib.hid (show w.heap.size + 4 ≤ w3.heap.size from Nat.le_trans Z1.out hk.size)
  have T3 := Lib.hid hT
  obtain ⟨e, he⟩ : ∃ e, errV (takeE L) = e := ⟨_, rfl⟩
  have EE := Lib.hid he
  rw [he]
  have t0 := blk_cell KT3.out 0
  have t1 := blk_cell KT3.out 1
  have fr := rf_take n (.slice va N vc) us L w3 V3.out H.out HL.out T3.out.hi (by have := LN.out; omega)
  unfold refT at fr
  clear hT hk he
  go_wp2_with fail
  refine fr.mono ?_
  rintro ev w4 ⟨v4, us4, rfl, hv4, hr4, hl4, hs⟩
  have M4 := Lib.hid (M3.out.trans (Kept.of_below hs))
  have KT4 := Lib.hid (blk_step KT3.out hs)
  have KD4 := Lib.hid (KD3.out.step hs)
  have KR4 := Lib.hid (blk_step KR3.out hs)
  have KO4 := Lib.hid (KO3.out.step hs)
  have T4 := Lib.hid (T3.out.low hs)
  have G4 := Lib.hid (Ea.Glob.below hs G3.out)
  have Z4 := Lib.hid (show w.heap.size + 4 ≤ w4.heap.size from Nat.le_trans Z3.out hs.size)
  obtain ⟨N4, hN4⟩ : ∃ N4, us4.length = N4 := ⟨_, rfl⟩
  obtain ⟨a4, c4, rfl, -, -⟩ := hv4.lenN hN4
  have V4 := Lib.hid hv4
  have R4 := Lib.hid (show RefOk us4 (takeL L) ∧ us4.length ≤ N + 1 from ⟨hr4, by have := LN.out.1; omega⟩)
  have q1 : ((takeN L : Int) == (takeN L : Int)) = true := by simp
  clear hs fr hv4 hr4 hl4 t0 t1
  go_wp2_with fail
  have bq := alloc_below0 w4 (.cells #[.int .i64 n, .slice a4 N4 c4] 28)
  have kq := blk_new w4 (.cells #[.int .i64 n, .slice a4 N4 c4] 28)
  obtain ⟨w5, hw5⟩ : ∃ W, W = w4.alloc (.cells #[.int .i64 n, .slice a4 N4 c4] 28) := ⟨_, rfl⟩
  rw [← hw5] at bq kq ⊢
  have M5 := Lib.hid (M4.out.trans (Kept.of_below bq))
  have KT5 := Lib.hid (blk_step KT4.out bq)
  have KD5 := Lib.hid (KD4.out.step bq)
  have KR5 := Lib.hid (blk_step KR4.out bq)
  have KO5 := Lib.hid (KO4.out.step bq)
  have T5 := Lib.hid (T4.out.low bq)
  have V5 := Lib.hid (V4.out.below bq)
  have G5 := Lib.hid (Ea.Glob.below bq G4.out)
  have Z5 := Lib.hid (show w.heap.size + 4 ≤ w5.heap.size from Nat.le_trans Z4.out bq.size)
  have g0 : w5.cell? ⟨w4.heap.size, 0, none⟩ = some (.int .i64 n) := blk_cell kq 0
  have g1 : w5.cell? ⟨w4.heap.size, 1, none⟩ = some (.slice a4 N4 c4) := blk_cell kq 1
  have nz0 : ¬ w4.heap.size = w.heap.size + 1 + 1 := by have := Z4.out; have := Z3.out; omega
  have nz1 : ¬ w.heap.size + 1 + 1 = w4.heap.size := by have := Z4.out; have := Z3.out; omega
  have q2 : (takeE L == takeE L) = true := by simp
  have fcode := fun w h => code_of (takeE L) w h
  rw [EE.out] at fcode
  clear bq kq hw5
  go_region_held3 (fun w' => w'.cell? ⟨w4.heap.size, 0, none⟩ = some (.int .i64 n) ∧ w'.cell? ⟨w4.heap.size, 1, none⟩ = some (.slice a4 N4 c4)) (first | exact ⟨by assumption, by assumption⟩ | go_keep)
    (first
      | (go_at_call 20; (with_reducible refine (fcode _ ?_).mono ?_); exact Ea.Glob.below (Below.refl _ _).drew G5.out; rintro e6 w6 ⟨rfl, hs⟩; have BD := Lib.hid ((Below.refl _ w5).drew.trans hs); have u0 := cell_step g0 BD.out; have u1 := cell_step g1 BD.out; obtain ⟨z0, z1, z2, z3, -⟩ := two_facts (blk_step KR5.out BD.out) (.int .i64 n) (.slice a4 N4 c4); clear hs))
  go_wp2
  rw [show stepL L 0 x false (os, og) (ns, ng) = takeL L from rfl]
  exact does_end (T5.out.low BD.out) (V5.out.below BD.out) R4.out.1 (by rw [LN.out.1]; exact R4.out.2) (M5.out.trans (Kept.of_below BD.out)) (by omega) NP.out.1 NP.out.2.1 (blk_step KR5.out BD.out) rfl rfl rfl
set_option maxRecDepth 100000 in
set_option maxHeartbeats 4000000 in
theorem does_r0 (ab pb n : Nat) (L : List Pg) (v : Value) (us : List Up) (x os og ns ng : Int) (w : World) (hT : TabAt w ab pb n L) (hv : OwnS lUp 0 w v us) (hr : RefOk us L) (hl : us.length ≤ 900) (hg : Ea.Glob w) (hpb : ¬ 0 = pb) :
    Calls Tryd.prog 9 #[.pointer (some ⟨ab, 0, none⟩), refT n v, doVal 0 x true os og ns ng] w (DoesP w ab pb n us (stepL L 0 x true (os, og) (ns, ng))) := by
  obtain ⟨va, vc, rfl, hlc, hcm⟩ := hv.sv.lenform
  obtain ⟨N, hN⟩ : ∃ N, us.length = N := ⟨_, rfl⟩
  have H := Lib.hid hr
  have LN := Lib.hid (show us.length = N ∧ N ≤ 900 from ⟨hN, hN ▸ hl⟩)
  have HL := Lib.hid (show L.length = n from hT.len)
  have NP := Lib.hid (show ab < w.heap.size ∧ pb < w.heap.size ∧ ¬ 0 = pb from ⟨hT.ltA, hT.ltP, hpb⟩)
  rw [hN] at hlc hv ⊢
  obtain ⟨w1, hw1⟩ : ∃ W, W = w.alloc (.cells #[.int .i64 n, .slice va N vc] 28) := ⟨_, rfl⟩
  obtain ⟨w2, hw2⟩ : ∃ W, W = w1.alloc (doObj 0 x true os og ns ng) := ⟨_, rfl⟩
  obtain ⟨w3, hw3⟩ : ∃ W, W = w2.alloc (.cells #[.int .i64 0, .slice none 0 0] 28) := ⟨_, rfl⟩
  obtain ⟨W, hW⟩ : ∃ W, W = w3.alloc (.cells #[.int .i64 os, .int .i64 og] 32) := ⟨_, rfl⟩
  have b1 := alloc_below0 w (.cells #[.int .i64 n, .slice va N vc] 28)
  have k1 := blk_new w (.cells #[.int .i64 n, .slice va N vc] 28)
  rw [← hw1] at b1 k1
  have b2 := alloc_below0 w1 (doObj 0 x true os og ns ng)
  have k2 := blk_new w1 (doObj 0 x true os og ns ng)
  rw [← hw2] at b2 k2
  have b3 := alloc_below0 w2 (.cells #[.int .i64 0, .slice none 0 0] 28)
  have k3 := blk_new w2 (.cells #[.int .i64 0, .slice none 0 0] 28)
  rw [← hw3] at b3 k3
  have b4 := alloc_below0 w3 (.cells #[.int .i64 os, .int .i64 og] 32)
  have k4 := blk_new w3 (.cells #[.int .i64 os, .int .i64 og] 32)
  rw [← hW] at b4 k4
  have z1 : w1.heap.size = w.heap.size + 1 := by rw [hw1]; simp
  have z2 : w2.heap.size = w.heap.size + 1 + 1 := by rw [hw2]; simp [z1]
  have z3 : w3.heap.size = w.heap.size + 1 + 1 + 1 := by rw [hw3]; simp [z2]
  have Z0 := Lib.hid (show W.heap.size = w.heap.size + 4 by rw [hW]; simp [z3])
  have B0 := Lib.hid (show Below w.heap.size w W from ((b1.trans (b2.mono b1.size)).trans (b3.mono (Nat.le_trans b1.size b2.size))).trans (b4.mono (Nat.le_trans (Nat.le_trans b1.size b2.size) b3.size)))
  have KT0 := Lib.hid (blk_step (blk_step (blk_step k1 b2) b3) b4)
  have KD0 := Lib.hid (blk_step (blk_step k2 b3) b4)
  have KR0 := Lib.hid (blk_step k3 b4)
  have KO0 := Lib.hid k4
  rw [z1] at KD0
  rw [z2] at KR0
  rw [z3] at KO0
  rw [hw3, hw2, hw1] at hW
  have T0 := Lib.hid (hT.low B0.out)
  have V0 := Lib.hid (hv.below B0.out)
  have V00 := Lib.hid hv
  have G00 := Lib.hid hg
  have G0 := Lib.hid (Ea.Glob.below B0.out hg)
  clear hT hv hr hN hl hg hpb b1 b2 b3 b4 k1 k2 k3 k4 z1 z2 z3 hw1 hw2 hw3
  clear w1 w2 w3
  unfold doObj at hW
  unfold refT doVal
  go_enter Tryd.func9, Tryd.ntmps9
  go_wp2_with fail
  rw [← hW]
  have fh := rf_head n (.slice va N vc) us L x W V0.out.sv H.out HL.out
  unfold refT at fh
  refine fh.mono ?_
  rintro ev wh ⟨rfl, hs⟩
  obtain ⟨⟨o1, o2⟩, ho⟩ : ∃ o, headT L x = o := ⟨_, rfl⟩
  have OH := Lib.hid (show oldOf L x true (os, og) = (o1, o2) from ho)
  rw [ho]
  unfold refV
  have KZ := blk_step KO0.out hs
  obtain ⟨q0, q1, q2, q3, q4⟩ := two_facts KZ (.int .i64 o1) (.int .i64 o2)
  obtain ⟨w1, hw1⟩ : ∃ W, W = (wh.setCell ⟨w.heap.size + 1 + 1 + 1, 0, none⟩ (.int .i64 o1)).setCell ⟨w.heap.size + 1 + 1 + 1, 1, none⟩ (.int .i64 o2) := ⟨_, rfl⟩
  rw [← hw1] at q4
  have kk : Kept (fun k => k = w.heap.size + 1 + 1 + 1) W w1 := by rw [hw1]; exact ((Kept.of_below (S := fun k => k = w.heap.size + 1 + 1 + 1) hs).setCell 0 _).setCell 1 _
  have M1 := Lib.hid (show Kept (fun k => k = pb) w w1 from Kept.of_below (B0.out.trans (kk.below (n := w.heap.size) (fun k h => by omega) B0.out.size)))
  have KT1 := Lib.hid (blk_keep KT0.out kk (by omega))
  have KD1 := Lib.hid (DoAt.of (blk_keep KD0.out kk (by omega)))
  have KR1 := Lib.hid (blk_keep KR0.out kk (by omega))
  have KO1 := Lib.hid (RfAt.of q4)
  have T1 := Lib.hid (T0.out.keep kk (by have := NP.out.1; omega) (by have := NP.out.2.1; omega))
  have V1 := Lib.hid (V00.out.below (B0.out.trans (kk.below (n := w.heap.size) (fun k h => by omega) B0.out.size)))
  have G1 := Lib.hid (Ea.Glob.below (B0.out.trans (kk.below (n := w.heap.size) (fun k h => by omega) B0.out.size)) G00.out)
  have Z1 := Lib.hid (show w.heap.size + 4 ≤ w1.heap.size from Z0.out ▸ kk.size)
  have d0 := KD1.out.c0
  have d1 := KD1.out.c1
  have d5 := KD1.out.c5
  have d6 := KD1.out.c6
  have o3 := KO1.out.c0
  have o4 := KO1.out.c1
  rw [hw1] at d0 d1 d5 d6 o3 o4
  clear hs fh KZ q4 hW kk
  go_wp2_with fail
  rw [← hw1]
  clear d0 d1 d5 d6 o3 o4 q0 q1 q2 q3 hw1
  have d1 := KD1.out.c1
  refine (take_any _ ab pb n L T1.out).mono ?_
  rintro ev w3 ⟨rfl, hT, hk⟩
  have M3 := Lib.hid (M1.out.trans hk)
  have KT3 := Lib.hid (blk_keep KT1.out hk (by have := NP.out.2.1; omega))
  have KD3 := Lib.hid (KD1.out.keep hk (by have := NP.out.2.1; omega))
  have KR3 := Lib.hid (blk_keep KR1.out hk (by have := NP.out.2.1; omega))
  have KO3 := Lib.hid (KO1.out.keep hk (by have := NP.out.2.1; omega))
  have V3 := Lib.hid (T1.out.keepUp V1.out hk)
  have G3 := Lib.hid (Glob.keep G1.out hk NP.out.2.2)
  have Z3 := Lib.hid (show w.heap.size + 4 ≤ w3.heap.size from Nat.le_trans Z1.out hk.size)
  have T3 := Lib.hid hT
  obtain ⟨e, he⟩ : ∃ e, errV (takeE L) = e := ⟨_, rfl⟩
  have EE := Lib.hid he
  rw [he]
  have t0 := blk_cell KT3.out 0
  have t1 := blk_cell KT3.out 1
  have fr := rf_take n (.slice va N vc) us L w3 V3.out H.out HL.out T3.out.hi (by have := LN.out; omega)
  unfold refT at fr
  clear hT hk he
  go_wp2_with fail
  refine fr.mono ?_
  rintro ev w4 ⟨v4, us4, rfl, hv4, hr4, hl4, hs⟩
  have M4 := Lib.hid (M3.out.trans (Kept.of_below hs))
  have KT4 := Lib.hid (blk_step KT3.out hs)
  have KD4 := Lib.hid (KD3.out.step hs)
  have KR4 := Lib.hid (blk_step KR3.out hs)
  have KO4 := Lib.hid (KO3.out.step hs)
  have T4 := Lib.hid (T3.out.low hs)
  have G4 := Lib.hid (Ea.Glob.below hs G3.out)
  have Z4 := Lib.hid (show w.heap.size + 4 ≤ w4.heap.size from Nat.le_trans Z3.out hs.size)
  obtain ⟨N4, hN4⟩ : ∃ N4, us4.length = N4 := ⟨_, rfl⟩
  obtain ⟨a4, c4, rfl, -, -⟩ := hv4.lenN hN4
  have V4 := Lib.hid hv4
  have R4 := Lib.hid (show RefOk us4 (takeL L) ∧ us4.length ≤ N + 1 from ⟨hr4, by have := LN.out.1; omega⟩)
  have q1 : ((takeN L : Int) == (takeN L : Int)) = true := by simp
  clear hs fr hv4 hr4 hl4 t0 t1
  go_wp2_with fail
  have bq := alloc_below0 w4 (.cells #[.int .i64 n, .slice a4 N4 c4] 28)
  have kq := blk_new w4 (.cells #[.int .i64 n, .slice a4 N4 c4] 28)
  obtain ⟨w5, hw5⟩ : ∃ W, W = w4.alloc (.cells #[.int .i64 n, .slice a4 N4 c4] 28) := ⟨_, rfl⟩
  rw [← hw5] at bq kq ⊢
  have M5 := Lib.hid (M4.out.trans (Kept.of_below bq))
  have KT5 := Lib.hid (blk_step KT4.out bq)
  have KD5 := Lib.hid (KD4.out.step bq)
  have KR5 := Lib.hid (blk_step KR4.out bq)
  have KO5 := Lib.hid (KO4.out.step bq)
  have T5 := Lib.hid (T4.out.low bq)
  have V5 := Lib.hid (V4.out.below bq)
  have G5 := Lib.hid (Ea.Glob.below bq G4.out)
  have Z5 := Lib.hid (show w.heap.size + 4 ≤ w5.heap.size from Nat.le_trans Z4.out bq.size)
  have g0 : w5.cell? ⟨w4.heap.size, 0, none⟩ = some (.int .i64 n) := blk_cell kq 0
  have g1 : w5.cell? ⟨w4.heap.size, 1, none⟩ = some (.slice a4 N4 c4) := blk_cell kq 1
  have nz0 : ¬ w4.heap.size = w.heap.size + 1 + 1 := by have := Z4.out; have := Z3.out; omega
  have nz1 : ¬ w.heap.size + 1 + 1 = w4.heap.size := by have := Z4.out; have := Z3.out; omega
  have q2 : (takeE L == takeE L) = true := by simp
  have fcode := fun w h => code_of (takeE L) w h
  rw [EE.out] at fcode
  clear bq kq hw5
  go_region_held3 (fun w' => w'.cell? ⟨w4.heap.size, 0, none⟩ = some (.int .i64 n) ∧ w'.cell? ⟨w4.heap.size, 1, none⟩ = some (.slice a4 N4 c4)) (first | exact ⟨by assumption, by assumption⟩ | go_keep)
    (first
      | (go_at_call 20; (with_reducible refine (fcode _ ?_).mono ?_); exact Ea.Glob.below (Below.refl _ _).drew G5.out; rintro e6 w6 ⟨rfl, hs⟩; have BD := Lib.hid ((Below.refl _ w5).drew.trans hs); have u0 := cell_step g0 BD.out; have u1 := cell_step g1 BD.out; obtain ⟨z0, z1, z2, z3, -⟩ := two_facts (blk_step KR5.out BD.out) (.int .i64 n) (.slice a4 N4 c4); clear hs))
  go_wp2
  rw [show stepL L 0 x true (os, og) (ns, ng) = takeL L from rfl]
  exact does_end (T5.out.low BD.out) (V5.out.below BD.out) R4.out.1 (by rw [LN.out.1]; exact R4.out.2) (M5.out.trans (Kept.of_below BD.out)) (by omega) NP.out.1 NP.out.2.1 (blk_step KR5.out BD.out) rfl rfl rfl
set_option maxRecDepth 100000 in
set_option maxHeartbeats 4000000 in
theorem does_p1 (ab pb n : Nat) (L : List Pg) (v : Value) (us : List Up) (x os og ns ng : Int) (w : World) (hT : TabAt w ab pb n L) (hv : OwnS lUp 0 w v us) (hr : RefOk us L) (hl : us.length ≤ 900) (hg : Ea.Glob w) (hpb : ¬ 0 = pb) :
    Calls Tryd.prog 9 #[.pointer (some ⟨ab, 0, none⟩), refT n v, doVal 1 x false os og ns ng] w (DoesP w ab pb n us (stepL L 1 x false (os, og) (ns, ng))) := by
  obtain ⟨va, vc, rfl, hlc, hcm⟩ := hv.sv.lenform
  obtain ⟨N, hN⟩ : ∃ N, us.length = N := ⟨_, rfl⟩
  have H := Lib.hid hr
  have LN := Lib.hid (show us.length = N ∧ N ≤ 900 from ⟨hN, hN ▸ hl⟩)
  have HL := Lib.hid (show L.length = n from hT.len)
  have NP := Lib.hid (show ab < w.heap.size ∧ pb < w.heap.size ∧ ¬ 0 = pb from ⟨hT.ltA, hT.ltP, hpb⟩)
  rw [hN] at hlc hv ⊢
  obtain ⟨w1, hw1⟩ : ∃ W, W = w.alloc (.cells #[.int .i64 n, .slice va N vc] 28) := ⟨_, rfl⟩
  obtain ⟨w2, hw2⟩ : ∃ W, W = w1.alloc (doObj 1 x false os og ns ng) := ⟨_, rfl⟩
  obtain ⟨w3, hw3⟩ : ∃ W, W = w2.alloc (.cells #[.int .i64 0, .slice none 0 0] 28) := ⟨_, rfl⟩
  obtain ⟨W, hW⟩ : ∃ W, W = w3.alloc (.cells #[.int .i64 os, .int .i64 og] 32) := ⟨_, rfl⟩
  have b1 := alloc_below0 w (.cells #[.int .i64 n, .slice va N vc] 28)
  have k1 := blk_new w (.cells #[.int .i64 n, .slice va N vc] 28)
  rw [← hw1] at b1 k1
  have b2 := alloc_below0 w1 (doObj 1 x false os og ns ng)
  have k2 := blk_new w1 (doObj 1 x false os og ns ng)
  rw [← hw2] at b2 k2
  have b3 := alloc_below0 w2 (.cells #[.int .i64 0, .slice none 0 0] 28)
  have k3 := blk_new w2 (.cells #[.int .i64 0, .slice none 0 0] 28)
  rw [← hw3] at b3 k3
  have b4 := alloc_below0 w3 (.cells #[.int .i64 os, .int .i64 og] 32)
  have k4 := blk_new w3 (.cells #[.int .i64 os, .int .i64 og] 32)
  rw [← hW] at b4 k4
  have z1 : w1.heap.size = w.heap.size + 1 := by rw [hw1]; simp
  have z2 : w2.heap.size = w.heap.size + 1 + 1 := by rw [hw2]; simp [z1]
  have z3 : w3.heap.size = w.heap.size + 1 + 1 + 1 := by rw [hw3]; simp [z2]
  have Z0 := Lib.hid (show W.heap.size = w.heap.size + 4 by rw [hW]; simp [z3])
  have B0 := Lib.hid (show Below w.heap.size w W from ((b1.trans (b2.mono b1.size)).trans (b3.mono (Nat.le_trans b1.size b2.size))).trans (b4.mono (Nat.le_trans (Nat.le_trans b1.size b2.size) b3.size)))
  have KT0 := Lib.hid (blk_step (blk_step (blk_step k1 b2) b3) b4)
  have KD0 := Lib.hid (blk_step (blk_step k2 b3) b4)
  have KR0 := Lib.hid (blk_step k3 b4)
  have KO0 := Lib.hid k4
  rw [z1] at KD0
  rw [z2] at KR0
  rw [z3] at KO0
  rw [hw3, hw2, hw1] at hW
  have T0 := Lib.hid (hT.low B0.out)
  have V0 := Lib.hid (hv.below B0.out)
  have G0 := Lib.hid (Ea.Glob.below B0.out hg)
  clear hT hv hr hN hl hg hpb b1 b2 b3 b4 k1 k2 k3 k4 z1 z2 z3 hw1 hw2 hw3
  clear w1 w2 w3
  unfold doObj at hW
  unfold refT doVal
  go_enter Tryd.func9, Tryd.ntmps9
  go_wp2_with fail
  rw [← hW]
  have OH := Lib.hid (show oldOf L x false (os, og) = (os, og) from rfl)
  obtain ⟨w1, hw1⟩ : ∃ x, x = W := ⟨_, rfl⟩
  rw [← hw1]
  subst hw1
  have M1 := Lib.hid (show Kept (fun k => k = pb) w w1 from Kept.of_below B0.out)
  have KT1 := KT0
  have KD1 := Lib.hid (DoAt.of KD0.out)
  have KR1 := KR0
  have KO1 := Lib.hid (RfAt.of KO0.out)
  have T1 := T0
  have V1 := V0
  have G1 := G0
  have Z1 := Lib.hid (show w.heap.size + 4 ≤ w1.heap.size from Nat.le_of_eq Z0.out.symm)
  have d1 := KD1.out.c1
  clear hW B0 KT0 KD0 KR0 KO0 T0 V0 G0
  refine (give_any _ ab pb n L x T1.out).mono ?_
  rintro ev w3 ⟨rfl, hT, hk⟩
  have M3 := Lib.hid (M1.out.trans hk)
  have KT3 := Lib.hid (blk_keep KT1.out hk (by have := NP.out.2.1; omega))
  have KD3 := Lib.hid (KD1.out.keep hk (by have := NP.out.2.1; omega))
  have KR3 := Lib.hid (blk_keep KR1.out hk (by have := NP.out.2.1; omega))
  have KO3 := Lib.hid (KO1.out.keep hk (by have := NP.out.2.1; omega))
  have V3 := Lib.hid (T1.out.keepUp V1.out hk)
  have G3 := Lib.hid (Glob.keep G1.out hk NP.out.2.2)
  have Z3 := Lib.hid (show w.heap.size + 4 ≤ w3.heap.size from Nat.le_trans Z1.out hk.size)
  have T3 := Lib.hid hT
  obtain ⟨e, he⟩ : ∃ e, errV (codeT L x) = e := ⟨_, rfl⟩
  have EE := Lib.hid he
  rw [he]
  have t0 := blk_cell KT3.out 0
  have t1 := blk_cell KT3.out 1
  have d3 := KD3.out.c1
  have fr := rf_give n (.slice va N vc) us L x w3 V3.out H.out HL.out (by have := LN.out; omega)
  unfold refT at fr
  clear hT hk he
  go_wp2_with fail
  refine fr.mono ?_
  rintro ev w4 ⟨v4, us4, rfl, hv4, hr4, hl4, hs⟩
  have M4 := Lib.hid (M3.out.trans (Kept.of_below hs))
  have KT4 := Lib.hid (blk_step KT3.out hs)
  have KD4 := Lib.hid (KD3.out.step hs)
  have KR4 := Lib.hid (blk_step KR3.out hs)
  have KO4 := Lib.hid (KO3.out.step hs)
  have T4 := Lib.hid (T3.out.low hs)
  have G4 := Lib.hid (Ea.Glob.below hs G3.out)
  have Z4 := Lib.hid (show w.heap.size + 4 ≤ w4.heap.size from Nat.le_trans Z3.out hs.size)
  obtain ⟨N4, hN4⟩ : ∃ N4, us4.length = N4 := ⟨_, rfl⟩
  obtain ⟨a4, c4, rfl, -, -⟩ := hv4.lenN hN4
  have V4 := Lib.hid hv4
  have R4 := Lib.hid (show RefOk us4 (giveL L x) ∧ us4.length ≤ N + 1 from ⟨hr4, by have := LN.out.1; omega⟩)
  clear hs fr hv4 hr4 hl4 t0 t1 d3
  go_wp2_with fail
  have bq := alloc_below0 w4 (.cells #[.int .i64 n, .slice a4 N4 c4] 28)
  have kq := blk_new w4 (.cells #[.int .i64 n, .slice a4 N4 c4] 28)
  obtain ⟨w5, hw5⟩ : ∃ W, W = w4.alloc (.cells #[.int .i64 n, .slice a4 N4 c4] 28) := ⟨_, rfl⟩
  rw [← hw5] at bq kq ⊢
  have M5 := Lib.hid (M4.out.trans (Kept.of_below bq))
  have KT5 := Lib.hid (blk_step KT4.out bq)
  have KD5 := Lib.hid (KD4.out.step bq)
  have KR5 := Lib.hid (blk_step KR4.out bq)
  have KO5 := Lib.hid (KO4.out.step bq)
  have T5 := Lib.hid (T4.out.low bq)
  have V5 := Lib.hid (V4.out.below bq)
  have G5 := Lib.hid (Ea.Glob.below bq G4.out)
  have Z5 := Lib.hid (show w.heap.size + 4 ≤ w5.heap.size from Nat.le_trans Z4.out bq.size)
  have g0 : w5.cell? ⟨w4.heap.size, 0, none⟩ = some (.int .i64 n) := blk_cell kq 0
  have g1 : w5.cell? ⟨w4.heap.size, 1, none⟩ = some (.slice a4 N4 c4) := blk_cell kq 1
  have nz0 : ¬ w4.heap.size = w.heap.size + 1 + 1 := by have := Z4.out; have := Z3.out; omega
  have nz1 : ¬ w.heap.size + 1 + 1 = w4.heap.size := by have := Z4.out; have := Z3.out; omega
  have q2 : (codeT L x == codeT L x) = true := by simp
  have fcode := fun w h => code_of (codeT L x) w h
  rw [EE.out] at fcode
  clear bq kq hw5
  go_region_held3 (fun w' => w'.cell? ⟨w4.heap.size, 0, none⟩ = some (.int .i64 n) ∧ w'.cell? ⟨w4.heap.size, 1, none⟩ = some (.slice a4 N4 c4)) (first | exact ⟨by assumption, by assumption⟩ | go_keep)
    (first
      | (go_at_call 20; (with_reducible refine (fcode _ ?_).mono ?_); exact Ea.Glob.below (Below.refl _ _).drew G5.out; rintro e6 w6 ⟨rfl, hs⟩; have BD := Lib.hid ((Below.refl _ w5).drew.trans hs); have u0 := cell_step g0 BD.out; have u1 := cell_step g1 BD.out; obtain ⟨z0, z1, z2, z3, -⟩ := two_facts (blk_step KR5.out BD.out) (.int .i64 n) (.slice a4 N4 c4); clear hs))
  go_wp2
  rw [show stepL L 1 x false (os, og) (ns, ng) = giveL L x from rfl]
  exact does_end (T5.out.low BD.out) (V5.out.below BD.out) R4.out.1 (by rw [LN.out.1]; exact R4.out.2) (M5.out.trans (Kept.of_below BD.out)) (by omega) NP.out.1 NP.out.2.1 (blk_step KR5.out BD.out) rfl rfl rfl
set_option maxRecDepth 100000 in
set_option maxHeartbeats 4000000 in
theorem does_r1 (ab pb n : Nat) (L : List Pg) (v : Value) (us : List Up) (x os og ns ng : Int) (w : World) (hT : TabAt w ab pb n L) (hv : OwnS lUp 0 w v us) (hr : RefOk us L) (hl : us.length ≤ 900) (hg : Ea.Glob w) (hpb : ¬ 0 = pb) :
    Calls Tryd.prog 9 #[.pointer (some ⟨ab, 0, none⟩), refT n v, doVal 1 x true os og ns ng] w (DoesP w ab pb n us (stepL L 1 x true (os, og) (ns, ng))) := by
  obtain ⟨va, vc, rfl, hlc, hcm⟩ := hv.sv.lenform
  obtain ⟨N, hN⟩ : ∃ N, us.length = N := ⟨_, rfl⟩
  have H := Lib.hid hr
  have LN := Lib.hid (show us.length = N ∧ N ≤ 900 from ⟨hN, hN ▸ hl⟩)
  have HL := Lib.hid (show L.length = n from hT.len)
  have NP := Lib.hid (show ab < w.heap.size ∧ pb < w.heap.size ∧ ¬ 0 = pb from ⟨hT.ltA, hT.ltP, hpb⟩)
  rw [hN] at hlc hv ⊢
  obtain ⟨w1, hw1⟩ : ∃ W, W = w.alloc (.cells #[.int .i64 n, .slice va N vc] 28) := ⟨_, rfl⟩
  obtain ⟨w2, hw2⟩ : ∃ W, W = w1.alloc (doObj 1 x true os og ns ng) := ⟨_, rfl⟩
  obtain ⟨w3, hw3⟩ : ∃ W, W = w2.alloc (.cells #[.int .i64 0, .slice none 0 0] 28) := ⟨_, rfl⟩
  obtain ⟨W, hW⟩ : ∃ W, W = w3.alloc (.cells #[.int .i64 os, .int .i64 og] 32) := ⟨_, rfl⟩
  have b1 := alloc_below0 w (.cells #[.int .i64 n, .slice va N vc] 28)
  have k1 := blk_new w (.cells #[.int .i64 n, .slice va N vc] 28)
  rw [← hw1] at b1 k1
  have b2 := alloc_below0 w1 (doObj 1 x true os og ns ng)
  have k2 := blk_new w1 (doObj 1 x true os og ns ng)
  rw [← hw2] at b2 k2
  have b3 := alloc_below0 w2 (.cells #[.int .i64 0, .slice none 0 0] 28)
  have k3 := blk_new w2 (.cells #[.int .i64 0, .slice none 0 0] 28)
  rw [← hw3] at b3 k3
  have b4 := alloc_below0 w3 (.cells #[.int .i64 os, .int .i64 og] 32)
  have k4 := blk_new w3 (.cells #[.int .i64 os, .int .i64 og] 32)
  rw [← hW] at b4 k4
  have z1 : w1.heap.size = w.heap.size + 1 := by rw [hw1]; simp
  have z2 : w2.heap.size = w.heap.size + 1 + 1 := by rw [hw2]; simp [z1]
  have z3 : w3.heap.size = w.heap.size + 1 + 1 + 1 := by rw [hw3]; simp [z2]
  have Z0 := Lib.hid (show W.heap.size = w.heap.size + 4 by rw [hW]; simp [z3])
  have B0 := Lib.hid (show Below w.heap.size w W from ((b1.trans (b2.mono b1.size)).trans (b3.mono (Nat.le_trans b1.size b2.size))).trans (b4.mono (Nat.le_trans (Nat.le_trans b1.size b2.size) b3.size)))
  have KT0 := Lib.hid (blk_step (blk_step (blk_step k1 b2) b3) b4)
  have KD0 := Lib.hid (blk_step (blk_step k2 b3) b4)
  have KR0 := Lib.hid (blk_step k3 b4)
  have KO0 := Lib.hid k4
  rw [z1] at KD0
  rw [z2] at KR0
  rw [z3] at KO0
  rw [hw3, hw2, hw1] at hW
  have T0 := Lib.hid (hT.low B0.out)
  have V0 := Lib.hid (hv.below B0.out)
  have V00 := Lib.hid hv
  have G00 := Lib.hid hg
  have G0 := Lib.hid (Ea.Glob.below B0.out hg)
  clear hT hv hr hN hl hg hpb b1 b2 b3 b4 k1 k2 k3 k4 z1 z2 z3 hw1 hw2 hw3
  clear w1 w2 w3
  unfold doObj at hW
  unfold refT doVal
  go_enter Tryd.func9, Tryd.ntmps9
  go_wp2_with fail
  rw [← hW]
  have fh := rf_head n (.slice va N vc) us L x W V0.out.sv H.out HL.out
  unfold refT at fh
  refine fh.mono ?_
  rintro ev wh ⟨rfl, hs⟩
  obtain ⟨⟨o1, o2⟩, ho⟩ : ∃ o, headT L x = o := ⟨_, rfl⟩
  have OH := Lib.hid (show oldOf L x true (os, og) = (o1, o2) from ho)
  rw [ho]
  unfold refV
  have KZ := blk_step KO0.out hs
  obtain ⟨q0, q1, q2, q3, q4⟩ := two_facts KZ (.int .i64 o1) (.int .i64 o2)
  obtain ⟨w1, hw1⟩ : ∃ W, W = (wh.setCell ⟨w.heap.size + 1 + 1 + 1, 0, none⟩ (.int .i64 o1)).setCell ⟨w.heap.size + 1 + 1 + 1, 1, none⟩ (.int .i64 o2) := ⟨_, rfl⟩
  rw [← hw1] at q4
  have kk : Kept (fun k => k = w.heap.size + 1 + 1 + 1) W w1 := by rw [hw1]; exact ((Kept.of_below (S := fun k => k = w.heap.size + 1 + 1 + 1) hs).setCell 0 _).setCell 1 _
  have M1 := Lib.hid (show Kept (fun k => k = pb) w w1 from Kept.of_below (B0.out.trans (kk.below (n := w.heap.size) (fun k h => by omega) B0.out.size)))
  have KT1 := Lib.hid (blk_keep KT0.out kk (by omega))
  have KD1 := Lib.hid (DoAt.of (blk_keep KD0.out kk (by omega)))
  have KR1 := Lib.hid (blk_keep KR0.out kk (by omega))
  have KO1 := Lib.hid (RfAt.of q4)
  have T1 := Lib.hid (T0.out.keep kk (by have := NP.out.1; omega) (by have := NP.out.2.1; omega))
  have V1 := Lib.hid (V00.out.below (B0.out.trans (kk.below (n := w.heap.size) (fun k h => by omega) B0.out.size)))
  have G1 := Lib.hid (Ea.Glob.below (B0.out.trans (kk.below (n := w.heap.size) (fun k h => by omega) B0.out.size)) G00.out)
  have Z1 := Lib.hid (show w.heap.size + 4 ≤ w1.heap.size from Z0.out ▸ kk.size)
  have d0 := KD1.out.c0
  have d1 := KD1.out.c1
  have d5 := KD1.out.c5
  have d6 := KD1.out.c6
  have o3 := KO1.out.c0
  have o4 := KO1.out.c1
  rw [hw1] at d0 d1 d5 d6 o3 o4
  clear hs fh KZ q4 hW kk
  go_wp2_with fail
  rw [← hw1]
  clear d0 d1 d5 d6 o3 o4 q0 q1 q2 q3 hw1
  have d1 := KD1.out.c1
  refine (give_any _ ab pb n L x T1.out).mono ?_
  rintro ev w3 ⟨rfl, hT, hk⟩
  have M3 := Lib.hid (M1.out.trans hk)
  have KT3 := Lib.hid (blk_keep KT1.out hk (by have := NP.out.2.1; omega))
  have KD3 := Lib.hid (KD1.out.keep hk (by have := NP.out.2.1; omega))
  have KR3 := Lib.hid (blk_keep KR1.out hk (by have := NP.out.2.1; omega))
  have KO3 := Lib.hid (KO1.out.keep hk (by have := NP.out.2.1; omega))
  have V3 := Lib.hid (T1.out.keepUp V1.out hk)
  have G3 := Lib.hid (Glob.keep G1.out hk NP.out.2.2)
  have Z3 := Lib.hid (show w.heap.size + 4 ≤ w3.heap.size from Nat.le_trans Z1.out hk.size)
  have T3 := Lib.hid hT
  obtain ⟨e, he⟩ : ∃ e, errV (codeT L x) = e := ⟨_, rfl⟩
  have EE := Lib.hid he
  rw [he]
  have t0 := blk_cell KT3.out 0
  have t1 := blk_cell KT3.out 1
  have d3 := KD3.out.c1
  have fr := rf_give n (.slice va N vc) us L x w3 V3.out H.out HL.out (by have := LN.out; omega)
  unfold refT at fr
  clear hT hk he
  go_wp2_with fail
  refine fr.mono ?_
  rintro ev w4 ⟨v4, us4, rfl, hv4, hr4, hl4, hs⟩
  have M4 := Lib.hid (M3.out.trans (Kept.of_below hs))
  have KT4 := Lib.hid (blk_step KT3.out hs)
  have KD4 := Lib.hid (KD3.out.step hs)
  have KR4 := Lib.hid (blk_step KR3.out hs)
  have KO4 := Lib.hid (KO3.out.step hs)
  have T4 := Lib.hid (T3.out.low hs)
  have G4 := Lib.hid (Ea.Glob.below hs G3.out)
  have Z4 := Lib.hid (show w.heap.size + 4 ≤ w4.heap.size from Nat.le_trans Z3.out hs.size)
  obtain ⟨N4, hN4⟩ : ∃ N4, us4.length = N4 := ⟨_, rfl⟩
  obtain ⟨a4, c4, rfl, -, -⟩ := hv4.lenN hN4
  have V4 := Lib.hid hv4
  have R4 := Lib.hid (show RefOk us4 (giveL L x) ∧ us4.length ≤ N + 1 from ⟨hr4, by have := LN.out.1; omega⟩)
  clear hs fr hv4 hr4 hl4 t0 t1 d3
  go_wp2_with fail
  have bq := alloc_below0 w4 (.cells #[.int .i64 n, .slice a4 N4 c4] 28)
  have kq := blk_new w4 (.cells #[.int .i64 n, .slice a4 N4 c4] 28)
  obtain ⟨w5, hw5⟩ : ∃ W, W = w4.alloc (.cells #[.int .i64 n, .slice a4 N4 c4] 28) := ⟨_, rfl⟩
  rw [← hw5] at bq kq ⊢
  have M5 := Lib.hid (M4.out.trans (Kept.of_below bq))
  have KT5 := Lib.hid (blk_step KT4.out bq)
  have KD5 := Lib.hid (KD4.out.step bq)
  have KR5 := Lib.hid (blk_step KR4.out bq)
  have KO5 := Lib.hid (KO4.out.step bq)
  have T5 := Lib.hid (T4.out.low bq)
  have V5 := Lib.hid (V4.out.below bq)
  have G5 := Lib.hid (Ea.Glob.below bq G4.out)
  have Z5 := Lib.hid (show w.heap.size + 4 ≤ w5.heap.size from Nat.le_trans Z4.out bq.size)
  have g0 : w5.cell? ⟨w4.heap.size, 0, none⟩ = some (.int .i64 n) := blk_cell kq 0
  have g1 : w5.cell? ⟨w4.heap.size, 1, none⟩ = some (.slice a4 N4 c4) := blk_cell kq 1
  have nz0 : ¬ w4.heap.size = w.heap.size + 1 + 1 := by have := Z4.out; have := Z3.out; omega
  have nz1 : ¬ w.heap.size + 1 + 1 = w4.heap.size := by have := Z4.out; have := Z3.out; omega
  have q2 : (codeT L x == codeT L x) = true := by simp
  have fcode := fun w h => code_of (codeT L x) w h
  rw [EE.out] at fcode
  clear bq kq hw5
  go_region_held3 (fun w' => w'.cell? ⟨w4.heap.size, 0, none⟩ = some (.int .i64 n) ∧ w'.cell? ⟨w4.heap.size, 1, none⟩ = some (.slice a4 N4 c4)) (first | exact ⟨by assumption, by assumption⟩ | go_keep)
    (first
      | (go_at_call 20; (with_reducible refine (fcode _ ?_).mono ?_); exact Ea.Glob.below (Below.refl _ _).drew G5.out; rintro e6 w6 ⟨rfl, hs⟩; have BD := Lib.hid ((Below.refl _ w5).drew.trans hs); have u0 := cell_step g0 BD.out; have u1 := cell_step g1 BD.out; obtain ⟨z0, z1, z2, z3, -⟩ := two_facts (blk_step KR5.out BD.out) (.int .i64 n) (.slice a4 N4 c4); clear hs))
  go_wp2
  rw [show stepL L 1 x true (os, og) (ns, ng) = giveL L x from rfl]
  exact does_end (T5.out.low BD.out) (V5.out.below BD.out) R4.out.1 (by rw [LN.out.1]; exact R4.out.2) (M5.out.trans (Kept.of_below BD.out)) (by omega) NP.out.1 NP.out.2.1 (blk_step KR5.out BD.out) rfl rfl rfl
set_option maxRecDepth 100000 in
set_option maxHeartbeats 4000000 in
theorem does_p2 (ab pb n : Nat) (L : List Pg) (v : Value) (us : List Up) (x os og ns ng : Int) (w : World) (hT : TabAt w ab pb n L) (hv : OwnS lUp 0 w v us) (hr : RefOk us L) (hl : us.length ≤ 900) (hg : Ea.Glob w) (hpb : ¬ 0 = pb) :
    Calls Tryd.prog 9 #[.pointer (some ⟨ab, 0, none⟩), refT n v, doVal 2 x false os og ns ng] w (DoesP w ab pb n us (stepL L 2 x false (os, og) (ns, ng))) := by
  obtain ⟨va, vc, rfl, hlc, hcm⟩ := hv.sv.lenform
  obtain ⟨N, hN⟩ : ∃ N, us.length = N := ⟨_, rfl⟩
  have H := Lib.hid hr
  have LN := Lib.hid (show us.length = N ∧ N ≤ 900 from ⟨hN, hN ▸ hl⟩)
  have HL := Lib.hid (show L.length = n from hT.len)
  have NP := Lib.hid (show ab < w.heap.size ∧ pb < w.heap.size ∧ ¬ 0 = pb from ⟨hT.ltA, hT.ltP, hpb⟩)
  rw [hN] at hlc hv ⊢
  obtain ⟨w1, hw1⟩ : ∃ W, W = w.alloc (.cells #[.int .i64 n, .slice va N vc] 28) := ⟨_, rfl⟩
  obtain ⟨w2, hw2⟩ : ∃ W, W = w1.alloc (doObj 2 x false os og ns ng) := ⟨_, rfl⟩
  obtain ⟨w3, hw3⟩ : ∃ W, W = w2.alloc (.cells #[.int .i64 0, .slice none 0 0] 28) := ⟨_, rfl⟩
  obtain ⟨W, hW⟩ : ∃ W, W = w3.alloc (.cells #[.int .i64 os, .int .i64 og] 32) := ⟨_, rfl⟩
  have b1 := alloc_below0 w (.cells #[.int .i64 n, .slice va N vc] 28)
  have k1 := blk_new w (.cells #[.int .i64 n, .slice va N vc] 28)
  rw [← hw1] at b1 k1
  have b2 := alloc_below0 w1 (doObj 2 x false os og ns ng)
  have k2 := blk_new w1 (doObj 2 x false os og ns ng)
  rw [← hw2] at b2 k2
  have b3 := alloc_below0 w2 (.cells #[.int .i64 0, .slice none 0 0] 28)
  have k3 := blk_new w2 (.cells #[.int .i64 0, .slice none 0 0] 28)
  rw [← hw3] at b3 k3
  have b4 := alloc_below0 w3 (.cells #[.int .i64 os, .int .i64 og] 32)
  have k4 := blk_new w3 (.cells #[.int .i64 os, .int .i64 og] 32)
  rw [← hW] at b4 k4
  have z1 : w1.heap.size = w.heap.size + 1 := by rw [hw1]; simp
  have z2 : w2.heap.size = w.heap.size + 1 + 1 := by rw [hw2]; simp [z1]
  have z3 : w3.heap.size = w.heap.size + 1 + 1 + 1 := by rw [hw3]; simp [z2]
  have Z0 := Lib.hid (show W.heap.size = w.heap.size + 4 by rw [hW]; simp [z3])
  have B0 := Lib.hid (show Below w.heap.size w W from ((b1.trans (b2.mono b1.size)).trans (b3.mono (Nat.le_trans b1.size b2.size))).trans (b4.mono (Nat.le_trans (Nat.le_trans b1.size b2.size) b3.size)))
  have KT0 := Lib.hid (blk_step (blk_step (blk_step k1 b2) b3) b4)
  have KD0 := Lib.hid (blk_step (blk_step k2 b3) b4)
  have KR0 := Lib.hid (blk_step k3 b4)
  have KO0 := Lib.hid k4
  rw [z1] at KD0
  rw [z2] at KR0
  rw [z3] at KO0
  rw [hw3, hw2, hw1] at hW
  have T0 := Lib.hid (hT.low B0.out)
  have V0 := Lib.hid (hv.below B0.out)
  have G0 := Lib.hid (Ea.Glob.below B0.out hg)
  clear hT hv hr hN hl hg hpb b1 b2 b3 b4 k1 k2 k3 k4 z1 z2 z3 hw1 hw2 hw3
  clear w1 w2 w3
  unfold doObj at hW
  unfold refT doVal
  go_enter Tryd.func9, Tryd.ntmps9
  go_wp2_with fail
  rw [← hW]
  have OH := Lib.hid (show oldOf L x false (os, og) = (os, og) from rfl)
  obtain ⟨w1, hw1⟩ : ∃ x, x = W := ⟨_, rfl⟩
  rw [← hw1]
  subst hw1
  have M1 := Lib.hid (show Kept (fun k => k = pb) w w1 from Kept.of_below B0.out)
  have KT1 := KT0
  have KD1 := Lib.hid (DoAt.of KD0.out)
  have KR1 := KR0
  have KO1 := Lib.hid (RfAt.of KO0.out)
  have T1 := T0
  have V1 := V0
  have G1 := G0
  have Z1 := Lib.hid (show w.heap.size + 4 ≤ w1.heap.size from Nat.le_of_eq Z0.out.symm)
  have d1 := KD1.out.c1
  clear hW B0 KT0 KD0 KR0 KO0 T0 V0 G0
  refine (head_any _ ab pb n L x T1.out).mono ?_
  rintro ev w3 ⟨rfl, hs⟩
  have M3 := Lib.hid (M1.out.trans (Kept.of_below hs))
  have KT3 := Lib.hid (blk_step KT1.out hs)
  have KD3 := Lib.hid (KD1.out.step hs)
  have KR3 := Lib.hid (blk_step KR1.out hs)
  have KO3 := Lib.hid (KO1.out.step hs)
  have T3 := Lib.hid (T1.out.low hs)
  have V3 := Lib.hid (V1.out.below hs)
  have G3 := Lib.hid (Ea.Glob.below hs G1.out)
  have Z3 := Lib.hid (show w.heap.size + 4 ≤ w3.heap.size from Nat.le_trans Z1.out hs.size)
  obtain ⟨e, he⟩ : ∃ e, errV (codeT L x) = e := ⟨_, rfl⟩
  have EE := Lib.hid he
  obtain ⟨⟨y1, y2⟩, hy⟩ : ∃ o, headT L x = o := ⟨_, rfl⟩
  rw [he, hy]
  unfold refV
  have bx := alloc_below0 w3 (.cells #[.int .i64 y1, .int .i64 y2] 32)
  have kx := blk_new w3 (.cells #[.int .i64 y1, .int .i64 y2] 32)
  obtain ⟨w8, hw8⟩ : ∃ W, W = w3.alloc (.cells #[.int .i64 y1, .int .i64 y2] 32) := ⟨_, rfl⟩
  rw [← hw8] at bx kx
  have M8 := Lib.hid (M3.out.trans (Kept.of_below bx))
  have KT8 := Lib.hid (blk_step KT3.out bx)
  have KD8 := Lib.hid (KD3.out.step bx)
  have KR8 := Lib.hid (blk_step KR3.out bx)
  have KO8 := Lib.hid (KO3.out.step bx)
  have T8 := Lib.hid (T3.out.low bx)
  have V8 := Lib.hid (V3.out.below bx)
  have G8 := Lib.hid (Ea.Glob.below bx G3.out)
  have Z8 := Lib.hid (show w.heap.size + 4 ≤ w8.heap.size from Nat.le_trans Z3.out bx.size)
  have KX8 := Lib.hid kx
  have t0 := blk_cell KT8.out 0
  have t1 := blk_cell KT8.out 1
  have d3 := KD8.out.c1
  have fr := rf_head n (.slice va N vc) us L x w8 V8.out.sv H.out HL.out
  unfold refT at fr
  rw [hy] at fr
  unfold refV at fr
  rw [hw8] at t0 t1 d3
  clear hs he hy bx kx
  go_wp2_with fail
  rw [← hw8]
  clear t0 t1 d3
  refine fr.mono ?_
  rintro ev w4 ⟨rfl, hs⟩
  have M4 := Lib.hid (M8.out.trans (Kept.of_below hs))
  have KT4 := Lib.hid (blk_step KT8.out hs)
  have KD4 := Lib.hid (KD8.out.step hs)
  have KR4 := Lib.hid (blk_step KR8.out hs)
  have KO4 := Lib.hid (KO8.out.step hs)
  have T4 := Lib.hid (T8.out.low hs)
  have V4 := Lib.hid (V8.out.below hs)
  have G4 := Lib.hid (Ea.Glob.below hs G8.out)
  have Z4 := Lib.hid (show w.heap.size + 4 ≤ w4.heap.size from Nat.le_trans Z8.out hs.size)
  have KX4 := Lib.hid (blk_step KX8.out hs)
  have q1 : ((y1 : Int) == (y1 : Int)) = true := by simp
  have q3 : ((y2 : Int) == (y2 : Int)) = true := by simp
  clear hs fr hw8
  go_wp2_with fail
  have bq := alloc_below0 w4 (.cells #[.int .i64 y1, .int .i64 y2] 32)
  have kq := blk_new w4 (.cells #[.int .i64 y1, .int .i64 y2] 32)
  obtain ⟨w5, hw5⟩ : ∃ W, W = w4.alloc (.cells #[.int .i64 y1, .int .i64 y2] 32) := ⟨_, rfl⟩
  rw [← hw5] at bq kq ⊢
  have M5 := Lib.hid (M4.out.trans (Kept.of_below bq))
  have KT5 := Lib.hid (blk_step KT4.out bq)
  have KD5 := Lib.hid (KD4.out.step bq)
  have KR5 := Lib.hid (blk_step KR4.out bq)
  have KO5 := Lib.hid (KO4.out.step bq)
  have T5 := Lib.hid (T4.out.low bq)
  have V5 := Lib.hid (V4.out.below bq)
  have G5 := Lib.hid (Ea.Glob.below bq G4.out)
  have Z5 := Lib.hid (show w.heap.size + 4 ≤ w5.heap.size from Nat.le_trans Z4.out bq.size)
  have g0 : w5.cell? ⟨w.heap.size, 0, none⟩ = some (.int .i64 n) := blk_cell KT5.out 0
  have g1 : w5.cell? ⟨w.heap.size, 1, none⟩ = some (.slice va N vc) := blk_cell KT5.out 1
  have g2 : w5.cell? ⟨w3.heap.size, 0, none⟩ = some (.int .i64 y1) := blk_cell (blk_step KX4.out bq) 0
  have g3 : w5.cell? ⟨w3.heap.size, 1, none⟩ = some (.int .i64 y2) := blk_cell (blk_step KX4.out bq) 1
  have g4 : w5.cell? ⟨w4.heap.size, 0, none⟩ = some (.int .i64 y1) := blk_cell kq 0
  have g5 : w5.cell? ⟨w4.heap.size, 1, none⟩ = some (.int .i64 y2) := blk_cell kq 1
  have nz0 : ¬ w.heap.size = w.heap.size + 1 + 1 := by have := Z4.out; have := Z3.out; omega
  have nz1 : ¬ w.heap.size + 1 + 1 = w.heap.size := by have := Z4.out; have := Z3.out; omega
  have nz2 : ¬ w3.heap.size = w.heap.size + 1 + 1 := by have := Z4.out; have := Z3.out; omega
  have nz3 : ¬ w.heap.size + 1 + 1 = w3.heap.size := by have := Z4.out; have := Z3.out; omega
  have nz4 : ¬ w4.heap.size = w.heap.size + 1 + 1 := by have := Z4.out; have := Z3.out; omega
  have nz5 : ¬ w.heap.size + 1 + 1 = w4.heap.size := by have := Z4.out; have := Z3.out; omega
  have q2 : (codeT L x == codeT L x) = true := by simp
  have fcode := fun w h => code_of (codeT L x) w h
  rw [EE.out] at fcode
  clear bq kq hw5
  go_region_held3 (fun w' => w'.cell? ⟨w.heap.size, 0, none⟩ = some (.int .i64 n) ∧ w'.cell? ⟨w.heap.size, 1, none⟩ = some (.slice va N vc) ∧ w'.cell? ⟨w3.heap.size, 0, none⟩ = some (.int .i64 y1) ∧ w'.cell? ⟨w3.heap.size, 1, none⟩ = some (.int .i64 y2) ∧ w'.cell? ⟨w4.heap.size, 0, none⟩ = some (.int .i64 y1) ∧ w'.cell? ⟨w4.heap.size, 1, none⟩ = some (.int .i64 y2)) (first | exact ⟨by assumption, by assumption, by assumption, by assumption, by assumption, by assumption⟩ | go_keep)
    (first
      | (go_at_call 20; (with_reducible refine (fcode _ ?_).mono ?_); exact Ea.Glob.below (Below.refl _ _).drew G5.out; rintro e6 w6 ⟨rfl, hs⟩; have BD := Lib.hid ((Below.refl _ w5).drew.trans hs); have u0 := cell_step g0 BD.out; have u1 := cell_step g1 BD.out; have u2 := cell_step g2 BD.out; have u3 := cell_step g3 BD.out; have u4 := cell_step g4 BD.out; have u5 := cell_step g5 BD.out; obtain ⟨z0, z1, z2, z3, -⟩ := two_facts (blk_step KR5.out BD.out) (.int .i64 n) (.slice va N vc); clear hs))
  go_wp2
  rw [show stepL L 2 x false (os, og) (ns, ng) = L from rfl]
  exact does_end (T5.out.low BD.out) (V5.out.below BD.out) H.out (by omega) (M5.out.trans (Kept.of_below BD.out)) (by omega) NP.out.1 NP.out.2.1 (blk_step KR5.out BD.out) rfl rfl rfl
set_option maxRecDepth 100000 in
set_option maxHeartbeats 4000000 in
theorem does_r2 (ab pb n : Nat) (L : List Pg) (v : Value) (us : List Up) (x os og ns ng : Int) (w : World) (hT : TabAt w ab pb n L) (hv : OwnS lUp 0 w v us) (hr : RefOk us L) (hl : us.length ≤ 900) (hg : Ea.Glob w) (hpb : ¬ 0 = pb) :
    Calls Tryd.prog 9 #[.pointer (some ⟨ab, 0, none⟩), refT n v, doVal 2 x true os og ns ng] w (DoesP w ab pb n us (stepL L 2 x true (os, og) (ns, ng))) := by
  obtain ⟨va, vc, rfl, hlc, hcm⟩ := hv.sv.lenform
  obtain ⟨N, hN⟩ : ∃ N, us.length = N := ⟨_, rfl⟩
  have H := Lib.hid hr
  have LN := Lib.hid (show us.length = N ∧ N ≤ 900 from ⟨hN, hN ▸ hl⟩)
  have HL := Lib.hid (show L.length = n from hT.len)
  have NP := Lib.hid (show ab < w.heap.size ∧ pb < w.heap.size ∧ ¬ 0 = pb from ⟨hT.ltA, hT.ltP, hpb⟩)
  rw [hN] at hlc hv ⊢
  obtain ⟨w1, hw1⟩ : ∃ W, W = w.alloc (.cells #[.int .i64 n, .slice va N vc] 28) := ⟨_, rfl⟩
  obtain ⟨w2, hw2⟩ : ∃ W, W = w1.alloc (doObj 2 x true os og ns ng) := ⟨_, rfl⟩
  obtain ⟨w3, hw3⟩ : ∃ W, W = w2.alloc (.cells #[.int .i64 0, .slice none 0 0] 28) := ⟨_, rfl⟩
  obtain ⟨W, hW⟩ : ∃ W, W = w3.alloc (.cells #[.int .i64 os, .int .i64 og] 32) := ⟨_, rfl⟩
  have b1 := alloc_below0 w (.cells #[.int .i64 n, .slice va N vc] 28)
  have k1 := blk_new w (.cells #[.int .i64 n, .slice va N vc] 28)
  rw [← hw1] at b1 k1
  have b2 := alloc_below0 w1 (doObj 2 x true os og ns ng)
  have k2 := blk_new w1 (doObj 2 x true os og ns ng)
  rw [← hw2] at b2 k2
  have b3 := alloc_below0 w2 (.cells #[.int .i64 0, .slice none 0 0] 28)
  have k3 := blk_new w2 (.cells #[.int .i64 0, .slice none 0 0] 28)
  rw [← hw3] at b3 k3
  have b4 := alloc_below0 w3 (.cells #[.int .i64 os, .int .i64 og] 32)
  have k4 := blk_new w3 (.cells #[.int .i64 os, .int .i64 og] 32)
  rw [← hW] at b4 k4
  have z1 : w1.heap.size = w.heap.size + 1 := by rw [hw1]; simp
  have z2 : w2.heap.size = w.heap.size + 1 + 1 := by rw [hw2]; simp [z1]
  have z3 : w3.heap.size = w.heap.size + 1 + 1 + 1 := by rw [hw3]; simp [z2]
  have Z0 := Lib.hid (show W.heap.size = w.heap.size + 4 by rw [hW]; simp [z3])
  have B0 := Lib.hid (show Below w.heap.size w W from ((b1.trans (b2.mono b1.size)).trans (b3.mono (Nat.le_trans b1.size b2.size))).trans (b4.mono (Nat.le_trans (Nat.le_trans b1.size b2.size) b3.size)))
  have KT0 := Lib.hid (blk_step (blk_step (blk_step k1 b2) b3) b4)
  have KD0 := Lib.hid (blk_step (blk_step k2 b3) b4)
  have KR0 := Lib.hid (blk_step k3 b4)
  have KO0 := Lib.hid k4
  rw [z1] at KD0
  rw [z2] at KR0
  rw [z3] at KO0
  rw [hw3, hw2, hw1] at hW
  have T0 := Lib.hid (hT.low B0.out)
  have V0 := Lib.hid (hv.below B0.out)
  have V00 := Lib.hid hv
  have G00 := Lib.hid hg
  have G0 := Lib.hid (Ea.Glob.below B0.out hg)
  clear hT hv hr hN hl hg hpb b1 b2 b3 b4 k1 k2 k3 k4 z1 z2 z3 hw1 hw2 hw3
  clear w1 w2 w3
  unfold doObj at hW
  unfold refT doVal
  go_enter Tryd.func9, Tryd.ntmps9
  go_wp2_with fail
  rw [← hW]
  have fh := rf_head n (.slice va N vc) us L x W V0.out.sv H.out HL.out
  unfold refT at fh
  refine fh.mono ?_
  rintro ev wh ⟨rfl, hs⟩
  obtain ⟨⟨o1, o2⟩, ho⟩ : ∃ o, headT L x = o := ⟨_, rfl⟩
  have OH := Lib.hid (show oldOf L x true (os, og) = (o1, o2) from ho)
  rw [ho]
  unfold refV
  have KZ := blk_step KO0.out hs
  obtain ⟨q0, q1, q2, q3, q4⟩ := two_facts KZ (.int .i64 o1) (.int .i64 o2)
  obtain ⟨w1, hw1⟩ : ∃ W, W = (wh.setCell ⟨w.heap.size + 1 + 1 + 1, 0, none⟩ (.int .i64 o1)).setCell ⟨w.heap.size + 1 + 1 + 1, 1, none⟩ (.int .i64 o2) := ⟨_, rfl⟩
  rw [← hw1] at q4
  have kk : Kept (fun k => k = w.heap.size + 1 + 1 + 1) W w1 := by rw [hw1]; exact ((Kept.of_below (S := fun k => k = w.heap.size + 1 + 1 + 1) hs).setCell 0 _).setCell 1 _
  have M1 := Lib.hid (show Kept (fun k => k = pb) w w1 from Kept.of_below (B0.out.trans (kk.below (n := w.heap.size) (fun k h => by omega) B0.out.size)))
  have KT1 := Lib.hid (blk_keep KT0.out kk (by omega))
  have KD1 := Lib.hid (DoAt.of (blk_keep KD0.out kk (by omega)))
  have KR1 := Lib.hid (blk_keep KR0.out kk (by omega))
  have KO1 := Lib.hid (RfAt.of q4)
  have T1 := Lib.hid (T0.out.keep kk (by have := NP.out.1; omega) (by have := NP.out.2.1; omega))
  have V1 := Lib.hid (V00.out.below (B0.out.trans (kk.below (n := w.heap.size) (fun k h => by omega) B0.out.size)))
  have G1 := Lib.hid (Ea.Glob.below (B0.out.trans (kk.below (n := w.heap.size) (fun k h => by omega) B0.out.size)) G00.out)
  have Z1 := Lib.hid (show w.heap.size + 4 ≤ w1.heap.size from Z0.out ▸ kk.size)
  have d0 := KD1.out.c0
  have d1 := KD1.out.c1
  have d5 := KD1.out.c5
  have d6 := KD1.out.c6
  have o3 := KO1.out.c0
  have o4 := KO1.out.c1
  rw [hw1] at d0 d1 d5 d6 o3 o4
  clear hs fh KZ q4 hW kk
  go_wp2_with fail
  rw [← hw1]
  clear d0 d1 d5 d6 o3 o4 q0 q1 q2 q3 hw1
  have d1 := KD1.out.c1
  refine (head_any _ ab pb n L x T1.out).mono ?_
  rintro ev w3 ⟨rfl, hs⟩
  have M3 := Lib.hid (M1.out.trans (Kept.of_below hs))
  have KT3 := Lib.hid (blk_step KT1.out hs)
  have KD3 := Lib.hid (KD1.out.step hs)
  have KR3 := Lib.hid (blk_step KR1.out hs)
  have KO3 := Lib.hid (KO1.out.step hs)
  have T3 := Lib.hid (T1.out.low hs)
  have V3 := Lib.hid (V1.out.below hs)
  have G3 := Lib.hid (Ea.Glob.below hs G1.out)
  have Z3 := Lib.hid (show w.heap.size + 4 ≤ w3.heap.size from Nat.le_trans Z1.out hs.size)
  obtain ⟨e, he⟩ : ∃ e, errV (codeT L x) = e := ⟨_, rfl⟩
  have EE := Lib.hid he
  obtain ⟨⟨y1, y2⟩, hy⟩ : ∃ o, headT L x = o := ⟨_, rfl⟩
  rw [he, hy]
  unfold refV
  have bx := alloc_below0 w3 (.cells #[.int .i64 y1, .int .i64 y2] 32)
  have kx := blk_new w3 (.cells #[.int .i64 y1, .int .i64 y2] 32)
  obtain ⟨w8, hw8⟩ : ∃ W, W = w3.alloc (.cells #[.int .i64 y1, .int .i64 y2] 32) := ⟨_, rfl⟩
  rw [← hw8] at bx kx
  have M8 := Lib.hid (M3.out.trans (Kept.of_below bx))
  have KT8 := Lib.hid (blk_step KT3.out bx)
  have KD8 := Lib.hid (KD3.out.step bx)
  have KR8 := Lib.hid (blk_step KR3.out bx)
  have KO8 := Lib.hid (KO3.out.step bx)
  have T8 := Lib.hid (T3.out.low bx)
  have V8 := Lib.hid (V3.out.below bx)
  have G8 := Lib.hid (Ea.Glob.below bx G3.out)
  have Z8 := Lib.hid (show w.heap.size + 4 ≤ w8.heap.size from Nat.le_trans Z3.out bx.size)
  have KX8 := Lib.hid kx
  have t0 := blk_cell KT8.out 0
  have t1 := blk_cell KT8.out 1
  have d3 := KD8.out.c1
  have fr := rf_head n (.slice va N vc) us L x w8 V8.out.sv H.out HL.out
  unfold refT at fr
  rw [hy] at fr
  unfold refV at fr
  rw [hw8] at t0 t1 d3
  clear hs he hy bx kx
  go_wp2_with fail
  rw [← hw8]
  clear t0 t1 d3
  refine fr.mono ?_
  rintro ev w4 ⟨rfl, hs⟩
  have M4 := Lib.hid (M8.out.trans (Kept.of_below hs))
  have KT4 := Lib.hid (blk_step KT8.out hs)
  have KD4 := Lib.hid (KD8.out.step hs)
  have KR4 := Lib.hid (blk_step KR8.out hs)
  have KO4 := Lib.hid (KO8.out.step hs)
  have T4 := Lib.hid (T8.out.low hs)
  have V4 := Lib.hid (V8.out.below hs)
  have G4 := Lib.hid (Ea.Glob.below hs G8.out)
  have Z4 := Lib.hid (show w.heap.size + 4 ≤ w4.heap.size from Nat.le_trans Z8.out hs.size)
  have KX4 := Lib.hid (blk_step KX8.out hs)
  have q1 : ((y1 : Int) == (y1 : Int)) = true := by simp
  have q3 : ((y2 : Int) == (y2 : Int)) = true := by simp
  clear hs fr hw8
  go_wp2_with fail
  have bq := alloc_below0 w4 (.cells #[.int .i64 y1, .int .i64 y2] 32)
  have kq := blk_new w4 (.cells #[.int .i64 y1, .int .i64 y2] 32)
  obtain ⟨w5, hw5⟩ : ∃ W, W = w4.alloc (.cells #[.int .i64 y1, .int .i64 y2] 32) := ⟨_, rfl⟩
  rw [← hw5] at bq kq ⊢
  have M5 := Lib.hid (M4.out.trans (Kept.of_below bq))
  have KT5 := Lib.hid (blk_step KT4.out bq)
  have KD5 := Lib.hid (KD4.out.step bq)
  have KR5 := Lib.hid (blk_step KR4.out bq)
  have KO5 := Lib.hid (KO4.out.step bq)
  have T5 := Lib.hid (T4.out.low bq)
  have V5 := Lib.hid (V4.out.below bq)
  have G5 := Lib.hid (Ea.Glob.below bq G4.out)
  have Z5 := Lib.hid (show w.heap.size + 4 ≤ w5.heap.size from Nat.le_trans Z4.out bq.size)
  have g0 : w5.cell? ⟨w.heap.size, 0, none⟩ = some (.int .i64 n) := blk_cell KT5.out 0
  have g1 : w5.cell? ⟨w.heap.size, 1, none⟩ = some (.slice va N vc) := blk_cell KT5.out 1
  have g2 : w5.cell? ⟨w3.heap.size, 0, none⟩ = some (.int .i64 y1) := blk_cell (blk_step KX4.out bq) 0
  have g3 : w5.cell? ⟨w3.heap.size, 1, none⟩ = some (.int .i64 y2) := blk_cell (blk_step KX4.out bq) 1
  have g4 : w5.cell? ⟨w4.heap.size, 0, none⟩ = some (.int .i64 y1) := blk_cell kq 0
  have g5 : w5.cell? ⟨w4.heap.size, 1, none⟩ = some (.int .i64 y2) := blk_cell kq 1
  have nz0 : ¬ w.heap.size = w.heap.size + 1 + 1 := by have := Z4.out; have := Z3.out; omega
  have nz1 : ¬ w.heap.size + 1 + 1 = w.heap.size := by have := Z4.out; have := Z3.out; omega
  have nz2 : ¬ w3.heap.size = w.heap.size + 1 + 1 := by have := Z4.out; have := Z3.out; omega
  have nz3 : ¬ w.heap.size + 1 + 1 = w3.heap.size := by have := Z4.out; have := Z3.out; omega
  have nz4 : ¬ w4.heap.size = w.heap.size + 1 + 1 := by have := Z4.out; have := Z3.out; omega
  have nz5 : ¬ w.heap.size + 1 + 1 = w4.heap.size := by have := Z4.out; have := Z3.out; omega
  have q2 : (codeT L x == codeT L x) = true := by simp
  have fcode := fun w h => code_of (codeT L x) w h
  rw [EE.out] at fcode
  clear bq kq hw5
  go_region_held3 (fun w' => w'.cell? ⟨w.heap.size, 0, none⟩ = some (.int .i64 n) ∧ w'.cell? ⟨w.heap.size, 1, none⟩ = some (.slice va N vc) ∧ w'.cell? ⟨w3.heap.size, 0, none⟩ = some (.int .i64 y1) ∧ w'.cell? ⟨w3.heap.size, 1, none⟩ = some (.int .i64 y2) ∧ w'.cell? ⟨w4.heap.size, 0, none⟩ = some (.int .i64 y1) ∧ w'.cell? ⟨w4.heap.size, 1, none⟩ = some (.int .i64 y2)) (first | exact ⟨by assumption, by assumption, by assumption, by assumption, by assumption, by assumption⟩ | go_keep)
    (first
      | (go_at_call 20; (with_reducible refine (fcode _ ?_).mono ?_); exact Ea.Glob.below (Below.refl _ _).drew G5.out; rintro e6 w6 ⟨rfl, hs⟩; have BD := Lib.hid ((Below.refl _ w5).drew.trans hs); have u0 := cell_step g0 BD.out; have u1 := cell_step g1 BD.out; have u2 := cell_step g2 BD.out; have u3 := cell_step g3 BD.out; have u4 := cell_step g4 BD.out; have u5 := cell_step g5 BD.out; obtain ⟨z0, z1, z2, z3, -⟩ := two_facts (blk_step KR5.out BD.out) (.int .i64 n) (.slice va N vc); clear hs))
  go_wp2
  rw [show stepL L 2 x true (os, og) (ns, ng) = L from rfl]
  exact does_end (T5.out.low BD.out) (V5.out.below BD.out) H.out (by omega) (M5.out.trans (Kept.of_below BD.out)) (by omega) NP.out.1 NP.out.2.1 (blk_step KR5.out BD.out) rfl rfl rfl
set_option maxRecDepth 100000 in
set_option maxHeartbeats 4000000 in
theorem does_p3 (ab pb n : Nat) (L : List Pg) (v : Value) (us : List Up) (x os og ns ng : Int) (w : World) (hT : TabAt w ab pb n L) (hv : OwnS lUp 0 w v us) (hr : RefOk us L) (hl : us.length ≤ 900) (hg : Ea.Glob w) (hpb : ¬ 0 = pb) :
    Calls Tryd.prog 9 #[.pointer (some ⟨ab, 0, none⟩), refT n v, doVal 3 x false os og ns ng] w (DoesP w ab pb n us (stepL L 3 x false (os, og) (ns, ng))) := by
  obtain ⟨va, vc, rfl, hlc, hcm⟩ := hv.sv.lenform
  obtain ⟨N, hN⟩ : ∃ N, us.length = N := ⟨_, rfl⟩
  have H := Lib.hid hr
  have LN := Lib.hid (show us.length = N ∧ N ≤ 900 from ⟨hN, hN ▸ hl⟩)
  have HL := Lib.hid (show L.length = n from hT.len)
  have NP := Lib.hid (show ab < w.heap.size ∧ pb < w.heap.size ∧ ¬ 0 = pb from ⟨hT.ltA, hT.ltP, hpb⟩)
  rw [hN] at hlc hv ⊢
  obtain ⟨w1, hw1⟩ : ∃ W, W = w.alloc (.cells #[.int .i64 n, .slice va N vc] 28) := ⟨_, rfl⟩
  obtain ⟨w2, hw2⟩ : ∃ W, W = w1.alloc (doObj 3 x false os og ns ng) := ⟨_, rfl⟩
  obtain ⟨w3, hw3⟩ : ∃ W, W = w2.alloc (.cells #[.int .i64 0, .slice none 0 0] 28) := ⟨_, rfl⟩
  obtain ⟨W, hW⟩ : ∃ W, W = w3.alloc (.cells #[.int .i64 os, .int .i64 og] 32) := ⟨_, rfl⟩
  have b1 := alloc_below0 w (.cells #[.int .i64 n, .slice va N vc] 28)
  have k1 := blk_new w (.cells #[.int .i64 n, .slice va N vc] 28)
  rw [← hw1] at b1 k1
  have b2 := alloc_below0 w1 (doObj 3 x false os og ns ng)
  have k2 := blk_new w1 (doObj 3 x false os og ns ng)
  rw [← hw2] at b2 k2
  have b3 := alloc_below0 w2 (.cells #[.int .i64 0, .slice none 0 0] 28)
  have k3 := blk_new w2 (.cells #[.int .i64 0, .slice none 0 0] 28)
  rw [← hw3] at b3 k3
  have b4 := alloc_below0 w3 (.cells #[.int .i64 os, .int .i64 og] 32)
  have k4 := blk_new w3 (.cells #[.int .i64 os, .int .i64 og] 32)
  rw [← hW] at b4 k4
  have z1 : w1.heap.size = w.heap.size + 1 := by rw [hw1]; simp
  have z2 : w2.heap.size = w.heap.size + 1 + 1 := by rw [hw2]; simp [z1]
  have z3 : w3.heap.size = w.heap.size + 1 + 1 + 1 := by rw [hw3]; simp [z2]
  have Z0 := Lib.hid (show W.heap.size = w.heap.size + 4 by rw [hW]; simp [z3])
  have B0 := Lib.hid (show Below w.heap.size w W from ((b1.trans (b2.mono b1.size)).trans (b3.mono (Nat.le_trans b1.size b2.size))).trans (b4.mono (Nat.le_trans (Nat.le_trans b1.size b2.size) b3.size)))
  have KT0 := Lib.hid (blk_step (blk_step (blk_step k1 b2) b3) b4)
  have KD0 := Lib.hid (blk_step (blk_step k2 b3) b4)
  have KR0 := Lib.hid (blk_step k3 b4)
  have KO0 := Lib.hid k4
  rw [z1] at KD0
  rw [z2] at KR0
  rw [z3] at KO0
  rw [hw3, hw2, hw1] at hW
  have T0 := Lib.hid (hT.low B0.out)
  have V0 := Lib.hid (hv.below B0.out)
  have G0 := Lib.hid (Ea.Glob.below B0.out hg)
  clear hT hv hr hN hl hg hpb b1 b2 b3 b4 k1 k2 k3 k4 z1 z2 z3 hw1 hw2 hw3
  clear w1 w2 w3
  unfold doObj at hW
  unfold refT doVal
  go_enter Tryd.func9, Tryd.ntmps9
  go_wp2_with fail
  rw [← hW]
  have OH := Lib.hid (show oldOf L x false (os, og) = (os, og) from rfl)
  obtain ⟨w1, hw1⟩ : ∃ x, x = W := ⟨_, rfl⟩
  rw [← hw1]
  subst hw1
  have M1 := Lib.hid (show Kept (fun k => k = pb) w w1 from Kept.of_below B0.out)
  have KT1 := KT0
  have KD1 := Lib.hid (DoAt.of KD0.out)
  have KR1 := KR0
  have KO1 := Lib.hid (RfAt.of KO0.out)
  have T1 := T0
  have V1 := V0
  have G1 := G0
  have Z1 := Lib.hid (show w.heap.size + 4 ≤ w1.heap.size from Nat.le_of_eq Z0.out.symm)
  have d1 := KD1.out.c1
  clear hW B0 KT0 KD0 KR0 KO0 T0 V0 G0
  have o3 := KO1.out.c0
  have o4 := KO1.out.c1
  have d5 := KD1.out.c5
  have d6 := KD1.out.c6
  go_wp2_with fail
  refine (swap_any _ ab pb n L x os og ns ng T1.out).mono ?_
  rintro ev w3 ⟨rfl, hT, hk⟩
  have M3 := Lib.hid (M1.out.trans hk)
  have KT3 := Lib.hid (blk_keep KT1.out hk (by have := NP.out.2.1; omega))
  have KD3 := Lib.hid (KD1.out.keep hk (by have := NP.out.2.1; omega))
  have KR3 := Lib.hid (blk_keep KR1.out hk (by have := NP.out.2.1; omega))
  have KO3 := Lib.hid (KO1.out.keep hk (by have := NP.out.2.1; omega))
  have V3 := Lib.hid (T1.out.keepUp V1.out hk)
  have G3 := Lib.hid (Glob.keep G1.out hk NP.out.2.2)
  have Z3 := Lib.hid (show w.heap.size + 4 ≤ w3.heap.size from Nat.le_trans Z1.out hk.size)
  have T3 := Lib.hid hT
  obtain ⟨e, he⟩ : ∃ e, errV (codeT L x) = e := ⟨_, rfl⟩
  have EE := Lib.hid he
  obtain ⟨bb, hb⟩ : ∃ z, swapB L x (os, og) = z := ⟨_, rfl⟩
  rw [he, hb]
  have t0 := blk_cell KT3.out 0
  have t1 := blk_cell KT3.out 1
  have d3 := KD3.out.c1
  have o3 := KO3.out.c0
  have o4 := KO3.out.c1
  have d5 := KD3.out.c5
  have d6 := KD3.out.c6
  have fr := rf_swap n (.slice va N vc) us L x os og ns ng w3 V3.out H.out HL.out (by have := LN.out; omega)
  unfold refT refV at fr
  rw [hb] at fr
  clear hT hk he hb
  go_wp2_with fail
  refine fr.mono ?_
  rintro ev w4 ⟨v4, us4, rfl, hv4, hr4, hl4, hs⟩
  have M4 := Lib.hid (M3.out.trans (Kept.of_below hs))
  have KT4 := Lib.hid (blk_step KT3.out hs)
  have KD4 := Lib.hid (KD3.out.step hs)
  have KR4 := Lib.hid (blk_step KR3.out hs)
  have KO4 := Lib.hid (KO3.out.step hs)
  have T4 := Lib.hid (T3.out.low hs)
  have G4 := Lib.hid (Ea.Glob.below hs G3.out)
  have Z4 := Lib.hid (show w.heap.size + 4 ≤ w4.heap.size from Nat.le_trans Z3.out hs.size)
  obtain ⟨N4, hN4⟩ : ∃ N4, us4.length = N4 := ⟨_, rfl⟩
  obtain ⟨a4, c4, rfl, -, -⟩ := hv4.lenN hN4
  have V4 := Lib.hid hv4
  have R4 := Lib.hid (show RefOk us4 (swapL L x (os, og) (ns, ng)) ∧ us4.length ≤ N + 1 from ⟨hr4, by have := LN.out.1; omega⟩)
  have q1 : (bb == bb) = true := by simp
  clear hs fr hv4 hr4 hl4 t0 t1 d3 o3 o4 d5 d6
  go_wp2_with fail
  have bq := alloc_below0 w4 (.cells #[.int .i64 n, .slice a4 N4 c4] 28)
  have kq := blk_new w4 (.cells #[.int .i64 n, .slice a4 N4 c4] 28)
  obtain ⟨w5, hw5⟩ : ∃ W, W = w4.alloc (.cells #[.int .i64 n, .slice a4 N4 c4] 28) := ⟨_, rfl⟩
  rw [← hw5] at bq kq ⊢
  have M5 := Lib.hid (M4.out.trans (Kept.of_below bq))
  have KT5 := Lib.hid (blk_step KT4.out bq)
  have KD5 := Lib.hid (KD4.out.step bq)
  have KR5 := Lib.hid (blk_step KR4.out bq)
  have KO5 := Lib.hid (KO4.out.step bq)
  have T5 := Lib.hid (T4.out.low bq)
  have V5 := Lib.hid (V4.out.below bq)
  have G5 := Lib.hid (Ea.Glob.below bq G4.out)
  have Z5 := Lib.hid (show w.heap.size + 4 ≤ w5.heap.size from Nat.le_trans Z4.out bq.size)
  have g0 : w5.cell? ⟨w4.heap.size, 0, none⟩ = some (.int .i64 n) := blk_cell kq 0
  have g1 : w5.cell? ⟨w4.heap.size, 1, none⟩ = some (.slice a4 N4 c4) := blk_cell kq 1
  have nz0 : ¬ w4.heap.size = w.heap.size + 1 + 1 := by have := Z4.out; have := Z3.out; omega
  have nz1 : ¬ w.heap.size + 1 + 1 = w4.heap.size := by have := Z4.out; have := Z3.out; omega
  have q2 : (codeT L x == codeT L x) = true := by simp
  have fcode := fun w h => code_of (codeT L x) w h
  rw [EE.out] at fcode
  clear bq kq hw5
  go_region_held3 (fun w' => w'.cell? ⟨w4.heap.size, 0, none⟩ = some (.int .i64 n) ∧ w'.cell? ⟨w4.heap.size, 1, none⟩ = some (.slice a4 N4 c4)) (first | exact ⟨by assumption, by assumption⟩ | go_keep)
    (first
      | (go_at_call 20; (with_reducible refine (fcode _ ?_).mono ?_); exact Ea.Glob.below (Below.refl _ _).drew G5.out; rintro e6 w6 ⟨rfl, hs⟩; have BD := Lib.hid ((Below.refl _ w5).drew.trans hs); have u0 := cell_step g0 BD.out; have u1 := cell_step g1 BD.out; obtain ⟨z0, z1, z2, z3, -⟩ := two_facts (blk_step KR5.out BD.out) (.int .i64 n) (.slice a4 N4 c4); clear hs))
  go_wp2
  rw [show stepL L 3 x false (os, og) (ns, ng) = swapL L x (os, og) (ns, ng) from congrArg (fun o => swapL L x o (ns, ng)) OH.out]
  exact does_end (T5.out.low BD.out) (V5.out.below BD.out) R4.out.1 (by rw [LN.out.1]; exact R4.out.2) (M5.out.trans (Kept.of_below BD.out)) (by omega) NP.out.1 NP.out.2.1 (blk_step KR5.out BD.out) rfl rfl rfl
set_option maxRecDepth 100000 in
set_option maxHeartbeats 4000000 in
theorem does_r3 (ab pb n : Nat) (L : List Pg) (v : Value) (us : List Up) (x os og ns ng : Int) (w : World) (hT : TabAt w ab pb n L) (hv : OwnS lUp 0 w v us) (hr : RefOk us L) (hl : us.length ≤ 900) (hg : Ea.Glob w) (hpb : ¬ 0 = pb) :
    Calls Tryd.prog 9 #[.pointer (some ⟨ab, 0, none⟩), refT n v, doVal 3 x true os og ns ng] w (DoesP w ab pb n us (stepL L 3 x true (os, og) (ns, ng))) := by
  obtain ⟨va, vc, rfl, hlc, hcm⟩ := hv.sv.lenform
  obtain ⟨N, hN⟩ : ∃ N, us.length = N := ⟨_, rfl⟩
  have H := Lib.hid hr
  have LN := Lib.hid (show us.length = N ∧ N ≤ 900 from ⟨hN, hN ▸ hl⟩)
  have HL := Lib.hid (show L.length = n from hT.len)
  have NP := Lib.hid (show ab < w.heap.size ∧ pb < w.heap.size ∧ ¬ 0 = pb from ⟨hT.ltA, hT.ltP, hpb⟩)
  rw [hN] at hlc hv ⊢
  obtain ⟨w1, hw1⟩ : ∃ W, W = w.alloc (.cells #[.int .i64 n, .slice va N vc] 28) := ⟨_, rfl⟩
  obtain ⟨w2, hw2⟩ : ∃ W, W = w1.alloc (doObj 3 x true os og ns ng) := ⟨_, rfl⟩
  obtain ⟨w3, hw3⟩ : ∃ W, W = w2.alloc (.cells #[.int .i64 0, .slice none 0 0] 28) := ⟨_, rfl⟩
  obtain ⟨W, hW⟩ : ∃ W, W = w3.alloc (.cells #[.int .i64 os, .int .i64 og] 32) := ⟨_, rfl⟩
  have b1 := alloc_below0 w (.cells #[.int .i64 n, .slice va N vc] 28)
  have k1 := blk_new w (.cells #[.int .i64 n, .slice va N vc] 28)
  rw [← hw1] at b1 k1
  have b2 := alloc_below0 w1 (doObj 3 x true os og ns ng)
  have k2 := blk_new w1 (doObj 3 x true os og ns ng)
  rw [← hw2] at b2 k2
  have b3 := alloc_below0 w2 (.cells #[.int .i64 0, .slice none 0 0] 28)
  have k3 := blk_new w2 (.cells #[.int .i64 0, .slice none 0 0] 28)
  rw [← hw3] at b3 k3
  have b4 := alloc_below0 w3 (.cells #[.int .i64 os, .int .i64 og] 32)
  have k4 := blk_new w3 (.cells #[.int .i64 os, .int .i64 og] 32)
  rw [← hW] at b4 k4
  have z1 : w1.heap.size = w.heap.size + 1 := by rw [hw1]; simp
  have z2 : w2.heap.size = w.heap.size + 1 + 1 := by rw [hw2]; simp [z1]
  have z3 : w3.heap.size = w.heap.size + 1 + 1 + 1 := by rw [hw3]; simp [z2]
  have Z0 := Lib.hid (show W.heap.size = w.heap.size + 4 by rw [hW]; simp [z3])
  have B0 := Lib.hid (show Below w.heap.size w W from ((b1.trans (b2.mono b1.size)).trans (b3.mono (Nat.le_trans b1.size b2.size))).trans (b4.mono (Nat.le_trans (Nat.le_trans b1.size b2.size) b3.size)))
  have KT0 := Lib.hid (blk_step (blk_step (blk_step k1 b2) b3) b4)
  have KD0 := Lib.hid (blk_step (blk_step k2 b3) b4)
  have KR0 := Lib.hid (blk_step k3 b4)
  have KO0 := Lib.hid k4
  rw [z1] at KD0
  rw [z2] at KR0
  rw [z3] at KO0
  rw [hw3, hw2, hw1] at hW
  have T0 := Lib.hid (hT.low B0.out)
  have V0 := Lib.hid (hv.below B0.out)
  have V00 := Lib.hid hv
  have G00 := Lib.hid hg
  have G0 := Lib.hid (Ea.Glob.below B0.out hg)
  clear hT hv hr hN hl hg hpb b1 b2 b3 b4 k1 k2 k3 k4 z1 z2 z3 hw1 hw2 hw3
  clear w1 w2 w3
  unfold doObj at hW
  unfold refT doVal
  go_enter Tryd.func9, Tryd.ntmps9
  go_wp2_with fail
  rw [← hW]
  have fh := rf_head n (.slice va N vc) us L x W V0.out.sv H.out HL.out
  unfold refT at fh
  refine fh.mono ?_
  rintro ev wh ⟨rfl, hs⟩
  obtain ⟨⟨o1, o2⟩, ho⟩ : ∃ o, headT L x = o := ⟨_, rfl⟩
  have OH := Lib.hid (show oldOf L x true (os, og) = (o1, o2) from ho)
  rw [ho]
  unfold refV
  have KZ := blk_step KO0.out hs
  obtain ⟨q0, q1, q2, q3, q4⟩ := two_facts KZ (.int .i64 o1) (.int .i64 o2)
  obtain ⟨w1, hw1⟩ : ∃ W, W = (wh.setCell ⟨w.heap.size + 1 + 1 + 1, 0, none⟩ (.int .i64 o1)).setCell ⟨w.heap.size + 1 + 1 + 1, 1, none⟩ (.int .i64 o2) := ⟨_, rfl⟩
  rw [← hw1] at q4
  have kk : Kept (fun k => k = w.heap.size + 1 + 1 + 1) W w1 := by rw [hw1]; exact ((Kept.of_below (S := fun k => k = w.heap.size + 1 + 1 + 1) hs).setCell 0 _).setCell 1 _
  have M1 := Lib.hid (show Kept (fun k => k = pb) w w1 from Kept.of_below (B0.out.trans (kk.below (n := w.heap.size) (fun k h => by omega) B0.out.size)))
  have KT1 := Lib.hid (blk_keep KT0.out kk (by omega))
  have KD1 := Lib.hid (DoAt.of (blk_keep KD0.out kk (by omega)))
  have KR1 := Lib.hid (blk_keep KR0.out kk (by omega))
  have KO1 := Lib.hid (RfAt.of q4)
  have T1 := Lib.hid (T0.out.keep kk (by have := NP.out.1; omega) (by have := NP.out.2.1; omega))
  have V1 := Lib.hid (V00.out.below (B0.out.trans (kk.below (n := w.heap.size) (fun k h => by omega) B0.out.size)))
  have G1 := Lib.hid (Ea.Glob.below (B0.out.trans (kk.below (n := w.heap.size) (fun k h => by omega) B0.out.size)) G00.out)
  have Z1 := Lib.hid (show w.heap.size + 4 ≤ w1.heap.size from Z0.out ▸ kk.size)
  have d0 := KD1.out.c0
  have d1 := KD1.out.c1
  have d5 := KD1.out.c5
  have d6 := KD1.out.c6
  have o3 := KO1.out.c0
  have o4 := KO1.out.c1
  rw [hw1] at d0 d1 d5 d6 o3 o4
  clear hs fh KZ q4 hW kk
  go_wp2_with fail
  rw [← hw1]
  clear d0 d1 d5 d6 o3 o4 q0 q1 q2 q3 hw1
  have d1 := KD1.out.c1
  have o3 := KO1.out.c0
  have o4 := KO1.out.c1
  have d5 := KD1.out.c5
  have d6 := KD1.out.c6
  go_wp2_with fail
  refine (swap_any _ ab pb n L x o1 o2 ns ng T1.out).mono ?_
  rintro ev w3 ⟨rfl, hT, hk⟩
  have M3 := Lib.hid (M1.out.trans hk)
  have KT3 := Lib.hid (blk_keep KT1.out hk (by have := NP.out.2.1; omega))
  have KD3 := Lib.hid (KD1.out.keep hk (by have := NP.out.2.1; omega))
  have KR3 := Lib.hid (blk_keep KR1.out hk (by have := NP.out.2.1; omega))
  have KO3 := Lib.hid (KO1.out.keep hk (by have := NP.out.2.1; omega))
  have V3 := Lib.hid (T1.out.keepUp V1.out hk)
  have G3 := Lib.hid (Glob.keep G1.out hk NP.out.2.2)
  have Z3 := Lib.hid (show w.heap.size + 4 ≤ w3.heap.size from Nat.le_trans Z1.out hk.size)
  have T3 := Lib.hid hT
  obtain ⟨e, he⟩ : ∃ e, errV (codeT L x) = e := ⟨_, rfl⟩
  have EE := Lib.hid he
  obtain ⟨bb, hb⟩ : ∃ z, swapB L x (o1, o2) = z := ⟨_, rfl⟩
  rw [he, hb]
  have t0 := blk_cell KT3.out 0
  have t1 := blk_cell KT3.out 1
  have d3 := KD3.out.c1
  have o3 := KO3.out.c0
  have o4 := KO3.out.c1
  have d5 := KD3.out.c5
  have d6 := KD3.out.c6
  have fr := rf_swap n (.slice va N vc) us L x o1 o2 ns ng w3 V3.out H.out HL.out (by have := LN.out; omega)
  unfold refT refV at fr
  rw [hb] at fr
  clear hT hk he hb
  go_wp2_with fail
  refine fr.mono ?_
  rintro ev w4 ⟨v4, us4, rfl, hv4, hr4, hl4, hs⟩
  have M4 := Lib.hid (M3.out.trans (Kept.of_below hs))
  have KT4 := Lib.hid (blk_step KT3.out hs)
  have KD4 := Lib.hid (KD3.out.step hs)
  have KR4 := Lib.hid (blk_step KR3.out hs)
  have KO4 := Lib.hid (KO3.out.step hs)
  have T4 := Lib.hid (T3.out.low hs)
  have G4 := Lib.hid (Ea.Glob.below hs G3.out)
  have Z4 := Lib.hid (show w.heap.size + 4 ≤ w4.heap.size from Nat.le_trans Z3.out hs.size)
  obtain ⟨N4, hN4⟩ : ∃ N4, us4.length = N4 := ⟨_, rfl⟩
  obtain ⟨a4, c4, rfl, -, -⟩ := hv4.lenN hN4
  have V4 := Lib.hid hv4
  have R4 := Lib.hid (show RefOk us4 (swapL L x (o1, o2) (ns, ng)) ∧ us4.length ≤ N + 1 from ⟨hr4, by have := LN.out.1; omega⟩)
  have q1 : (bb == bb) = true := by simp
  clear hs fr hv4 hr4 hl4 t0 t1 d3 o3 o4 d5 d6
  go_wp2_with fail
  have bq := alloc_below0 w4 (.cells #[.int .i64 n, .slice a4 N4 c4] 28)
  have kq := blk_new w4 (.cells #[.int .i64 n, .slice a4 N4 c4] 28)
  obtain ⟨w5, hw5⟩ : ∃ W, W = w4.alloc (.cells #[.int .i64 n, .slice a4 N4 c4] 28) := ⟨_, rfl⟩
  rw [← hw5] at bq kq ⊢
  have M5 := Lib.hid (M4.out.trans (Kept.of_below bq))
  have KT5 := Lib.hid (blk_step KT4.out bq)
  have KD5 := Lib.hid (KD4.out.step bq)
  have KR5 := Lib.hid (blk_step KR4.out bq)
  have KO5 := Lib.hid (KO4.out.step bq)
  have T5 := Lib.hid (T4.out.low bq)
  have V5 := Lib.hid (V4.out.below bq)
  have G5 := Lib.hid (Ea.Glob.below bq G4.out)
  have Z5 := Lib.hid (show w.heap.size + 4 ≤ w5.heap.size from Nat.le_trans Z4.out bq.size)
  have g0 : w5.cell? ⟨w4.heap.size, 0, none⟩ = some (.int .i64 n) := blk_cell kq 0
  have g1 : w5.cell? ⟨w4.heap.size, 1, none⟩ = some (.slice a4 N4 c4) := blk_cell kq 1
  have nz0 : ¬ w4.heap.size = w.heap.size + 1 + 1 := by have := Z4.out; have := Z3.out; omega
  have nz1 : ¬ w.heap.size + 1 + 1 = w4.heap.size := by have := Z4.out; have := Z3.out; omega
  have q2 : (codeT L x == codeT L x) = true := by simp
  have fcode := fun w h => code_of (codeT L x) w h
  rw [EE.out] at fcode
  clear bq kq hw5
  go_region_held3 (fun w' => w'.cell? ⟨w4.heap.size, 0, none⟩ = some (.int .i64 n) ∧ w'.cell? ⟨w4.heap.size, 1, none⟩ = some (.slice a4 N4 c4)) (first | exact ⟨by assumption, by assumption⟩ | go_keep)
    (first
      | (go_at_call 20; (with_reducible refine (fcode _ ?_).mono ?_); exact Ea.Glob.below (Below.refl _ _).drew G5.out; rintro e6 w6 ⟨rfl, hs⟩; have BD := Lib.hid ((Below.refl _ w5).drew.trans hs); have u0 := cell_step g0 BD.out; have u1 := cell_step g1 BD.out; obtain ⟨z0, z1, z2, z3, -⟩ := two_facts (blk_step KR5.out BD.out) (.int .i64 n) (.slice a4 N4 c4); clear hs))
  go_wp2
  rw [show stepL L 3 x true (os, og) (ns, ng) = swapL L x (o1, o2) (ns, ng) from congrArg (fun o => swapL L x o (ns, ng)) OH.out]
  exact does_end (T5.out.low BD.out) (V5.out.below BD.out) R4.out.1 (by rw [LN.out.1]; exact R4.out.2) (M5.out.trans (Kept.of_below BD.out)) (by omega) NP.out.1 NP.out.2.1 (blk_step KR5.out BD.out) rfl rfl rfl
set_option maxRecDepth 100000 in
set_option maxHeartbeats 4000000 in
theorem does_p4 (ab pb n : Nat) (L : List Pg) (v : Value) (us : List Up) (verb x os og ns ng : Int) (w : World) (hT : TabAt w ab pb n L) (hv : OwnS lUp 0 w v us) (hr : RefOk us L) (hl : us.length ≤ 900) (hg : Ea.Glob w) (hpb : ¬ 0 = pb) (n0 : ¬ verb = 0) (n1 : ¬ verb = 1) (n2 : ¬ verb = 2) (n3 : ¬ verb = 3) :
    Calls Tryd.prog 9 #[.pointer (some ⟨ab, 0, none⟩), refT n v, doVal verb x false os og ns ng] w (DoesP w ab pb n us (stepL L verb x false (os, og) (ns, ng))) := by
  obtain ⟨va, vc, rfl, hlc, hcm⟩ := hv.sv.lenform
  obtain ⟨N, hN⟩ : ∃ N, us.length = N := ⟨_, rfl⟩
  have H := Lib.hid hr
  have LN := Lib.hid (show us.length = N ∧ N ≤ 900 from ⟨hN, hN ▸ hl⟩)
  have HL := Lib.hid (show L.length = n from hT.len)
  have NP := Lib.hid (show ab < w.heap.size ∧ pb < w.heap.size ∧ ¬ 0 = pb from ⟨hT.ltA, hT.ltP, hpb⟩)
  rw [hN] at hlc hv ⊢
  obtain ⟨w1, hw1⟩ : ∃ W, W = w.alloc (.cells #[.int .i64 n, .slice va N vc] 28) := ⟨_, rfl⟩
  obtain ⟨w2, hw2⟩ : ∃ W, W = w1.alloc (doObj verb x false os og ns ng) := ⟨_, rfl⟩
  obtain ⟨w3, hw3⟩ : ∃ W, W = w2.alloc (.cells #[.int .i64 n, .slice va N vc] 28) := ⟨_, rfl⟩
  obtain ⟨W, hW⟩ : ∃ W, W = w3.alloc (.cells #[.int .i64 os, .int .i64 og] 32) := ⟨_, rfl⟩
  have b1 := alloc_below0 w (.cells #[.int .i64 n, .slice va N vc] 28)
  have k1 := blk_new w (.cells #[.int .i64 n, .slice va N vc] 28)
  rw [← hw1] at b1 k1
  have b2 := alloc_below0 w1 (doObj verb x false os og ns ng)
  have k2 := blk_new w1 (doObj verb x false os og ns ng)
  rw [← hw2] at b2 k2
  have b3 := alloc_below0 w2 (.cells #[.int .i64 n, .slice va N vc] 28)
  have k3 := blk_new w2 (.cells #[.int .i64 n, .slice va N vc] 28)
  rw [← hw3] at b3 k3
  have b4 := alloc_below0 w3 (.cells #[.int .i64 os, .int .i64 og] 32)
  have k4 := blk_new w3 (.cells #[.int .i64 os, .int .i64 og] 32)
  rw [← hW] at b4 k4
  have z1 : w1.heap.size = w.heap.size + 1 := by rw [hw1]; simp
  have z2 : w2.heap.size = w.heap.size + 1 + 1 := by rw [hw2]; simp [z1]
  have z3 : w3.heap.size = w.heap.size + 1 + 1 + 1 := by rw [hw3]; simp [z2]
  have Z0 := Lib.hid (show W.heap.size = w.heap.size + 4 by rw [hW]; simp [z3])
  have B0 := Lib.hid (show Below w.heap.size w W from ((b1.trans (b2.mono b1.size)).trans (b3.mono (Nat.le_trans b1.size b2.size))).trans (b4.mono (Nat.le_trans (Nat.le_trans b1.size b2.size) b3.size)))
  have KT0 := Lib.hid (blk_step (blk_step (blk_step k1 b2) b3) b4)
  have KD0 := Lib.hid (blk_step (blk_step k2 b3) b4)
  have KR0 := Lib.hid (blk_step k3 b4)
  have KO0 := Lib.hid k4
  rw [z1] at KD0
  rw [z2] at KR0
  rw [z3] at KO0
  rw [hw3, hw2, hw1] at hW
  have T0 := Lib.hid (hT.low B0.out)
  have V0 := Lib.hid (hv.below B0.out)
  have G0 := Lib.hid (Ea.Glob.below B0.out hg)
  clear hT hv hr hN hl hg hpb b1 b2 b3 b4 k1 k2 k3 k4 z1 z2 z3 hw1 hw2 hw3
  clear w1 w2 w3
  unfold doObj at hW
  have v0 : (verb == 0) = false := by rw [beq_eq_false_iff_ne]; exact n0
  have v1 : (verb == 1) = false := by rw [beq_eq_false_iff_ne]; exact n1
  have v2 : (verb == 2) = false := by rw [beq_eq_false_iff_ne]; exact n2
  have v3 : (verb == 3) = false := by rw [beq_eq_false_iff_ne]; exact n3
  unfold refT doVal
  go_enter Tryd.func9, Tryd.ntmps9
  go_wp2_with fail
  rw [← hW]
  have OH := Lib.hid (show oldOf L x false (os, og) = (os, og) from rfl)
  obtain ⟨w1, hw1⟩ : ∃ x, x = W := ⟨_, rfl⟩
  rw [← hw1]
  subst hw1
  have M1 := Lib.hid (show Kept (fun k => k = pb) w w1 from Kept.of_below B0.out)
  have KT1 := KT0
  have KD1 := Lib.hid (DoAt.of KD0.out)
  have KR1 := KR0
  have KO1 := Lib.hid (RfAt.of KO0.out)
  have T1 := T0
  have V1 := V0
  have G1 := G0
  have Z1 := Lib.hid (show w.heap.size + 4 ≤ w1.heap.size from Nat.le_of_eq Z0.out.symm)
  have d1 := KD1.out.c1
  clear hW B0 KT0 KD0 KR0 KO0 T0 V0 G0
  rw [show stepL L verb x false (os, og) (ns, ng) = L from by unfold stepL; rw [if_neg (by omega), if_neg (by omega), if_neg (by omega), if_neg (by omega)]]
  refine bodyPost_ret (v := .tuple #[.agg #[.int .i64 n, .slice va N vc], .bool true]) (results_cellT rfl _ _ (w.heap.size + 1 + 1) [.int .i64 n, .slice va N vc] _ (.bool true) rfl rfl (rng2 KR1.out) Tryd.underlying28 rfl (by kernel_rfl)) rfl ?_
  exact ⟨_, us, rfl, T1.out, V1.out, H.out, by omega, M1.out⟩
set_option maxRecDepth 100000 in
set_option maxHeartbeats 4000000 in
theorem does_r4 (ab pb n : Nat) (L : List Pg) (v : Value) (us : List Up) (verb x os og ns ng : Int) (w : World) (hT : TabAt w ab pb n L) (hv : OwnS lUp 0 w v us) (hr : RefOk us L) (hl : us.length ≤ 900) (hg : Ea.Glob w) (hpb : ¬ 0 = pb) (n0 : ¬ verb = 0) (n1 : ¬ verb = 1) (n2 : ¬ verb = 2) (n3 : ¬ verb = 3) :
    Calls Tryd.prog 9 #[.pointer (some ⟨ab, 0, none⟩), refT n v, doVal verb x true os og ns ng] w (DoesP w ab pb n us (stepL L verb x true (os, og) (ns, ng))) := by
  obtain ⟨va, vc, rfl, hlc, hcm⟩ := hv.sv.lenform
  obtain ⟨N, hN⟩ : ∃ N, us.length = N := ⟨_, rfl⟩
  have H := Lib.hid hr
  have LN := Lib.hid (show us.length = N ∧ N ≤ 900 from ⟨hN, hN ▸ hl⟩)
  have HL := Lib.hid (show L.length = n from hT.len)
  have NP := Lib.hid (show ab < w.heap.size ∧ pb < w.heap.size ∧ ¬ 0 = pb from ⟨hT.ltA, hT.ltP, hpb⟩)
  rw [hN] at hlc hv ⊢
  obtain ⟨w1, hw1⟩ : ∃ W, W = w.alloc (.cells #[.int .i64 n, .slice va N vc] 28) := ⟨_, rfl⟩
  obtain ⟨w2, hw2⟩ : ∃ W, W = w1.alloc (doObj verb x true os og ns ng) := ⟨_, rfl⟩
  obtain ⟨w3, hw3⟩ : ∃ W, W = w2.alloc (.cells #[.int .i64 0, .slice none 0 0] 28) := ⟨_, rfl⟩
  obtain ⟨W, hW⟩ : ∃ W, W = w3.alloc (.cells #[.int .i64 os, .int .i64 og] 32) := ⟨_, rfl⟩
  have b1 := alloc_below0 w (.cells #[.int .i64 n, .slice va N vc] 28)
  have k1 := blk_new w (.cells #[.int .i64 n, .slice va N vc] 28)
  rw [← hw1] at b1 k1
  have b2 := alloc_below0 w1 (doObj verb x true os og ns ng)
  have k2 := blk_new w1 (doObj verb x true os og ns ng)
  rw [← hw2] at b2 k2
  have b3 := alloc_below0 w2 (.cells #[.int .i64 0, .slice none 0 0] 28)
  have k3 := blk_new w2 (.cells #[.int .i64 0, .slice none 0 0] 28)
  rw [← hw3] at b3 k3
  have b4 := alloc_below0 w3 (.cells #[.int .i64 os, .int .i64 og] 32)
  have k4 := blk_new w3 (.cells #[.int .i64 os, .int .i64 og] 32)
  rw [← hW] at b4 k4
  have z1 : w1.heap.size = w.heap.size + 1 := by rw [hw1]; simp
  have z2 : w2.heap.size = w.heap.size + 1 + 1 := by rw [hw2]; simp [z1]
  have z3 : w3.heap.size = w.heap.size + 1 + 1 + 1 := by rw [hw3]; simp [z2]
  have Z0 := Lib.hid (show W.heap.size = w.heap.size + 4 by rw [hW]; simp [z3])
  have B0 := Lib.hid (show Below w.heap.size w W from ((b1.trans (b2.mono b1.size)).trans (b3.mono (Nat.le_trans b1.size b2.size))).trans (b4.mono (Nat.le_trans (Nat.le_trans b1.size b2.size) b3.size)))
  have KT0 := Lib.hid (blk_step (blk_step (blk_step k1 b2) b3) b4)
  have KD0 := Lib.hid (blk_step (blk_step k2 b3) b4)
  have KR0 := Lib.hid (blk_step k3 b4)
  have KO0 := Lib.hid k4
  rw [z1] at KD0
  rw [z2] at KR0
  rw [z3] at KO0
  rw [hw3, hw2, hw1] at hW
  have T0 := Lib.hid (hT.low B0.out)
  have V0 := Lib.hid (hv.below B0.out)
  have V00 := Lib.hid hv
  have G00 := Lib.hid hg
  have G0 := Lib.hid (Ea.Glob.below B0.out hg)
  clear hT hv hr hN hl hg hpb b1 b2 b3 b4 k1 k2 k3 k4 z1 z2 z3 hw1 hw2 hw3
  clear w1 w2 w3
  unfold doObj at hW
  have v0 : (verb == 0) = false := by rw [beq_eq_false_iff_ne]; exact n0
  have v1 : (verb == 1) = false := by rw [beq_eq_false_iff_ne]; exact n1
  have v2 : (verb == 2) = false := by rw [beq_eq_false_iff_ne]; exact n2
  have v3 : (verb == 3) = false := by rw [beq_eq_false_iff_ne]; exact n3
  unfold refT doVal
  go_enter Tryd.func9, Tryd.ntmps9
  go_wp2_with fail
  rw [← hW]
  have fh := rf_head n (.slice va N vc) us L x W V0.out.sv H.out HL.out
  unfold refT at fh
  refine fh.mono ?_
  rintro ev wh ⟨rfl, hs⟩
  obtain ⟨⟨o1, o2⟩, ho⟩ : ∃ o, headT L x = o := ⟨_, rfl⟩
  have OH := Lib.hid (show oldOf L x true (os, og) = (o1, o2) from ho)
  rw [ho]
  unfold refV
  have KZ := blk_step KO0.out hs
  obtain ⟨q0, q1, q2, q3, q4⟩ := two_facts KZ (.int .i64 o1) (.int .i64 o2)
  obtain ⟨w1, hw1⟩ : ∃ W, W = (wh.setCell ⟨w.heap.size + 1 + 1 + 1, 0, none⟩ (.int .i64 o1)).setCell ⟨w.heap.size + 1 + 1 + 1, 1, none⟩ (.int .i64 o2) := ⟨_, rfl⟩
  rw [← hw1] at q4
  have kk : Kept (fun k => k = w.heap.size + 1 + 1 + 1) W w1 := by rw [hw1]; exact ((Kept.of_below (S := fun k => k = w.heap.size + 1 + 1 + 1) hs).setCell 0 _).setCell 1 _
  have M1 := Lib.hid (show Kept (fun k => k = pb) w w1 from Kept.of_below (B0.out.trans (kk.below (n := w.heap.size) (fun k h => by omega) B0.out.size)))
  have KT1 := Lib.hid (blk_keep KT0.out kk (by omega))
  have KD1 := Lib.hid (DoAt.of (blk_keep KD0.out kk (by omega)))
  have KR1 := Lib.hid (blk_keep KR0.out kk (by omega))
  have KO1 := Lib.hid (RfAt.of q4)
  have T1 := Lib.hid (T0.out.keep kk (by have := NP.out.1; omega) (by have := NP.out.2.1; omega))
  have V1 := Lib.hid (V00.out.below (B0.out.trans (kk.below (n := w.heap.size) (fun k h => by omega) B0.out.size)))
  have G1 := Lib.hid (Ea.Glob.below (B0.out.trans (kk.below (n := w.heap.size) (fun k h => by omega) B0.out.size)) G00.out)
  have Z1 := Lib.hid (show w.heap.size + 4 ≤ w1.heap.size from Z0.out ▸ kk.size)
  have d0 := KD1.out.c0
  have d1 := KD1.out.c1
  have d5 := KD1.out.c5
  have d6 := KD1.out.c6
  have o3 := KO1.out.c0
  have o4 := KO1.out.c1
  have t0 := blk_cell KT1.out 0
  have t1 := blk_cell KT1.out 1
  obtain ⟨z0, z1, z2, z3, -⟩ := two_facts KR1.out (.int .i64 n) (.slice va N vc)
  rw [hw1] at t0 t1 z0 z1 z2 z3
  rw [hw1] at d0 d1 d5 d6 o3 o4
  clear hs fh KZ q4 hW kk
  go_wp2_with fail
  rw [← hw1]
  clear d0 d1 d5 d6 o3 o4 q0 q1 q2 q3 hw1
  have d1 := KD1.out.c1
  rw [show stepL L verb x true (os, og) (ns, ng) = L from by unfold stepL; rw [if_neg (by omega), if_neg (by omega), if_neg (by omega), if_neg (by omega)]]
  exact does_end T1.out V1.out H.out (by omega) M1.out (by omega) NP.out.1 NP.out.2.1 KR1.out rfl rfl rfl
theorem does_any (ab pb n : Nat) (L : List Pg) (v : Value) (us : List Up) (verb x : Int) (right : Bool) (os og ns ng : Int) (w : World) (hT : TabAt w ab pb n L) (hv : OwnS lUp 0 w v us) (hr : RefOk us L) (hl : us.length ≤ 900) (hg : Ea.Glob w) (hpb : ¬ 0 = pb) :
    Calls Tryd.prog 9 #[.pointer (some ⟨ab, 0, none⟩), refT n v, doVal verb x right os og ns ng] w (DoesP w ab pb n us (stepL L verb x right (os, og) (ns, ng))) := by
  by_cases h0 : verb = 0
  · subst h0; cases right
    · exact does_p0 ab pb n L v us x os og ns ng w hT hv hr hl hg hpb
    · exact does_r0 ab pb n L v us x os og ns ng w hT hv hr hl hg hpb
  · by_cases h1 : verb = 1
    · subst h1; cases right
      · exact does_p1 ab pb n L v us x os og ns ng w hT hv hr hl hg hpb
      · exact does_r1 ab pb n L v us x os og ns ng w hT hv hr hl hg hpb
    · by_cases h2 : verb = 2
      · subst h2; cases right
        · exact does_p2 ab pb n L v us x os og ns ng w hT hv hr hl hg hpb
        · exact does_r2 ab pb n L v us x os og ns ng w hT hv hr hl hg hpb
      · by_cases h3 : verb = 3
        · subst h3; cases right
          · exact does_p3 ab pb n L v us x os og ns ng w hT hv hr hl hg hpb
          · exact does_r3 ab pb n L v us x os og ns ng w hT hv hr hl hg hpb
        · cases right
          · exact does_p4 ab pb n L v us verb x os og ns ng w hT hv hr hl hg hpb h0 h1 h2 h3
          · exact does_r4 ab pb n L v us verb x os og ns ng w hT hv hr hl hg hpb h0 h1 h2 h3
end Go.Proofs.YtfdgfonffocenaaDoor
