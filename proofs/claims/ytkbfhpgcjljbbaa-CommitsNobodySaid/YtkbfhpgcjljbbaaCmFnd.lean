/- Package commits' Find, by contract (layer 16). -/
import Derived.Test.YtkbfhpgcjljbbaaCmBwd
import Derived.RangeFuncFrom
namespace Go.Proofs.Ytkbfhpgcjljbbaa
set_option linter.unusedVariables false
set_option linter.unusedSimpArgs false
open Go.RowKit Go.Shelf

attribute [local go_sem] Oper.semAt_some

theorem blk_kept {A B : World} {b : Nat} {cs : Array Value} {T : TypeId} {o : Nat × Nat} {row : Option Nat} (h : A.heap[b]? = some (.cells cs T o)) (hg : A.grownBy B row) (hr : ∀ r, row = some r → ∃ x, A.heap[r]? = some x ∧ x.isCells = false) : B.heap[b]? = some (.cells cs T o) := by
  rw [hg.block b (Array.getElem?_eq_some_iff.1 h).1 (fun e => by
    obtain ⟨x, h1, h2⟩ := hr b e.symm
    rw [h] at h1
    cases h1
    cases h2)]
  exact h
def z41 : Obj := .cells #[.string ⟨#[]⟩, .string ⟨#[]⟩, .bool false] 41
/-- the world in which the loop begins -/
def fndW (w : World) (key : ByteArray) (u : Value) : World := (((w.alloc (.cells #[.string key] 9)).alloc z41).alloc (.cells #[.bool false] 4)).alloc (.cells #[u] 84)
theorem hasW_at {key : ByteArray} {p : List Wr} {j : Nat} {x : Wr} (h : p[j]? = some x) (hn : ∀ y ∈ p.take j, eqB y.1 key = false) (he : eqB x.1 key = true) : hasW key p = some x := by
  obtain ⟨hj, e⟩ := List.getElem?_eq_some_iff.1 h
  unfold hasW
  rw [← List.take_append_drop j p, List.find?_append, List.find?_eq_none.2 (fun y hy => by rw [hn y hy]; decide), List.drop_eq_getElem_cons hj, e]
  simp [he]
theorem hasW_no {key : ByteArray} {p : List Wr} (hn : ∀ y ∈ p, eqB y.1 key = false) : hasW key p = none := by
  unfold hasW
  exact List.find?_eq_none.2 (fun y hy => by rw [hn y hy]; decide)
theorem findW_down (key : ByteArray) (ps : List (List Wr)) {m : Nat} (hm : ps.length = m) : findW key ps = (downTo m m).findSome? (fun i => hasW key (ps.getD i.1 [])) := by
  have e : ps.reverse = (downTo m m).map (fun i => ps.getD i.1 []) := by
    rw [downTo_all, List.map_reverse]
    congr 1
    apply List.ext_getElem
    · simp [hm]
    · intro i h1 h2
      simp only [List.getElem_map, List.getElem_finRange, Fin.cast_mk]
      rw [List.getD_eq_getElem?_getD, List.getElem?_eq_getElem h1]; rfl
  unfold findW
  rw [e, List.findSome?_map]
  rfl
theorem findW_none {key : ByteArray} {ps : List (List Wr)} {m : Nat} (hm : ps.length = m) (h : ∀ i ∈ downTo m m, hasW key (ps.getD i.1 []) = none) : findW key ps = none := by
  rw [findW_down key ps hm, List.findSome?_eq_none_iff]
  exact h
theorem findW_some {key : ByteArray} {ps : List (List Wr)} {m k : Nat} (hm : ps.length = m) {ini : List (Fin m)} {i : Fin m} {x : Wr} (hk : downTo m k = ini ++ [i]) (hn : ∀ q ∈ ini, hasW key (ps.getD q.1 []) = none) (hx : hasW key (ps.getD i.1 []) = some x) : findW key ps = some x := by
  have e : downTo m m = (ini ++ [i]) ++ (List.finRange m).reverse.drop k := by rw [downTo_all, ← hk]; unfold downTo; rw [List.take_append_drop]
  rw [findW_down key ps hm, e, List.append_assoc, List.findSome?_append, List.findSome?_eq_none_iff.2 hn, List.singleton_append, List.findSome?_cons, hx]
  rfl
theorem results_cell2 {fn : Func} {p q : Tmp} {ty ty2 : TypeId} (h : fn.results = #[.cell p ty, .cell q ty2]) (tmps : Array Value) (w : World) (b c : Nat) (cs : List Value) (d : TypeDesc) (hp : tmps.getD p undef = .pointer (some ⟨b, 0, none⟩)) (hq : tmps.getD q undef = .pointer (some ⟨c, 0, none⟩)) (hc : w.rangeAt b 0 cs) (v : Value) (hl2 : (loadVar ty2 ⟨c, 0, none⟩).run Try.prog w = .ok v w)
    (hu : Try.prog.underlying ty = some d) (hd : d.isRow = true) (hi : (Try.prog.info? ty).map (·.size) = some cs.length) : (results fn tmps).run Try.prog w = .ok (.tuple #[.agg cs.toArray, v]) w := by
  simp only [results, h]
  have hl := run_loadVar_mid w b 0 ty cs d hc hu hd hi
  have hp' : tmps[p]?.getD undef = .pointer (some ⟨b, 0, none⟩) := by simpa using hp
  have hq' : tmps[q]?.getD undef = .pointer (some ⟨c, 0, none⟩) := by simpa using hq
  simp [hp', hq', asAddr, hl, hl2, Result.andThen]
set_option maxRecDepth 100000 in
set_option maxHeartbeats 4000000 in
theorem find16 (u : Value) (key : ByteArray) (ps : List (List Wr)) (w : World) (hu : PsV w u ps) (hp : ∀ p ∈ ps, p.length ≤ 100) (h2 : ps.length ≤ 3) :
    Calls Try.prog 21 #[.string key, u] w fun ev w' => ev = .returned (.tuple #[.agg #[.string ((findW key ps).getD w00).1, .string ((findW key ps).getD w00).2.1, .bool ((findW key ps).getD w00).2.2], .bool (findW key ps).isSome]) ∧ Below w.heap.size w w' := by
  obtain ⟨ss, su, sl, sp⟩ := hu
  obtain ⟨a, cap, rfl, hlc, hcm⟩ := su.lenform
  obtain ⟨m, hm⟩ : ∃ m, ss.length = m := ⟨_, rfl⟩
  rw [hm] at su hlc sl ⊢
  have SU := Lib.hid su
  have SP := Lib.hid sp
  have LN := Lib.hid (show ss.length = m ∧ ps.length = m ∧ m ≤ 3 from ⟨hm, sl.symm, by omega⟩)
  have HP := Lib.hid hp
  unfold maxLen at hcm
  clear su sp hm sl hp h2
  refine (callsIn_wide (n := 3)).1 ?_
  refine callsIn_of_wp_marks Try.func21 rfl trivial ?_ rfl
  simp only [Try.ntmps21, List.size_toArray, List.length_cons, List.length_nil, Nat.reduceAdd, Nat.reduceSub, Array.replicate_succ, Array.replicate_zero, List.push_toArray, List.append_toArray, List.nil_append, List.cons_append]
  gi_wp2_with (refine ⟨trivial, ?_⟩; gi_at_call 43; refine (bwd_in Fence.wide _ trivial rfl _ _ _ _).mono ?_; rintro e w' ⟨rfl, rfl⟩)
  have k0 := blk_new w (.cells #[.string key] 9)
  have b0 := alloc_below0 w (.cells #[.string key] 9)
  obtain ⟨w1, hw1⟩ : ∃ x, x = w.alloc (.cells #[.string key] 9) := ⟨_, rfl⟩
  have z1 : w1.heap.size = w.heap.size + 1 := by rw [hw1]; simp
  rw [← hw1] at k0 b0 ⊢
  have k1 := blk_new w1 (.cells #[.string ⟨#[]⟩, .string ⟨#[]⟩, .bool false] 41)
  have b1 := alloc_below0 w1 (.cells #[.string ⟨#[]⟩, .string ⟨#[]⟩, .bool false] 41)
  obtain ⟨w2, hw2⟩ : ∃ x, x = w1.alloc (.cells #[.string ⟨#[]⟩, .string ⟨#[]⟩, .bool false] 41) := ⟨_, rfl⟩
  have z2 : w2.heap.size = w.heap.size + 1 + 1 := by rw [hw2]; simp [z1]
  rw [← hw2] at k1 b1 ⊢
  have k2 := blk_new w2 (.cells #[.bool false] 4)
  have b2 := alloc_below0 w2 (.cells #[.bool false] 4)
  obtain ⟨w3, hw3⟩ : ∃ x, x = w2.alloc (.cells #[.bool false] 4) := ⟨_, rfl⟩
  have z3 : w3.heap.size = w.heap.size + 1 + 1 + 1 := by rw [hw3]; simp [z2]
  rw [← hw3] at k2 b2 ⊢
  have k3 := blk_new w3 (.cells #[.slice a m cap] 84)
  have b3 := alloc_below0 w3 (.cells #[.slice a m cap] 84)
  obtain ⟨w4, hw4⟩ : ∃ x, x = w3.alloc (.cells #[.slice a m cap] 84) := ⟨_, rfl⟩
  have z4 : w4.heap.size = w.heap.size + 1 + 1 + 1 + 1 := by rw [hw4]; simp [z3]
  rw [← hw4] at k3 b3 ⊢
  rw [z1] at k1
  rw [z2] at k2
  rw [z3] at k3
  have q0 := blk_step (blk_step (blk_step k0 b1) b2) b3
  have q1 := blk_step (blk_step k1 b2) b3
  have q2 := blk_step k2 b3
  have B4 := Lib.hid (show Below w.heap.size w w4 from ((b0.trans (b1.mono b0.size)).trans (b2.mono (by omega))).trans (b3.mono (by omega)))
  have KQ := Lib.hid (show _ ∧ _ ∧ _ from ⟨q0, q1, q2⟩)
  have hcc : 0 < m → ∃ b off, a = some ⟨b, off, none⟩ ∧ b < w4.heap.size ∧ ∀ j, j < m → w4.cell? ⟨b, off + j, none⟩ = some (slV ss j) := fun hpos => by
    obtain ⟨b, off, ha⟩ := SU.out.addr (by rw [LN.out.1]; omega)
    subst ha
    have hall : ∀ j, j < m → w.cell? ⟨b, off + j, none⟩ = some (slV ss j) := fun j hj => by
      have hj2 : ss[j]? = some (ss.getD j slD) := by rw [List.getD_eq_getElem?_getD, List.getElem?_eq_getElem (by rw [LN.out.1]; exact hj)]; rfl
      have := SU.out.cellAt hj2 (j := 0) (u := (ss.getD j slD).v) rfl
      unfold slV
      simpa [lPs] using this
    refine ⟨b, off, rfl, ?_, fun j hj => cell_step (hall j hj) B4.out⟩
    have := lt_of_cell (hall 0 hpos)
    have h4 := B4.out.size
    omega
  have k3c : w4.cell? ⟨w.heap.size + 1 + 1 + 1, 0, none⟩ = some (.slice a m cap) := by rw [blk_cell k3]; rfl
  clear k0 k1 k2 k3 b0 b1 b2 b3 z1 z2 z3 hw1 hw2 hw3 hw4 q0 q1 q2
  refine wpIn_rangeFunc_ownF rfl (by decide) (gf := 57) (lb := #[.pointer (some ⟨w.heap.size + 1 + 1 + 1, 0, none⟩)]) rfl trivial (enters_of Try.func57 (by kernel_rfl) rfl)
    (bwd_stops Fence.wide _ trivial rfl (by decide) (w.heap.size + 1 + 1 + 1) m cap a ss (by have := LN.out; omega) w4 (by omega) k3c hcc) belowK_t (belowK_b (Nat.le_refl _)) (Below.refl _ _) (fun _ => rfl)
    (fun pre W => (∀ i ∈ pre, hasW key (ps.getD i.1 []) = none) ∧ Below w4.heap.size w4 W)
    (fun c pre W => (c = .ret ∧ ∃ ini i x, pre = ini ++ [i] ∧ (∀ q ∈ ini, hasW key (ps.getD q.1 []) = none) ∧ hasW key (ps.getD i.1 []) = some x ∧ W.heap[w.heap.size + 1]? = some (.cells #[.string x.1, .string x.2.1, .bool x.2.2] 41 (0, 0)) ∧ W.heap[w.heap.size + 1 + 1]? = some (.cells #[.bool true] 4 (0, 0))) ∧ Below w.heap.size w W)
    (OwnFrom.and (ownFrom_pure _ _) (ownFrom_below (Nat.le_refl _) (Nat.le_refl _)))
    (fun c => OwnFrom.and (Own.from (fun s A B row hs hg hr => by obtain ⟨hc, ini, i, x, e1, e2, e3, e4, e5⟩ := hs; exact ⟨hc, ini, i, x, e1, e2, e3, blk_kept e4 hg hr, blk_kept e5 hg hr⟩) _) (ownFrom_below (Nat.le_refl _) B4.out.size))
    ⟨fun _ h => (by cases h), Below.refl _ _⟩
    (fun i => { tmps := #[.string key, .slice a m cap, .pointer (some ⟨w.heap.size, 0, none⟩), undef, .pointer (some ⟨w.heap.size + 1, 0, none⟩), .pointer (some ⟨w.heap.size + 1 + 1, 0, none⟩), undef, slV ss i.1, undef, undef, .slice a m cap, .func (.func 57) #[] #[.pointer (some ⟨w.heap.size + 1 + 1 + 1, 0, none⟩)], .int .i64 (i.1 : Int), slV ss i.1, undef, undef, undef, undef, undef, undef, undef, undef, undef, undef, undef, undef, undef], defers := [] }) ?assign ?body ?done ?stop
  case assign =>
    intro l i W K hK
    unfold bwdE
    gi_wp2
    exact hK
  case body =>
    rintro l pre i W ⟨hpre, hB⟩ _
    obtain ⟨q, hq⟩ : ∃ q, i.1 = q := ⟨_, rfl⟩
    have hqm : q < m := by rw [← hq]; exact i.2
    obtain ⟨s, hs⟩ : ∃ s, ss[q]? = some s := ⟨_, List.getElem?_eq_getElem (by rw [LN.out.1]; exact hqm)⟩
    obtain ⟨p, hp⟩ : ∃ p, ps[q]? = some p := ⟨_, List.getElem?_eq_getElem (by rw [LN.out.2.1]; exact hqm)⟩
    have hW := SP.out q s p hs hp
    obtain ⟨a2, c2, e2, hl2, hm2⟩ := hW.1.lenform
    obtain ⟨n, hn⟩ : ∃ n, p.length = n := ⟨_, rfl⟩
    have es : slV ss q = s.v := by unfold slV; rw [List.getD_eq_getElem?_getD, hs]; rfl
    have ep : ps.getD q [] = p := by rw [List.getD_eq_getElem?_getD, hp]; rfl
    rw [hn] at e2 hl2
    rw [e2] at hW es
    rw [hq, es]
    have BW := Lib.hid (B4.out.trans (hB.mono B4.out.size))
    have HB := Lib.hid hB
    have PV := Lib.hid (show WrV lPw W (.slice a2 n c2) p from hW.below BW.out)
    have PL := Lib.hid (show p.length = n ∧ n ≤ 100 from ⟨hn, by rw [← hn]; exact HP.out p (List.mem_of_getElem? hp)⟩)
    have HI := Lib.hid (show i.1 = q ∧ ps.getD q [] = p from ⟨hq, ep⟩)
    have HPRE := Lib.hid hpre
    have KW := Lib.hid (show W.heap[w.heap.size]? = _ ∧ W.heap[w.heap.size + 1]? = _ ∧ W.heap[w.heap.size + 1 + 1]? = _ from ⟨blk_step KQ.out.1 HB.out, blk_step KQ.out.2.1 HB.out, blk_step KQ.out.2.2 HB.out⟩)
    have hlen : n ≤ 100 := PL.out.2
    unfold maxLen at hm2
    clear hs hp hW e2 hn es ep hB hpre hq hqm hcc k3c
    gi_wp2
    gi_loopw [16] (fun i wr => ∃ j r : Nat, j + r = n ∧ i = .int .i64 (j : Int) ∧ (∀ x ∈ p.take j, eqB x.1 key = false) ∧ KeepsOthers W wr ∧ Below W.heap.size W wr)
      (fun i _ => n - (intOf i).toNat)
    case atStart => exact ⟨0, n, by omega, rfl, fun x hx => (by simp at hx), KeepsOthers.refl _, Below.refl _ _⟩
    case round =>
      obtain ⟨j, r, hj, rfl, hno, hK, hBr⟩ := hrel
      have A := Lib.hid (show (∀ x ∈ p.take j, eqB x.1 key = false) ∧ KeepsOthers W wr ∧ Below W.heap.size W wr ∧ j + r = n from ⟨hno, hK, hBr, hj⟩)
      clear hno hK hBr
      by_cases hlt : j < n
      · obtain ⟨⟨x, y, g⟩, hx⟩ : ∃ x, p[j]? = some x := ⟨_, List.getElem?_eq_getElem (by rw [PL.out.1]; exact hlt)⟩
        obtain ⟨b3, off3, ha3⟩ := PV.out.1.addr (by rw [PL.out.1]; omega)
        subst ha3
        obtain ⟨x0, x1, x2⟩ := (PV.out.below A.out.2.2.1).cellsP hx
        have T2 := Lib.hid (wtake_at1 hx)
        have HX := Lib.hid hx
        simp only at x0 x1 x2
        have ba := alloc_below0 wr (.cells #[.string x, .string y, .bool g] 41)
        have BA := Lib.hid ba
        have y0 : (wr.alloc (.cells #[.string x, .string y, .bool g] 41)).cell? ⟨w.heap.size, 0, none⟩ = some (.string key) := by rw [blk_cell (blk_step (blk_step KW.out.1 A.out.2.2.1) ba)]; rfl
        have i3 : (0 : Int) ≤ (j : Int) := by omega
        have i4 : (j : Int) < (n : Int) := by omega
        clear hx
        cases he : eqB x key with
        | false =>
          have HE := Lib.hid he
          have hq : (x.toList == key.toList) = false := he
          clear he ba
          gi_wp2
          refine ⟨⟨j + 1, n - (j + 1), by omega, rfl, fun z hz => ?_, A.out.2.1.trans (KeepsOthers.alloc _ _), A.out.2.2.1.trans (BA.out.mono A.out.2.2.1.size)⟩, by simp [intOf]; omega⟩
          rw [T2.out] at hz
          rcases List.mem_append.1 hz with hz | hz
          · exact A.out.1 z hz
          · rw [List.mem_singleton.1 hz]; exact HE.out
        | true =>
          have HE := Lib.hid he
          have hq : (x.toList == key.toList) = true := he
          obtain ⟨s0, t0, s1, t1, s2, t2, kp⟩ := three_facts (blk_step (blk_step KW.out.2.1 A.out.2.2.1) ba) (.string x) (.string y) (.bool g)
          have kq := blk_off (blk_off (blk_off (blk_step (blk_step KW.out.2.2 A.out.2.2.1) ba) (show w.heap.size + 1 + 1 ≠ w.heap.size + 1 by omega) 0 (.string x)) (show w.heap.size + 1 + 1 ≠ w.heap.size + 1 by omega) 1 (.string y)) (show w.heap.size + 1 + 1 ≠ w.heap.size + 1 by omega) 2 (.bool g)
          have r0 := blk_cell kq 0
          have r1 := blk_free kq 0
          have KQ4 := Lib.hid (blk_set kq 0 (.bool true))
          have KQ3 := Lib.hid (blk_off kp (show w.heap.size + 1 ≠ w.heap.size + 1 + 1 by omega) 0 (.bool true))
          clear kp kq
          clear he ba
          gi_wp2
          refine ⟨((((A.out.2.1.trans (KeepsOthers.alloc _ _)).trans (KeepsOthers.setCell _ _ _)).trans (KeepsOthers.setCell _ _ _)).trans (KeepsOthers.setCell _ _ _)).trans (KeepsOthers.setCell _ _ _), ⟨rfl, pre, i, (x, y, g), rfl, HPRE.out, ?_, KQ3.out, KQ4.out⟩, ?_⟩
          · rw [HI.out.1, HI.out.2]; exact hasW_at HX.out A.out.1 HE.out
          · exact below_set (below_set (below_set (below_set (BW.out.trans ((A.out.2.2.1.trans (BA.out.mono A.out.2.2.1.size)).mono BW.out.size)) (by omega) _ _) (by omega) _ _) (by omega) _ _) (by omega) _ _
      · obtain rfl : n = j := by have := A.out.2.2.2; omega
        have NO := Lib.hid (show hasW key p = none from hasW_no (fun y hy => A.out.1 y (by rw [List.take_of_length_le (Nat.le_of_eq PL.out.1)]; exact hy)))
        gi_wp2
        refine ⟨A.out.2.1, (A.out.2.2.1.mono HB.out.size), fun i2 hi2 => ?_, HB.out.trans (A.out.2.2.1.mono HB.out.size)⟩
        rcases List.mem_append.1 hi2 with hi2 | hi2
        · exact HPRE.out i2 hi2
        · rw [List.mem_singleton.1 hi2, HI.out.1, HI.out.2]; exact NO.out
  case done =>
    rintro D ys W hD rfl ⟨hne, hB⟩ hK
    have FW := Lib.hid (findW_none LN.out.2.1 hne)
    have BW := Lib.hid (B4.out.trans (hB.mono B4.out.size))
    have k1 := blk_step KQ.out.2.1 hB
    have k2 := blk_step KQ.out.2.2 hB
    obtain ⟨s0, t0, s1, t1, s2, t2, kp⟩ := three_facts k1 (.string ⟨#[]⟩) (.string ⟨#[]⟩) (.bool false)
    have kq := blk_off (blk_off (blk_off k2 (show w.heap.size + 1 + 1 ≠ w.heap.size + 1 by omega) 0 (.string ⟨#[]⟩)) (show w.heap.size + 1 + 1 ≠ w.heap.size + 1 by omega) 1 (.string ⟨#[]⟩)) (show w.heap.size + 1 + 1 ≠ w.heap.size + 1 by omega) 2 (.bool false)
    have r0 := blk_cell kq 0
    have r1 := blk_free kq 0
    have KQ4 := Lib.hid (blk_set kq 0 (.bool false))
    have KQ3 := Lib.hid (blk_off kp (show w.heap.size + 1 ≠ w.heap.size + 1 + 1 by omega) 0 (.bool false))
    clear kp kq k1 k2 hcc k3c
    gi_wp2
    have hK' := ((((KeepsOthers.setCell W ⟨w.heap.size + 1, 0, none⟩ (.string ⟨#[]⟩)).trans (KeepsOthers.setCell _ ⟨w.heap.size + 1, 1, none⟩ (.string ⟨#[]⟩))).trans (KeepsOthers.setCell _ ⟨w.heap.size + 1, 2, none⟩ (.bool false))).trans (KeepsOthers.setCell _ ⟨w.heap.size + 1 + 1, 0, none⟩ (.bool false))).same D _ hK rfl
    refine ⟨by simp, .inl ⟨_, _, rfl, run_takeDeferred hK', ?_⟩⟩
    have h1 := blk_kept KQ3.out (grownBy_putObj' _ D (.deferred none)) (fun r e => by cases e; exact ⟨_, hK', rfl⟩)
    have h2 := blk_kept KQ4.out (grownBy_putObj' _ D (.deferred none)) (fun r e => by cases e; exact ⟨_, hK', rfl⟩)
    refine ⟨.tuple #[.agg #[.string ⟨#[]⟩, .string ⟨#[]⟩, .bool false], .bool false], results_cell2 rfl _ _ (w.heap.size + 1) (w.heap.size + 1 + 1) [.string ⟨#[]⟩, .string ⟨#[]⟩, .bool false] _ rfl rfl (fun j u hj => by rw [Nat.zero_add, blk_cell h1]; simpa using hj) _ ?_ Try.underlying41 rfl (by kernel_rfl), by rw [FW.out]; rfl, ?_⟩
    · have hc := blk_cell h2 0
      simp [go_sem, hc]
    · exact (below_set (below_set (below_set (below_set BW.out (by omega) _ _) (by omega) _ _) (by omega) _ _) (by omega) _ _).trans (belowK_b (w := w) (Nat.le_refl _) _ D _ _ (by have := B4.out.size; omega) hK' rfl rfl)
  case stop =>
    rintro D c pre W hD ⟨k, hk, rfl⟩ ⟨⟨rfl, ini, i, x, e1, e2, e3, e4, e5⟩, hB⟩ hK
    have FW := Lib.hid (findW_some LN.out.2.1 e1 e2 e3)
    have K4 := Lib.hid e4
    have K5 := Lib.hid e5
    clear hcc k3c e4 e5
    gi_wp2
    refine ⟨by simp, .inl ⟨_, _, rfl, run_takeDeferred hK, ?_⟩⟩
    have h1 := blk_kept K4.out (grownBy_putObj' _ D (.deferred none)) (fun r e => by cases e; exact ⟨_, hK, rfl⟩)
    have h2 := blk_kept K5.out (grownBy_putObj' _ D (.deferred none)) (fun r e => by cases e; exact ⟨_, hK, rfl⟩)
    refine ⟨.tuple #[.agg #[.string x.1, .string x.2.1, .bool x.2.2], .bool true], results_cell2 rfl _ _ (w.heap.size + 1) (w.heap.size + 1 + 1) [.string x.1, .string x.2.1, .bool x.2.2] _ rfl rfl (fun j u hj => by rw [Nat.zero_add, blk_cell h1]; simpa using hj) _ ?_ Try.underlying41 rfl (by kernel_rfl), by rw [FW.out]; rfl, ?_⟩
    · have hc := blk_cell h2 0
      simp [go_sem, hc]
    · exact hB.trans (belowK_b (w := w) (Nat.le_refl _) _ D _ _ (by have := B4.out.size; omega) hK rfl rfl)
end Go.Proofs.Ytkbfhpgcjljbbaa
