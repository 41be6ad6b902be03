/- Package epoch's Ripe of a bin, its closure, and what parts items, by contracts. -/
import Derived.Test.YtocigedgicgonaaDoorEpItems
import Derived.Test.YtocigedgicgonaaDoorEpLies
namespace Go.Proofs.YtocigedgicgonaaDoor
open Go.RowKit

def ripeB (o : Int) (x : It) : Bool := decide (x.s < o)
set_option maxRecDepth 100000 in
set_option maxHeartbeats 4000000 in
theorem stale_any (x : It) (o : Int) (ob : Nat) (w : World) (ho : w.cell? ⟨ob, 0, none⟩ = some (.int .i64 o)) :
    Calls Tryd.prog 33 #[x.val, .pointer (some ⟨ob, 0, none⟩)] w fun ev w' => ev = .returned (.bool (ripeB o x)) ∧ Below w.heap.size w w' := by
  have b0 := alloc_below0 w (.cells #[.int .i64 x.s, .int .i64 x.a, .int .i64 x.b, .int .i64 x.p] 48)
  have o0 := cell_step ho b0
  have B := Lib.hid b0
  clear b0
  unfold It.val ripeB
  go_enter Tryd.func33, Tryd.ntmps33
  go_wp2
  go_ret
  exact ⟨rfl, B.out⟩
def yesTo (o : Int) (xs : List It) (k : Nat) : List It := (xs.take k).filter (ripeB o)
def noTo (o : Int) (xs : List It) (k : Nat) : List It := (xs.take k).filter fun x => !ripeB o x
theorem yesTo_y {o : Int} {xs : List It} {k : Nat} {x : It} (h : xs[k]? = some x) (hb : ripeB o x = true) : yesTo o xs (k + 1) = yesTo o xs k ++ [x] ∧ noTo o xs (k + 1) = noTo o xs k := by
  obtain ⟨hk, rfl⟩ := List.getElem?_eq_some_iff.1 h
  unfold yesTo noTo
  rw [List.take_succ_eq_append_getElem hk, List.filter_append, List.filter_append]
  simp [hb]
theorem yesTo_n {o : Int} {xs : List It} {k : Nat} {x : It} (h : xs[k]? = some x) (hb : ripeB o x = false) : yesTo o xs (k + 1) = yesTo o xs k ∧ noTo o xs (k + 1) = noTo o xs k ++ [x] := by
  obtain ⟨hk, rfl⟩ := List.getElem?_eq_some_iff.1 h
  unfold yesTo noTo
  rw [List.take_succ_eq_append_getElem hk, List.filter_append, List.filter_append]
  simp [hb]
theorem yesTo_len (o : Int) (xs : List It) (k : Nat) : (yesTo o xs k).length ≤ k ∧ (noTo o xs k).length ≤ k := by
  unfold yesTo noTo
  exact ⟨Nat.le_trans (List.length_filter_le _ _) (by rw [List.length_take]; exact Nat.min_le_left _ _), Nat.le_trans (List.length_filter_le _ _) (by rw [List.length_take]; exact Nat.min_le_left _ _)⟩
theorem one_it {w : World} (x : It) : SV lIt (w.alloc (.cells #[.int .i64 x.s, .int .i64 x.a, .int .i64 x.b, .int .i64 x.p] 48)) (.slice (some ⟨w.heap.size, 0, none⟩) 1 1) [x] := by
  have := (OwnS.lit lIt w.heap.size w w.heap.size rfl [x] (Nat.le_refl _) (by simp [maxLen])).sv
  exact this
theorem it_read {w : World} {b off n c k : Nat} {xs : List It} (h : SV lIt w (.slice (some ⟨b, off, none⟩) n c) xs) {x : It} (hx : xs[k]? = some x) :
    w.cell? ⟨b, off + k * 4, none⟩ = some (.int .i64 x.s) ∧ w.cell? ⟨b, off + k * 4 + 1, none⟩ = some (.int .i64 x.a) ∧ w.cell? ⟨b, off + k * 4 + 2, none⟩ = some (.int .i64 x.b) ∧ w.cell? ⟨b, off + k * 4 + 3, none⟩ = some (.int .i64 x.p) :=
  ⟨h.cellAt (j := 0) hx rfl, h.cellAt (j := 1) hx rfl, h.cellAt (j := 2) hx rfl, h.cellAt (j := 3) hx rfl⟩
set_option maxRecDepth 100000 in
set_option maxHeartbeats 4000000 in
theorem part_any (v : Value) (xs : List It) (o : Int) (ob : Nat) (w : World) (hv : SV lIt w v xs) (ho : w.cell? ⟨ob, 0, none⟩ = some (.int .i64 o)) (hl : xs.length ≤ 1000) :
    Calls Tryd.prog 32 #[v, .func (.func 33) #[] #[.pointer (some ⟨ob, 0, none⟩)]] w fun ev w' => ∃ y n, ev = .returned (.tuple #[y, n]) ∧
      OwnS lIt w.heap.size w' y (xs.filter (ripeB o)) ∧ OwnS lIt w.heap.size w' n (xs.filter fun x => !ripeB o x) ∧ Below w.heap.size w w' := by
  obtain ⟨a, c, rfl, hlc, hcm⟩ := hv.lenform
  obtain ⟨n, hn⟩ : ∃ n, xs.length = n := ⟨_, rfl⟩
  rw [hn] at hv hlc hl ⊢
  have V := Lib.hid hv
  have N := Lib.hid hn
  have O := Lib.hid ho
  clear hv hn ho
  go_enter Tryd.func32, Tryd.ntmps32
  go_wp2
  go_loopg [4, 5, 10] n (fun r vy vn i wr => ∃ k : Nat, k + r = n ∧ i = .int .i64 k ∧ OwnS lIt w.heap.size wr vy (yesTo o xs k) ∧ OwnS lIt w.heap.size wr vn (noTo o xs k) ∧ Aprt vy vn ∧ Below w.heap.size w wr)
  case atStart => exact ⟨0, by omega, rfl, OwnS.nil _ _ _, OwnS.nil _ _ _, Aprt.nil _, Below.refl _ _⟩
  case round =>
    obtain ⟨k, hk, rfl, hy, hn, hA, hB⟩ := hrel
    have B := Lib.hid hB
    have Y := Lib.hid hy
    have M := Lib.hid hn
    have AP := Lib.hid hA
    have HK := Lib.hid hk
    clear hy hn hA
    by_cases hlt : k < n
    · obtain ⟨x, hx⟩ : ∃ x, xs[k]? = some x := ⟨_, List.getElem?_eq_getElem (by rw [N.out]; exact hlt)⟩
      obtain ⟨b, off, ha⟩ := V.out.addr (by rw [N.out]; omega)
      subst ha
      obtain ⟨e0, e1, e2, e3⟩ := it_read (V.out.below hB) hx
      have bd := alloc_below0 wr (.cells #[.int .i64 x.s, .int .i64 x.a, .int .i64 x.b, .int .i64 x.p] 48)
      have D3 := Lib.hid bd
      have K3 := Lib.hid (blk_new wr (.cells #[.int .i64 x.s, .int .i64 x.a, .int .i64 x.b, .int .i64 x.p] 48))
      have B3 := Lib.hid (hB.trans (bd.mono hB.size))
      have O3 := Lib.hid (cell_step (cell_step O.out hB) bd)
      have d0 := blk_cell K3.out 0
      have d1 := blk_cell K3.out 1
      have d2 := blk_cell K3.out 2
      have d3 := blk_cell K3.out 3
      have i1 : IntKind.i64.wrap ((k : Int) + 1) = (k : Int) + 1 := Go.IntWalk.i64_in _ (by omega)
      have j3 : (0 : Int) ≤ (k : Int) := by omega
      have j4 : (k : Int) < (n : Int) := by omega
      clear hk hB bd
      cases hb : ripeB o x with
      | true =>
        have HB := Lib.hid hb
        have HY := Lib.hid (yesTo_y hx hb)
        clear hx hb
        go_wp2_with fail
        refine (stale_any x o ob _ O3.out).mono ?_
        rintro ev w4 ⟨rfl, hs⟩
        rw [HB.out]
        have B4 := Lib.hid (B3.out.trans (hs.mono B3.out.size))
        have k4 := blk_step K3.out hs
        have c0 := blk_cell k4 0
        have c1 := blk_cell k4 1
        have c2 := blk_cell k4 2
        have c3 := blk_cell k4 3
        have b5 := alloc_below0 w4 (.cells #[.int .i64 x.s, .int .i64 x.a, .int .i64 x.b, .int .i64 x.p] 48)
        have S5 := Lib.hid (one_it (w := w4) x)
        have B5 := Lib.hid (B4.out.trans (b5.mono B4.out.size))
        have BW := Lib.hid (show Below wr.heap.size wr (w4.alloc (.cells #[.int .i64 x.s, .int .i64 x.a, .int .i64 x.b, .int .i64 x.p] 48)) from (D3.out.trans (hs.mono D3.out.size)).trans (b5.mono (D3.out.trans (hs.mono D3.out.size)).size))
        have O5 := Lib.hid (Y.out.below BW.out)
        have P5 := Lib.hid (M.out.below BW.out)
        have LB := Lib.hid (yesTo_len o xs k)
        clear hs k4 b5
        go_wp2_with (refine wpList_appL lIt 49 Tryd.underlying49 lIt_known (by decide) (by decide) rfl (.tmp 17) (.tmp 19) rfl w.heap.size rfl rfl O5.out S5.out (by have := LB.out; simp; omega) B5.out.size ?_; intro v8 w8 ho8 hg8 hl8)
        have O8 := Lib.hid ho8
        have P8 := Lib.hid (P5.out.apart hg8 AP.out)
        have A8 := Lib.hid (AP.out.grown hl8 (fun j hj => (P5.out.bounds j hj).2))
        have B8 := Lib.hid (grown_below B5.out O5.out hg8 B5.out.size)
        clear ho8 hg8 hl8
        try go_wp2
        go_roundg (n - (k + 1))
        case measure => have := HK.out; omega
        case rel => exact ⟨k + 1, by omega, by go_num, by rw [HY.out.1]; exact O8.out, by rw [HY.out.2]; exact P8.out, A8.out, B8.out⟩
      | false =>
        have HB := Lib.hid hb
        have HY := Lib.hid (yesTo_n hx hb)
        clear hx hb
        go_wp2_with fail
        refine (stale_any x o ob _ O3.out).mono ?_
        rintro ev w4 ⟨rfl, hs⟩
        rw [HB.out]
        have B4 := Lib.hid (B3.out.trans (hs.mono B3.out.size))
        have k4 := blk_step K3.out hs
        have c0 := blk_cell k4 0
        have c1 := blk_cell k4 1
        have c2 := blk_cell k4 2
        have c3 := blk_cell k4 3
        have b5 := alloc_below0 w4 (.cells #[.int .i64 x.s, .int .i64 x.a, .int .i64 x.b, .int .i64 x.p] 48)
        have S5 := Lib.hid (one_it (w := w4) x)
        have B5 := Lib.hid (B4.out.trans (b5.mono B4.out.size))
        have BW := Lib.hid (show Below wr.heap.size wr (w4.alloc (.cells #[.int .i64 x.s, .int .i64 x.a, .int .i64 x.b, .int .i64 x.p] 48)) from (D3.out.trans (hs.mono D3.out.size)).trans (b5.mono (D3.out.trans (hs.mono D3.out.size)).size))
        have O5 := Lib.hid (M.out.below BW.out)
        have P5 := Lib.hid (Y.out.below BW.out)
        have LB := Lib.hid (yesTo_len o xs k)
        clear hs k4 b5
        go_wp2_with (refine wpList_appL lIt 49 Tryd.underlying49 lIt_known (by decide) (by decide) rfl (.tmp 21) (.tmp 23) rfl w.heap.size rfl rfl O5.out S5.out (by have := LB.out; simp; omega) B5.out.size ?_; intro v8 w8 ho8 hg8 hl8)
        have O8 := Lib.hid ho8
        have P8 := Lib.hid (P5.out.apart hg8 AP.out.symm)
        have A8 := Lib.hid (AP.out.symm.grown hl8 (fun j hj => (P5.out.bounds j hj).2))
        have B8 := Lib.hid (grown_below B5.out O5.out hg8 B5.out.size)
        clear ho8 hg8 hl8
        try go_wp2
        go_roundg (n - (k + 1))
        case measure => have := HK.out; omega
        case rel => exact ⟨k + 1, by omega, by go_num, by rw [HY.out.1]; exact P8.out, by rw [HY.out.2]; exact O8.out, A8.out.symm, B8.out⟩
    · obtain rfl : k = n := by omega
      have e : yesTo o xs k = xs.filter (ripeB o) ∧ noTo o xs k = xs.filter fun x => !ripeB o x := by unfold yesTo noTo; rw [List.take_of_length_le (by rw [N.out]; exact Nat.le_refl _)]; exact ⟨rfl, rfl⟩
      rw [e.1] at Y
      rw [e.2] at M
      clear hB e
      go_wp2
      go_ret2
      exact ⟨_, _, rfl, Y.out, M.out, B.out⟩
theorem run_makeFn (fn : Fn) (first cap : Array Value) (w : World) : (Instr.makeFunc fn first cap).run Tryd.prog w = .ok (.func fn first cap) w := rfl
theorem none_ripe {o : Int} {xs : List It} (h : (xs.filter (ripeB o)).length = 0) : (xs.filter fun x => !ripeB o x) = xs := by
  have h1 : xs.filter (ripeB o) = [] := List.eq_nil_of_length_eq_zero h
  rw [List.filter_eq_nil_iff] at h1
  rw [List.filter_eq_self]
  intro x hx
  simpa using h1 x hx
set_option maxRecDepth 100000 in
set_option maxHeartbeats 4000000 in
theorem ripe_nil (o : Int) (w : World) : Calls Tryd.prog 17 #[.pointer none, .int .i64 o] w fun ev w' => ev = .returned (.slice none 0 0) ∧ Below w.heap.size w w' := by
  have hmf := run_makeFn
  have b0 := alloc_below0 w (.cells #[.int .i64 o] 3)
  have k0 := blk_new w (.cells #[.int .i64 o] 3)
  have B0 := Lib.hid b0
  have K0 := Lib.hid k0
  clear b0 k0
  go_enter Tryd.func17, Tryd.ntmps17
  go_wp2_with fail
  refine (items_nil _).mono ?_
  rintro ev w1 ⟨rfl, hs⟩
  have B1 := Lib.hid (B0.out.trans (hs.mono B0.out.size))
  have K1 := Lib.hid (blk_step K0.out hs)
  clear hs
  go_wp2_with fail
  refine (part_any _ [] o w.heap.size _ (SV.nil _ _) (blk_cell K1.out 0) (by simp)).mono ?_
  rintro ev w2 ⟨y, n, rfl, hy, hn, hs⟩
  obtain ⟨a1, c1, rfl, -, -⟩ := hy.lenN (n := 0) (by simp)
  have B2 := Lib.hid (B1.out.trans (hs.mono B1.out.size))
  clear hs hy hn
  go_wp2
  go_ret
  exact ⟨rfl, B2.out⟩
set_option maxRecDepth 100000 in
set_option maxHeartbeats 4000000 in
theorem ripe_any (w : World) (bb : Nat) (xs : List It) (o : Int) (h : BinAt w bb xs) (hl : xs.length ≤ 1000) : Calls Tryd.prog 17 #[.pointer (some ⟨bb, 0, none⟩), .int .i64 o] w fun ev w' => ∃ v, ev = .returned v ∧
    OwnS lIt w.heap.size w' v (xs.filter (ripeB o)) ∧ BinAt w' bb (xs.filter fun x => !ripeB o x) ∧ Kept (fun k => k = bb) w w' := by
  have hmf := run_makeFn
  have b0 := alloc_below0 w (.cells #[.int .i64 o] 3)
  have B0 := Lib.hid b0
  have K0 := Lib.hid (blk_new w (.cells #[.int .i64 o] 3))
  have I0 := Lib.hid (h.low b0)
  have LB := Lib.hid (show bb < w.heap.size ∧ xs.length ≤ 1000 from ⟨h.lt, hl⟩)
  clear b0 h hl
  go_enter Tryd.func17, Tryd.ntmps17
  go_wp2_with fail
  refine (items_any _ bb xs I0.out (by have := LB.out; omega)).mono ?_
  rintro ev w1 ⟨v1, rfl, ho, hs⟩
  have B1 := Lib.hid (B0.out.trans (hs.mono B0.out.size))
  have K1 := Lib.hid (blk_step K0.out hs)
  have I1 := Lib.hid (I0.out.low hs)
  have V1 := Lib.hid ho.sv
  clear hs ho
  go_wp2_with fail
  refine (part_any _ xs o w.heap.size _ V1.out (blk_cell K1.out 0) LB.out.2).mono ?_
  rintro ev w2 ⟨y, n, rfl, hy, hn, hs⟩
  have B2 := Lib.hid (B1.out.trans (hs.mono B1.out.size))
  have I2 := Lib.hid (I1.out.low hs)
  obtain ⟨m, hm⟩ : ∃ m, (xs.filter (ripeB o)).length = m := ⟨_, rfl⟩
  obtain ⟨r, hr⟩ : ∃ r, (xs.filter fun x => !ripeB o x).length = r := ⟨_, rfl⟩
  have Y := Lib.hid (hy.mono B1.out.size)
  have M := Lib.hid (hn.mono B1.out.size)
  obtain ⟨a1, c1, rfl, -, -⟩ := hy.lenN hm
  obtain ⟨a2, c2, rfl, hrc, hcm⟩ := hn.lenN hr
  have HM := Lib.hid hm
  have HR := Lib.hid hr
  have RL := Lib.hid (show r ≤ 1000 by rw [← hr]; exact Nat.le_trans (List.length_filter_le _ _) LB.out.2)
  clear hs hy hn hm hr
  by_cases h0 : m = 0
  · subst h0
    have E := Lib.hid (none_ripe HM.out)
    go_wp2
    go_ret
    refine ⟨_, rfl, ?_, by rw [E.out]; exact I2.out, Kept.of_below B2.out⟩
    rw [List.eq_nil_of_length_eq_zero HM.out]
    exact OwnS.nil _ _ _
  · have hz : ((m : Int) == 0) = false := by simp; omega
    obtain ⟨p, h1, h2⟩ := I2.out.blk
    obtain ⟨q0, q1, q2, q3, q4⟩ := two_facts h1 (.pointer none) (.int .i64 0)
    have KK := ((Kept.refl (fun k => k = bb) w2).setCell 0 (.pointer none)).setCell 1 (.int .i64 0)
    obtain ⟨W3, hW3⟩ : ∃ W, W = (w2.setCell ⟨bb, 0, none⟩ (.pointer none)).setCell ⟨bb, 1, none⟩ (.int .i64 0) := ⟨_, rfl⟩
    rw [← hW3] at KK q4
    have OB := Lib.hid (show ∀ k, k = bb → k < w.heap.size from fun k e => e ▸ LB.out.1)
    have Z := Lib.hid (BinAt.zero q4)
    have Y3 := Lib.hid (Y.out.kept KK (Y.out.out (S := fun k => k = bb) OB.out))
    have M3 := Lib.hid (M.out.kept KK (M.out.out (S := fun k => k = bb) OB.out))
    have K3 := Lib.hid ((Kept.of_below (S := fun k => k = bb) B2.out).trans KK)
    clear h1 h2 q4 KK
    go_wp2
    rw [← hW3]
    clear hW3
    go_loopg [24] r (fun q i wr => ∃ k : Nat, k + q = r ∧ i = .int .i64 k ∧ BinAt wr bb ((xs.filter fun x => !ripeB o x).take k) ∧ Kept (fun k => k = bb) W3 wr)
    case atStart => exact ⟨0, by omega, rfl, Z.out, Kept.refl _ _⟩
    case round =>
      obtain ⟨k, hk, rfl, hI, hK⟩ := hrel
      have I := Lib.hid hI
      have KW := Lib.hid hK
      have HK := Lib.hid hk
      have M4 := Lib.hid (M3.out.kept hK (M3.out.out (S := fun k => k = bb) OB.out))
      clear hI hK
      by_cases hlt : k < r
      · obtain ⟨x, hx⟩ : ∃ x, (xs.filter fun x => !ripeB o x)[k]? = some x := ⟨_, List.getElem?_eq_getElem (by rw [HR.out]; exact hlt)⟩
        obtain ⟨b, ha⟩ := M4.out.addrN (by omega)
        subst ha
        obtain ⟨e0, e1, e2, e3⟩ := it_read M4.out.sv hx
        have bd := alloc_below0 wr (.cells #[.int .i64 x.s, .int .i64 x.a, .int .i64 x.b, .int .i64 x.p] 48)
        have D5 := Lib.hid bd
        have K5 := Lib.hid (blk_new wr (.cells #[.int .i64 x.s, .int .i64 x.a, .int .i64 x.b, .int .i64 x.p] 48))
        have I5 := Lib.hid (I.out.low bd)
        have d0 := blk_cell K5.out 0
        have d1 := blk_cell K5.out 1
        have d2 := blk_cell K5.out 2
        have d3 := blk_cell K5.out 3
        have i1 : IntKind.i64.wrap ((k : Int) + 1) = (k : Int) + 1 := Go.IntWalk.i64_in _ (by have := RL.out; omega)
        have j3 : (0 : Int) ≤ (k : Int) := by omega
        have j4 : (k : Int) < (r : Int) := by omega
        have TK := Lib.hid (show (xs.filter fun x => !ripeB o x).take (k + 1) = (xs.filter fun x => !ripeB o x).take k ++ [x] by
          obtain ⟨h1, h2⟩ := List.getElem?_eq_some_iff.1 hx
          rw [List.take_succ_eq_append_getElem h1, h2])
        have fa := add_any _ bb _ x I5.out (by rw [List.length_take, HR.out]; have := RL.out; omega)
        unfold It.val at fa
        simp only [Nat.zero_add] at e0 e1 e2 e3
        clear hk bd hx
        go_wp2_with fail
        refine fa.mono ?_
        rintro ev w4 ⟨rfl, hI, hkk⟩
        rw [← TK.out] at hI
        have I6 := Lib.hid hI
        have K6 := Lib.hid ((KW.out.trans (Kept.of_below D5.out)).trans hkk)
        clear hI hkk fa
        go_wp2
        go_roundg (r - (k + 1))
        case measure => have := HK.out; omega
        case rel => exact ⟨k + 1, by omega, by go_num, I6.out, K6.out⟩
      · obtain rfl : k = r := by omega
        go_wp2
        go_ret
        refine ⟨_, rfl, Y3.out.kept KW.out (Y3.out.out (S := fun k => k = bb) OB.out), ?_, K3.out.trans KW.out⟩
        have e := I.out
        rw [List.take_of_length_le (by rw [HR.out]; exact Nat.le_refl _)] at e
        exact e
end Go.Proofs.YtocigedgicgonaaDoor
