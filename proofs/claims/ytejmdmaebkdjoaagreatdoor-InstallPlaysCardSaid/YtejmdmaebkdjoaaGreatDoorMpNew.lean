/- Package mapping's New, Take, Pages and Copy, by contracts. -/
import Derived.Test.YtejmdmaebkdjoaaGreatDoorMm
import Derived.Test.YtejmdmaebkdjoaaGreatDoorMpOps
namespace Go.Proofs.YtejmdmaebkdjoaaGreatDoor
set_option linter.unusedVariables false
set_option linter.unusedSimpArgs false
set_option maxRecDepth 100000
set_option maxHeartbeats 4000000
open Go.RowKit
def pages0 (n : Nat) : List Pg := List.replicate n none
theorem pages0_at {n i : Nat} (h : i < n) : (pages0 n)[i]? = some none := by unfold pages0; rw [List.getElem?_replicate, if_pos h]
theorem pages0_len (n : Nat) : (pages0 n).length = n := by simp [pages0]
theorem made_pages (n : Nat) : madeCells #[.bool false, .int .i64 0, .int .i64 0] (n * 3) = (lPage.flat (pages0 n)).toArray := by
 apply Array.ext_getElem?
 intro i
 by_cases hi : i < n * 3
 ·have hq : i / 3 < n := by omega
  have e := lPage.flat_at (pages0 n) (i / 3) (i % 3) _ (pages0_at hq) (Nat.mod_lt _ (by decide))
  rw [show i / 3 * lPage.sz + i % 3 = i from Nat.div_add_mod' i 3] at e
  rw [show (lPage.flat (pages0 n)).toArray[i]? = (lPage.flat (pages0 n))[i]? by simp, e]
  have h3 : i % 3 = 0 ∨ i % 3 = 1 ∨ i % 3 = 2 := by omega
  unfold madeCells
  rw [Array.getElem?_map, Array.getElem?_range, if_pos hi]
  rcases h3 with h | h | h <;> simp [h, lPage, pgEnc]
 ·rw [Array.getElem?_eq_none (by rw [size_madeCells]; omega), Array.getElem?_eq_none (by simp [Lay.flat_len, pages0_len, lPage]; omega)]
theorem run_makePg (n : Nat) (hn : n ≤ 100000) (w : World) : (Instr.makeSlice 145 (.int .i64 (n : Int)) (.int .i64 (n : Int))).run Tryz.prog w = .ok (.slice (some ⟨w.heap.size, 0, none⟩) n n) (w.alloc (.cells (lPage.flat (pages0 n)).toArray 197)) := by
 obtain ⟨i, hi, hzz⟩ := Option.map_eq_some_iff.1 pageInfo
 simp only [Prod.mk.injEq] at hzz
 obtain ⟨hz, hs, hb⟩ := hzz
 have h := run_make (P := Tryz.prog) w 145 197 i _ Tryz.underlying145 hi hz .i64 .i64 n n (by omega) (Int.le_refl _) (by rw [hb]; omega) (by omega)
 simp only [Int.toNat_natCast, hs] at h
 rw [← made_pages]
 exact h
theorem mp_new_any (n : Nat) (w : World) (g1 : 1 ≤ n) (g2 : n ≤ 256) : Calls Tryz.prog 26 #[.int .i64 (n : Int)] w fun ev w' => ∃ ab pb, ev = .returned (.pointer (some ⟨ab, 0, none⟩)) ∧ TabAt w' ab pb n (pages0 n) ∧ w.heap.size ≤ ab ∧ w.heap.size ≤ pb ∧ Below w.heap.size w w' := by
 have h1 : ¬ (n : Int) < 1 := by omega
 have h2 : ¬ (256 : Int) < n := by omega
 have hmk := run_makePg n (by omega)
 have T := Lib.hid (show TabAt ((w.alloc (.cells (lPage.flat (pages0 n)).toArray 197)).alloc (.cells #[.slice (some ⟨w.heap.size, 0, none⟩) n n] 147)) (w.heap.size + 1) w.heap.size n (pages0 n) from by
  have b := OwnS.lit lPage w.heap.size w w.heap.size rfl (pages0 n) (Nat.le_refl _) (by rw [pages0_len]; simp [maxLen]; omega)
  rw [pages0_len] at b
  have k := blk_new (w.alloc (.cells (lPage.flat (pages0 n)).toArray 197)) (.cells #[.slice (some ⟨w.heap.size, 0, none⟩) n n] 147)
  rw [show (w.alloc (.cells (lPage.flat (pages0 n)).toArray 197)).heap.size = w.heap.size + 1 by simp] at k
  exact ⟨pages0_len n, g1, g2, k, (b.below (alloc_below0 _ _)).mono (Nat.zero_le _)⟩)
 have B := Lib.hid ((alloc_below0 w (.cells (lPage.flat (pages0 n)).toArray 197)).trans ((alloc_below0 _ (.cells #[.slice (some ⟨w.heap.size, 0, none⟩) n n] 147)).mono (alloc_below0 w _).size))
 clear g1 g2
 go_enter Tryz.func26, Tryz.ntmps26
 go_wp2
 go_ret
 exact ⟨w.heap.size + 1, rfl, w.heap.size, T.out, by omega, Nat.le_refl _, B.out⟩
/-! ### Take -/
theorem firstFree_hit {L : List Pg} {k : Nat} (h : ∀ j, j < k → (pageAt L (j : Int)).isSome = true) (hk : L[k]? = some none) : firstFree L = some k := by
 have hlt := (List.getElem?_eq_some_iff.1 hk).1
 unfold firstFree
 rw [List.findIdx?_eq_some_iff_getElem]
 refine ⟨hlt, ?_, fun j hj => ?_⟩
 ·rw [List.getElem?_eq_getElem hlt] at hk
  rw [Option.some.inj hk]; rfl
 ·have e := h j hj
  rw [pageAt_nat, List.getElem?_eq_getElem (by omega)] at e
  rw [Bool.not_eq_true]
  cases hx : L[j] with
  | none => rw [hx] at e; cases e
  | some r => rfl
theorem firstFree_none {L : List Pg} (h : ∀ j, j < L.length → (pageAt L (j : Int)).isSome = true) : firstFree L = none := by
 unfold firstFree
 rw [List.findIdx?_eq_none_iff]
 intro x hx
 obtain ⟨j, hj, rfl⟩ := List.getElem_of_mem hx
 have e := h j hj
 rw [pageAt_nat, List.getElem?_eq_getElem hj] at e
 cases hx : L[j] with
 | none => rw [hx] at e; cases e
 | some r => rfl
theorem take_any (w : World) (ab pb n : Nat) (L : List Pg) (h : TabAt w ab pb n L) :
  Calls Tryz.prog 69 #[.pointer (some ⟨ab, 0, none⟩)] w fun ev w' => ev = .returned (.tuple #[.int .i64 (takeN L : Int), errV (takeE L)]) ∧ TabAt w' ab pb n (takeL L) ∧ Kept (fun k => k = pb) w w' := by
 have I := Lib.hid h
 have a0 := h.a0
 have hn := h.hi
 clear h
 go_enter Tryz.func69, Tryz.ntmps69
 go_wp2
 go_loopg [14] n (fun r i wr => ∃ k : Nat, k + r = n ∧ i = .int .i64 k ∧ Below w.heap.size w wr ∧ ∀ j, j < k → (pageAt L (j : Int)).isSome = true)
 case atStart => exact ⟨0, by omega, rfl, Below.refl _ _, fun j hj => absurd hj (by omega)⟩
 case round =>
  obtain ⟨k, hk, rfl, hB, hU⟩ := hrel
  have A := Lib.hid (show Below w.heap.size w wr ∧ k + gk = n from ⟨hB, hk⟩)
  have U := Lib.hid hU
  have I1 := Lib.hid (I.out.low hB)
  have c0 := I1.out.a0
  clear hB hU a0
  by_cases hlt : k < n
  ·have hL : k < L.length := by have := I.out.len; omega
   have i1 : IntKind.i64.wrap ((k : Int) + 1) = (k : Int) + 1 := Go.IntWalk.i64_in _ (by omega)
   have j3 : (0 : Int) ≤ (k : Int) := by omega
   have j4 : (k : Int) < (n : Int) := by omega
   have hg := List.getElem?_eq_getElem hL
   cases hp : L[k] with
   | none =>
    rw [hp] at hg
    have P := I1.out.pnone hg
    have x0 := P.c0
    have x1 := P.c1
    have x2 := P.c2
    have F := Lib.hid (firstFree_hit U.out hg)
    have G := Lib.hid hg
    have b1 := alloc_below0 wr (.cells #[.bool false, .int .i64 0, .int .i64 0] 197)
    have b2 := alloc_below0 (wr.alloc (.cells #[.bool false, .int .i64 0, .int .i64 0] 197)) (.cells #[.bool false, .int .i64 0, .int .i64 0] 197)
    have B := Lib.hid (b1.trans (b2.mono b1.size))
    have c1 := cell_step c0 B.out
    have y0 := cell_step x0 B.out
    have y1 := cell_step x1 B.out
    have y2 := cell_step x2 B.out
    have I2 := Lib.hid (I1.out.low B.out)
    have f0 := I2.out.own.free (k * 3)
    have f1 := I2.out.own.free (k * 3 + 1)
    have f2 := I2.out.own.free (k * 3 + 2)
    clear P hg b1 b2 hp
    go_wp2
    go_ret2
    have H : takeN L = k ∧ takeE L = 0 ∧ takeL L = L.set k (some (0, 0)) := by unfold takeN takeE takeL; rw [F.out]; exact ⟨rfl, rfl, rfl⟩
    rw [H.1, H.2.1, H.2.2]
    exact ⟨rfl, I2.out.set G.out rfl, ((((Kept.of_below (S := fun k => k = pb) (A.out.1.trans (B.out.mono A.out.1.size))).setCell _ _).setCell _ _).setCell _ _)⟩
   | some r =>
    rw [hp] at hg
    obtain ⟨x, y⟩ := r
    have P := I1.out.psome hg
    have x0 := P.c0
    have x1 := P.c1
    have x2 := P.c2
    simp only at x1 x2
    have G := Lib.hid hg
    have b1 := alloc_below0 wr (.cells #[.bool true, .int .i64 x, .int .i64 y] 197)
    have b2 := alloc_below0 (wr.alloc (.cells #[.bool true, .int .i64 x, .int .i64 y] 197)) (.cells #[.bool true, .int .i64 x, .int .i64 y] 197)
    have B := Lib.hid (A.out.1.trans ((b1.trans (b2.mono b1.size)).mono A.out.1.size))
    clear P hg b1 b2 hp
    go_wp2
    go_roundg (n - (k + 1))
    case measure => have := A.out.2; omega
    case rel =>
     refine ⟨k + 1, by omega, by go_num, B.out, fun j hj => ?_⟩
     by_cases e : j = k
     ·subst e; rw [pageAt_get G.out]; rfl
     ·exact U.out j (by omega)
  ·obtain rfl : k = n := by omega
   have F := Lib.hid (firstFree_none (L := L) (fun j hj => U.out j (by have := I.out.len; omega)))
   have H := Lib.hid (show takeN L = 0 ∧ takeE L = 3 ∧ takeL L = L by unfold takeN takeE takeL; rw [F.out]; exact ⟨rfl, rfl, rfl⟩)
   go_wp2
   go_ret2
   rw [H.out.1, H.out.2.1, H.out.2.2]
   exact ⟨rfl, I1.out, Kept.of_below A.out.1⟩
theorem pages_any (w : World) (ab pb n : Nat) (L : List Pg) (h : TabAt w ab pb n L) :
  Calls Tryz.prog 87 #[.pointer (some ⟨ab, 0, none⟩)] w fun ev w' => ∃ v', ev = .returned v' ∧ OwnS lInt w.heap.size w' v' (usedT L) ∧ Below w.heap.size w w' := by
 have I := Lib.hid h
 have a0 := h.a0
 have hn := h.hi
 have HL := Lib.hid (show usedT L = usedTo L n by unfold usedT; rw [h.len])
 clear h
 go_enter Tryz.func87, Tryz.ntmps87
 go_wp2
 go_loopg [3, 13] n (fun r y i wr => ∃ k : Nat, k + r = n ∧ i = .int .i64 k ∧ OwnS lInt w.heap.size wr y (usedTo L k) ∧ Below w.heap.size w wr)
 case atStart => exact ⟨0, by omega, rfl, OwnS.nil _ _ _, Below.refl _ _⟩
 case round =>
  obtain ⟨k, hk, rfl, hO, hB⟩ := hrel
  have A := Lib.hid (show Below w.heap.size w wr ∧ k + gk = n from ⟨hB, hk⟩)
  have O := Lib.hid hO
  have I1 := Lib.hid (I.out.low hB)
  have c0 := I1.out.a0
  clear hB hO a0
  by_cases hlt : k < n
  ·have hL : k < L.length := by have := I.out.len; omega
   have i1 : IntKind.i64.wrap ((k : Int) + 1) = (k : Int) + 1 := Go.IntWalk.i64_in _ (by omega)
   have j3 : (0 : Int) ≤ (k : Int) := by omega
   have j4 : (k : Int) < (n : Int) := by omega
   have hg := List.getElem?_eq_getElem hL
   cases hp : L[k] with
   | none =>
    rw [hp] at hg
    have P := I1.out.pnone hg
    have x0 := P.c0
    have x1 := P.c1
    have x2 := P.c2
    have T := Lib.hid (show usedTo L (k + 1) = usedTo L k by rw [usedTo_succ, pageAt_get hg]; simp)
    have b1 := alloc_below0 wr (.cells #[.bool false, .int .i64 0, .int .i64 0] 197)
    have b2 := alloc_below0 (wr.alloc (.cells #[.bool false, .int .i64 0, .int .i64 0] 197)) (.cells #[.bool false, .int .i64 0, .int .i64 0] 197)
    have B := Lib.hid (A.out.1.trans ((b1.trans (b2.mono b1.size)).mono A.out.1.size))
    have O2 := Lib.hid ((O.out.below b1).below b2)
    clear P hg b1 b2 hp
    go_wp2
    go_roundg (n - (k + 1))
    case measure => have := A.out.2; omega
    case rel => exact ⟨k + 1, by omega, by go_num, by rw [T.out]; exact O2.out, B.out⟩
   | some r =>
    rw [hp] at hg
    obtain ⟨x, y⟩ := r
    have P := I1.out.psome hg
    have x0 := P.c0
    have x1 := P.c1
    have x2 := P.c2
    simp only at x1 x2
    have T := Lib.hid (show usedTo L (k + 1) = usedTo L k ++ [(k : Int)] by rw [usedTo_succ, pageAt_get hg]; rfl)
    have b1 := alloc_below0 wr (.cells #[.bool true, .int .i64 x, .int .i64 y] 197)
    have B := Lib.hid (A.out.1.trans (b1.mono A.out.1.size))
    have O1 := Lib.hid (O.out.below b1)
    have LN := Lib.hid (usedTo_len L k)
    clear P hg b1 hp
    go_wp2_with fail
    refine (mp_free_any _ true x y (some (x, y)) rfl).mono ?_
    rintro ev w3 ⟨rfl, hs⟩
    have B2 := Lib.hid (B.out.trans (hs.mono B.out.size))
    have b3 := alloc_below0 w3 (.cells #[.int .i64 (k : Int)] 3)
    have B3 := Lib.hid (B2.out.trans (b3.mono B2.out.size))
    have O2 := Lib.hid ((O1.out.below hs).below b3)
    have SR := Lib.hid (OwnS.lit lInt w.heap.size w3 w3.heap.size rfl [(k : Int)] B2.out.size (by simp [maxLen])).sv
    have nf : (some (x, y) : Pg).isNone = false := rfl
    rw [nf]
    clear hs b3 nf
    go_wp2_with (refine wpList_appS lInt 39 Tryz.underlying39 lInt_known (by decide) (by decide) rfl (.tmp 21) (.tmp 23) rfl w.heap.size rfl rfl O2.out SR.out (by have := LN.out; simp; omega) B3.out.size ?_; intro v2 w2 ho2 hg2)
    go_roundg (n - (k + 1))
    case measure => have := A.out.2; omega
    case rel => exact ⟨k + 1, by omega, by go_num, by rw [T.out]; exact ho2, B3.out.trans ((Kept.of_grown hg2).below (fun j hj => (O2.out.bounds j hj.symm).1) B3.out.size)⟩
  ·obtain rfl : k = n := by omega
   go_wp2
   go_ret
   exact ⟨_, rfl, by rw [HL.out]; exact O.out, A.out.1⟩
end Go.Proofs.YtejmdmaebkdjoaaGreatDoor
