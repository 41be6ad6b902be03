/- Package mem's plant and New, by contracts. -/
import Derived.Test.YtabchlgbdlgacaaMmMem
namespace Go.Proofs.Ytabchlgbdlgacaa
open Go.RowKit

def baseD : RecD := ⟨{ Sc.zero with kind := 1, unb := true }, [], []⟩
theorem base_reads (w : World) : RecV w (recVal baseD.sc (.slice none 0 0) (.slice none 0 0)) baseD := ⟨_, _, rfl, SV.nil _ _, SV.nil _ _⟩
def psB : List Pt := [⟨1, 1, baseD, true⟩]
theorem allocM0 {n l : Nat} (h1 : 1 ≤ n) (h2 : 1 ≤ l) : allocM n l [] = (1, 1, 0) := by
  obtain ⟨k, rfl⟩ : ∃ k, n = k + 1 := ⟨n - 1, by omega⟩
  have e : slotOf [] 1 = (0, false) := rfl
  unfold allocM allocGo
  rw [e, if_neg (by decide), if_pos (by omega)]
theorem putM0 {n l : Nat} (h1 : 1 ≤ n) (h2 : 1 ≤ l) : putM n l [] baseD = psB := by unfold putM; rw [allocM0 h1 h2]; rfl
def pgs0 (p : Nat) : List Pg := some (0, 0) :: pages0 (p - 1)
def pgs1 (p : Nat) : List Pg := some (1, 1) :: pages0 (p - 1)
theorem take0 {p : Nat} (h : 1 ≤ p) : takeN (pages0 p) = 0 ∧ takeE (pages0 p) = 0 ∧ takeL (pages0 p) = pgs0 p := by
  obtain ⟨k, rfl⟩ : ∃ k, p = k + 1 := ⟨p - 1, by omega⟩
  have e : firstFree (pages0 (k + 1)) = some 0 := by unfold firstFree pages0; simp [List.replicate_succ, List.findIdx?_cons]
  unfold takeN takeE takeL
  rw [e]
  exact ⟨rfl, rfl, by simp [pages0, pgs0, List.replicate_succ]⟩
theorem code0 (p : Nat) (r : Rf) : codeT (some r :: pages0 p) 0 = 0 := codeT_at (i := 0) (p := some r) rfl
theorem swap0 (p : Nat) : swapB (pgs0 p) 0 (0, 0) = true ∧ swapL (pgs0 p) 0 (0, 0) (1, 1) = pgs1 p ∧ codeT (pgs0 p) 0 = 0 := by
  have e : swapB (pgs0 p) 0 (0, 0) = true := by
    unfold swapB pgs0
    rw [code0, show headT (some (0, 0) :: pages0 (p - 1)) 0 = (0, 0) from headT_at (i := 0) rfl]; rfl
  refine ⟨e, ?_, code0 _ _⟩
  unfold swapL
  rw [if_pos e]
  rfl
set_option maxRecDepth 100000 in
set_option maxHeartbeats 4000000 in
theorem plant_any (w : World) (m : MB) (S : Nat → Prop) (l : LimN) (k : Int) (c : Ck) (h : MemAt w m S l k [] (pages0 l.p) c) :
    Calls Try.prog 33 #[.pointer (some ⟨m.mb, 0, none⟩)] w fun ev w' => ∃ S', ev = .returned (.tuple #[]) ∧ MemAt w' m S' l k psB (pgs1 l.p) c ∧ Kept (MS m S) w w' ∧ (∀ k, S' k → S k ∨ w.heap.size ≤ k) := by
  have hp := h.ok.p1
  have hs := h.ok.s1
  have hc := h.ok.c1
  have OK := Lib.hid h.ok
  have M0 := Lib.hid h
  have x0 := h.cT
  obtain ⟨t1, t2, t3⟩ := take0 (p := l.p) (by omega)
  have T := Lib.hid (show _ ∧ _ ∧ _ from ⟨t1, t2, t3⟩)
  have A := Lib.hid (show allocM l.s l.c [] = (1, 1, 0) ∧ putM l.s l.c [] baseD = psB from ⟨allocM0 (by omega) (by omega), putM0 (by omega) (by omega)⟩)
  clear h t1 t2 t3 hp hs hc
  go_enter Try.func33, Try.ntmps33
  go_wp2_with fail
  refine (take_any _ m.ab m.pb l.p _ M0.out.tb).mono ?_
  rintro ev w1 ⟨rfl, hT, hk⟩
  rw [T.out.1, T.out.2.1, errV_at rfl]
  rw [T.out.2.2] at hT
  have M1 := Lib.hid (M0.out.table hT hk)
  have K1 := Lib.hid (MS.tb (S := S) hk)
  clear hT hk x0
  have x1 := M1.out.cA
  go_wp2_with fail
  refine (alloc_any _ _ S l.s l.c [] baseD _ M1.out.ar (base_reads _) (by decide) (by decide)).mono ?_
  rintro ev w2 ⟨S', rfl, hI, hk, hS⟩
  rw [A.out.1, errV_at rfl]
  rw [A.out.2] at hI
  have M2 := Lib.hid (M1.out.arena hI hk hS)
  have K2 := Lib.hid (K1.out.trans (MS.ar (m := m) hk))
  have F2 := Lib.hid (show ∀ k, S' k → S k ∨ w.heap.size ≤ k from fun k hk => (hS k hk).imp id (Nat.le_trans K1.out.size))
  unfold refV
  simp only
  have b1 := alloc_below0 w2 (.cells #[.int .i64 1, .int .i64 1] 34)
  have M3 := Lib.hid (M2.out.low b1)
  have K3 := Lib.hid (K2.out.trans (Kept.of_below b1))
  have R3 := Lib.hid (RfB.mk (blk_new w2 (.cells #[.int .i64 1, .int .i64 1] 34)))
  have N3 := Lib.hid (show ¬ w2.heap.size = m.pb from fun e => Nat.lt_irrefl _ (e ▸ M2.out.tb.ltP))
  clear hI hk hS x1 b1
  have x1 := M3.out.cT
  have x2 := R3.out.c0
  have x3 := R3.out.c1
  obtain ⟨sw1, sw2, sw3⟩ := swap0 l.p
  have SW := Lib.hid (show _ ∧ _ ∧ _ from ⟨sw1, sw2, sw3⟩)
  clear sw1 sw2 sw3
  go_wp2_with fail
  have fc := fun w' h => swap_any w' m.ab m.pb l.p (pgs0 l.p) 0 0 0 1 1 h
  unfold refV at fc
  generalize hw3 : w2.alloc (.cells #[.int .i64 1, .int .i64 1] 34) = w3 at *
  go_region_held3 (fun w' => w'.cell? ⟨m.mb, 8, none⟩ = some (.pointer (some ⟨m.ab, 0, none⟩)) ∧ w'.cell? ⟨w2.heap.size, 0, none⟩ = some (.int .i64 1) ∧ w'.cell? ⟨w2.heap.size, 1, none⟩ = some (.int .i64 1)) (first | exact ⟨by assumption, by assumption, by assumption⟩ | go_keep)
    (first
      | (go_at_call 57; (with_reducible refine (fc _ ?_).mono ?_); exact M3.out.tb.low (Below.refl _ _).drew; rintro e4 w4 ⟨rfl, hT, hk⟩; rw [SW.out.2.1] at hT; have M4 := Lib.hid ((M3.out.low (Below.refl _ _).drew).table hT hk); have K4 := Lib.hid ((K3.out.drew).trans (MS.tb (S := S) hk)); have R4 := R3.out.keep (Kept.trans (Kept.of_below (Below.refl _ _).drew) hk) N3.out; have y1 := M4.out.cT; have y2 := R4.c0; have y3 := R4.c1; clear hT hk R4))
  go_wp2
  go_end0
  exact ⟨S', rfl, M4.out, K4.out, F2.out⟩
set_option maxRecDepth 100000 in
set_option maxHeartbeats 4000000 in
theorem mem_new (l : LimN) (h : l.ok) (w : World) :
    Calls Try.prog 9 #[limV l.z] w fun ev w' => ∃ m S, ev = .returned (.tuple #[.pointer (some ⟨m.mb, 0, none⟩), .nilIface]) ∧ MemAt w' m S l 0 psB (pgs1 l.p) (Ck.new l.t l.c) ∧ (∀ k, MS m S k → w.heap.size ≤ k) ∧ Below w.heap.size w w' := by
  have OK := Lib.hid h
  have B0 := Lib.hid (alloc_below0 w (limObj l.z))
  have L0 := Lib.hid (LimAt.new w l.z)
  have x0 := L0.out.c0
  have x1 := L0.out.c1
  have x2 := L0.out.c2
  have x3 := L0.out.c3
  have x4 := L0.out.c4
  have x5 := L0.out.c5
  have OKN := Lib.hid (show okN (l.s : Int) (l.c : Int) = true by
    have := h.s1; have := h.s2; have := h.c1; have := h.c2
    unfold okN
    rw [decide_eq_true (show (1 : Int) ≤ l.s by omega), decide_eq_true (show (l.s : Int) ≤ 4096 by omega), decide_eq_true (show (1 : Int) ≤ l.c by omega), decide_eq_true (show (l.c : Int) ≤ 1099511627776 by omega)]; rfl)
  have OKP := Lib.hid (show 1 ≤ l.p ∧ l.p ≤ 256 from ⟨by have := h.p1; omega, h.p2⟩)
  have OKT := Lib.hid (show Ck.may (l.t : Int) (l.c : Int) by have := h.t1; have := h.t2; have := h.c1; have := h.c2; unfold Ck.may; omega)
  clear h
  have hr := fun w => right_ok l OK.out w
  unfold limV LimN.z at hr ⊢
  unfold limObj LimN.z at B0 L0 x0 x1 x2 x3 x4 x5
  simp only at x0 x1 x2 x3 x4 x5
  go_enter Try.func9, Try.ntmps9
  go_wp2_with fail
  refine (hr _).mono ?_
  rintro ev w1 ⟨rfl, hs⟩
  have L1 := Lib.hid (L0.out.step hs)
  have B1 := Lib.hid (B0.out.trans (hs.mono B0.out.size))
  clear hs x0 x1 x2 x3 x4 x5 hr
  have x0 := L1.out.c0
  have x1 := L1.out.c1
  have x2 := L1.out.c2
  have x3 := L1.out.c3
  have x4 := L1.out.c4
  have x5 := L1.out.c5
  simp only at x0 x1 x2 x3 x4 x5
  go_wp2_with fail
  go_region_held3 (fun w' => w'.cell? ⟨w.heap.size, 0, none⟩ = some (.int .i64 (l.s : Int)) ∧ w'.cell? ⟨w.heap.size, 1, none⟩ = some (.int .i64 (l.p : Int)) ∧ w'.cell? ⟨w.heap.size, 2, none⟩ = some (.int .i64 (l.t : Int)) ∧ w'.cell? ⟨w.heap.size, 3, none⟩ = some (.int .i64 (l.r : Int)) ∧ w'.cell? ⟨w.heap.size, 4, none⟩ = some (.int .i64 (l.h : Int)) ∧ w'.cell? ⟨w.heap.size, 5, none⟩ = some (.int .i64 (l.c : Int))) (first | exact ⟨by assumption, by assumption, by assumption, by assumption, by assumption, by assumption⟩ | go_keep)
    (first
      | (go_at_call 30; (with_reducible refine (ar_new_any l.s l.c _ ?_).mono ?_); exact OKN.out; rintro e2 w2 ⟨aa, S, rfl, hI, hS, hs⟩; have L2 := Lib.hid (L1.out.step ((Below.refl _ w1).drew.trans hs)); have B2 := Lib.hid (B1.out.trans (((Below.refl _ w1).drew.trans hs).mono B1.out.size)); have I2 := Lib.hid hI; have F2 := Lib.hid hS; have x0 := L2.out.c0; have x1 := L2.out.c1; have x2 := L2.out.c2; have x3 := L2.out.c3; have x4 := L2.out.c4; have x5 := L2.out.c5; simp only at x0 x1 x2 x3 x4 x5; clear hs hI hS)
      | (go_at_call 31; (with_reducible refine (mp_new_any l.p _ ?_ ?_).mono ?_); exact OKP.out.1; exact OKP.out.2; rintro e3 w3 ⟨ab, pb, rfl, hT, h1, h2, hs⟩; have L3 := Lib.hid (L2.out.step hs); have B3 := Lib.hid (B2.out.trans (hs.mono B2.out.size)); have I3 := Lib.hid (I2.out.low hs); have T3 := Lib.hid hT; have G3 := Lib.hid (show w2.heap.size ≤ ab ∧ w2.heap.size ≤ pb ∧ _ from ⟨h1, h2, hs.size⟩); have y0 := L3.out.c0; have y1 := L3.out.c1; have y2 := L3.out.c2; have y3 := L3.out.c3; have y4 := L3.out.c4; have y5 := L3.out.c5; simp only at y0 y1 y2 y3 y4 y5; clear hs hT h1 h2)
      | (go_at_call 32; (with_reducible refine (ep_new_any l.t l.c _ ?_).mono ?_); exact OKT.out; rintro e4 w4 ⟨cb, kb, rfl, hC, h1, h2, hs⟩; have L4 := Lib.hid (L3.out.step hs); have B4 := Lib.hid (B3.out.trans (hs.mono B3.out.size)); have I4 := Lib.hid (I3.out.low hs); have T4 := Lib.hid (T3.out.low hs); have C4 := Lib.hid hC; have G4 := Lib.hid (show w3.heap.size ≤ cb ∧ w3.heap.size ≤ kb ∧ _ from ⟨h1, h2, hs.size⟩); have z0 := L4.out.c0; have z1 := L4.out.c1; have z2 := L4.out.c2; have z3 := L4.out.c3; have z4 := L4.out.c4; have z5 := L4.out.c5; simp only at z0 z1 z2 z3 z4 z5; clear hs hC h1 h2))
  clear x0 x1 x2 x3 x4 x5 y0 y1 y2 y3 y4 y5 z0 z1 z2 z3 z4 z5
  have b5 := alloc_below0 w4 (.cells (memCells ⟨w4.heap.size, aa, ab, pb, cb, kb⟩ l 0) 85)
  have k5 := blk_new w4 (.cells (memCells ⟨w4.heap.size, aa, ab, pb, cb, kb⟩ l 0) 85)
  have fa : ∀ k, S k → k < w2.heap.size := I2.out.foot
  have g3 := G3.out
  have g4 := G4.out
  have M5 := Lib.hid (show MemAt (w4.alloc (.cells (memCells ⟨w4.heap.size, aa, ab, pb, cb, kb⟩ l 0) 85)) ⟨w4.heap.size, aa, ab, pb, cb, kb⟩ S l 0 [] (pages0 l.p) (Ck.new l.t l.c) from
    ⟨OK.out, k5, I4.out.low b5, T4.out.low b5, C4.out.low b5, fun h => by have := fa _ h; simp only at this; omega, fun h => by have := fa _ h; simp only at this; omega, fun h => by have := fa _ h; simp only at this; omega, fun h => by have := fa _ h; simp only at this; omega, fun h => by have := fa _ h; simp only at this; omega⟩)
  have B5 := Lib.hid (B4.out.trans (b5.mono B4.out.size))
  have F5 := Lib.hid (show ∀ k, MS ⟨w4.heap.size, aa, ab, pb, cb, kb⟩ S k → w.heap.size ≤ k from fun k h => by
    have q1 := B1.out.size
    have q2 := B2.out.size
    have q4 := B4.out.size
    have q3 := B3.out.size
    rcases h with rfl | h | rfl | rfl | rfl | rfl <;> first | (have := F2.out k h; simp at this; omega) | omega)
  simp only [memCells] at M5 B5
  clear b5 k5 fa g3 g4
  go_wp2_with fail
  generalize hw5 : w4.alloc _ = w5 at *
  refine (plant_any _ _ S l 0 _ M5.out).mono ?_
  rintro ev w6 ⟨S', rfl, hM, hk, hS⟩
  have M6 := Lib.hid hM
  have B6 := Lib.hid (B5.out.trans (hk.below F5.out B5.out.size))
  have F6 := Lib.hid (show ∀ k, MS ⟨w4.heap.size, aa, ab, pb, cb, kb⟩ S' k → w.heap.size ≤ k from fun k h => by
    rcases h with h | h | h
    · exact F5.out k (.inl h)
    · exact (hS k h).elim (fun h => F5.out k (.inr (.inl h))) (fun h => Nat.le_trans B5.out.size h)
    · exact F5.out k (.inr (.inr h)))
  clear hM hk hS
  go_wp2
  go_ret2
  exact ⟨⟨w4.heap.size, aa, ab, pb, cb, kb⟩, S', rfl, M6.out, F6.out, B6.out⟩
end Go.Proofs.Ytabchlgbdlgacaa
