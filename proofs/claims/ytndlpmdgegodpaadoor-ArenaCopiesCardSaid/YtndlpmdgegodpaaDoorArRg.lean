/- The document's own arena: Left, Live, SameRefs, by contracts. -/
import Derived.Test.YtndlpmdgegodpaaDoorArRf
namespace Go.Proofs.YtndlpmdgegodpaaDoor
open Go.RowKit

/-- the parameter's block, and the puts that it reads, behind some calls -/
structure RfB (b : Nat) (n l : Nat) (va : Option Addr) (vc : Nat) (us : List PuD) (w : World) : Prop where
  a0 : w.cell? ⟨b, 0, none⟩ = some (.int .i64 n)
  a1 : w.cell? ⟨b, 1, none⟩ = some (.int .i64 l)
  a2 : w.cell? ⟨b, 2, none⟩ = some (.slice va us.length vc)
  sv : SV lPut w (.slice va us.length vc) us
theorem RfB.step {b n l : Nat} {va : Option Addr} {vc : Nat} {us : List PuD} {w w' : World} (h : RfB b n l va vc us w) (hs : Below w.heap.size w w') : RfB b n l va vc us w' :=
  ⟨cell_step h.a0 hs, cell_step h.a1 hs, cell_step h.a2 hs, h.sv.below hs⟩
theorem RfB.new (n l : Nat) {va : Option Addr} {vc : Nat} {us : List PuD} {w : World} (h : SV lPut w (.slice va us.length vc) us) : RfB w.heap.size n l va vc us (w.alloc (.cells #[.int .i64 n, .int .i64 l, .slice va us.length vc] 29)) :=
  ⟨by rw [World.cell?_alloc_at _ _ _ _ rfl]; rfl, by rw [World.cell?_alloc_at _ _ _ _ rfl]; rfl, by rw [World.cell?_alloc_at _ _ _ _ rfl]; rfl, h.below (alloc_below0 _ _)⟩
set_option maxRecDepth 100000 in
set_option maxHeartbeats 4000000 in
theorem rf_left (n l : Nat) (v : Value) (us : List PuD) (w : World) (hv : SV lPut w v us) (hn : n ≤ 4096) :
    Calls Tryd.prog 14 #[refA n l v] w fun ev w' => ev = .returned (.int .i64 (leftM n l (us.map PuD.pt) : Int)) ∧ Below w.heap.size w w' := by
  obtain ⟨va, vc, rfl, hlc, hcm⟩ := hv.lenform
  have K := Lib.hid (RfB.new n l hv)
  have B := Lib.hid (alloc_below0 w (.cells #[.int .i64 n, .int .i64 l, .slice va us.length vc] 29))
  obtain ⟨w2, hw2⟩ : ∃ w2, w2 = w.alloc (.cells #[.int .i64 n, .int .i64 l, .slice va us.length vc] 29) := ⟨_, rfl⟩
  rw [← hw2] at K B
  have S := Lib.hid hw2
  obtain ⟨ps, hps⟩ : ∃ ps, us.map PuD.pt = ps := ⟨_, rfl⟩
  have P := Lib.hid hps
  rw [hps]
  clear hv hw2 hps hcm hlc
  unfold refA
  go_enter Tryd.func14, Tryd.ntmps14
  go_wp2
  rw [← S.out]
  go_loopg [3, 4] n (fun r y i wr => ∃ k : Nat, k + r = n ∧ i = .int .i64 ((k + 1 : Nat) : Int) ∧ y = .int .i64 (leftTo l ps k : Int) ∧ RfB w.heap.size n l va vc us wr ∧ Below w.heap.size w wr)
  case atStart => exact ⟨0, by omega, rfl, rfl, K.out, B.out⟩
  case round =>
    obtain ⟨k, hk, rfl, rfl, hK, hB⟩ := hrel
    have A := Lib.hid (show Below w.heap.size w wr ∧ k + gk = n from ⟨hB, hk⟩)
    have K := Lib.hid hK
    have a0 := hK.a0
    have a1 := hK.a1
    have a2 := hK.a2
    clear hB hK hk
    by_cases hlt : k < n
    · have j1 : ((k + 1 : Nat) : Int) ≤ (n : Int) := by omega
      go_wp2_with fail
      refine (rf_slot n l _ us (k + 1) _ K.out.sv).mono ?_
      rintro ev w3 ⟨rfl, hs⟩
      have K3 := Lib.hid (K.out.step hs)
      have B3 := Lib.hid (A.out.1.trans (hs.mono A.out.1.size))
      have a0 := K3.out.a0
      have a1 := K3.out.a1
      have LE := Lib.hid (show leftTo l ps k ≤ k from cnt_le _ _)
      rw [P.out]
      clear hs a2
      cases hst : (slotOf ps (k + 1)).2 with
      | true =>
        have T := Lib.hid (show leftTo l ps (k + 1) = leftTo l ps k by unfold leftTo; rw [cnt_succ, hst]; simp)
        obtain ⟨g, hgg⟩ : ∃ g, (slotOf ps (k + 1)).1 = g := ⟨_, rfl⟩
        rw [hgg]
        clear hst hgg
        go_wp2
        go_roundg (n - (k + 1))
        case measure => have := A.out.2; omega
        case rel => exact ⟨k + 1, by omega, by go_num, by rw [T.out], K3.out, B3.out⟩
      | false =>
        have T := Lib.hid (show leftTo l ps (k + 1) = leftTo l ps k + (if (slotOf ps (k + 1)).1 < l then 1 else 0) by unfold leftTo; rw [cnt_succ, hst]; simp)
        obtain ⟨g, hgg⟩ : ∃ g, (slotOf ps (k + 1)).1 = g := ⟨_, rfl⟩
        rw [hgg] at T ⊢
        obtain ⟨c, hc⟩ : ∃ c, leftTo l ps k = c := ⟨_, rfl⟩
        rw [hc] at T LE ⊢
        have i1 : IntKind.i64.wrap ((c : Int) + 1) = (c : Int) + 1 := Go.IntWalk.i64_in _ (by have := LE.out; omega)
        clear hst hgg hc
        by_cases hg : g < l
        · have e1 : (g : Int) < (l : Int) := by omega
          go_wp2
          go_roundg (n - (k + 1))
          case measure => have := A.out.2; omega
          case rel => exact ⟨k + 1, by omega, by go_num, by rw [T.out, if_pos hg]; rfl, K3.out, B3.out⟩
        · have e1 : ¬ (g : Int) < (l : Int) := by omega
          go_wp2
          go_roundg (n - (k + 1))
          case measure => have := A.out.2; omega
          case rel => exact ⟨k + 1, by omega, by go_num, by rw [T.out, if_neg hg]; rfl, K3.out, B3.out⟩
    · obtain rfl : k = n := by have := A.out.2; omega
      have j1 : ¬ ((k + 1 : Nat) : Int) ≤ (k : Int) := by omega
      go_wp2
      go_ret
      exact ⟨rfl, A.out.1⟩
set_option maxRecDepth 100000 in
set_option maxHeartbeats 4000000 in
theorem rf_live (n l : Nat) (v : Value) (us : List PuD) (w : World) (hv : SV lPut w v us) (hn : n ≤ 4096) :
    Calls Tryd.prog 12 #[refA n l v] w fun ev w' => ∃ v', ev = .returned v' ∧ OwnS lRef w.heap.size w' v' (liveM n (us.map PuD.pt)) ∧ Below w.heap.size w w' := by
  obtain ⟨va, vc, rfl, hlc, hcm⟩ := hv.lenform
  have K := Lib.hid (RfB.new n l hv)
  have B := Lib.hid (alloc_below0 w (.cells #[.int .i64 n, .int .i64 l, .slice va us.length vc] 29))
  obtain ⟨w2, hw2⟩ : ∃ w2, w2 = w.alloc (.cells #[.int .i64 n, .int .i64 l, .slice va us.length vc] 29) := ⟨_, rfl⟩
  have Z := Lib.hid (show w.heap.size < w2.heap.size by rw [hw2]; simp)
  rw [← hw2] at K B
  have S := Lib.hid hw2
  obtain ⟨ps, hps⟩ : ∃ ps, us.map PuD.pt = ps := ⟨_, rfl⟩
  have P := Lib.hid hps
  rw [hps]
  clear hv hw2 hps hcm hlc
  unfold refA
  go_enter Tryd.func12, Tryd.ntmps12
  go_wp2
  rw [← S.out]
  go_loopg [3, 4] n (fun r y i wr => ∃ k : Nat, k + r = n ∧ i = .int .i64 ((k + 1 : Nat) : Int) ∧ OwnS lRef w2.heap.size wr y (liveTo ps k) ∧ Below w2.heap.size w2 wr)
  case atStart => exact ⟨0, by omega, rfl, OwnS.nil _ _ _, Below.refl _ _⟩
  case round =>
    obtain ⟨k, hk, rfl, hO, hB⟩ := hrel
    have A := Lib.hid (show Below w2.heap.size w2 wr ∧ k + gk = n from ⟨hB, hk⟩)
    have O := Lib.hid hO
    have hK := K.out.step hB
    have K := Lib.hid hK
    have a0 := hK.a0
    have a1 := hK.a1
    have a2 := hK.a2
    clear hB hK hk hO
    by_cases hlt : k < n
    · have j1 : ((k + 1 : Nat) : Int) ≤ (n : Int) := by omega
      go_wp2_with fail
      refine (rf_slot n l _ us (k + 1) _ K.out.sv).mono ?_
      rintro ev w3 ⟨rfl, hs⟩
      have B3 := Lib.hid (A.out.1.trans (hs.mono A.out.1.size))
      have O3 := Lib.hid (O.out.below hs)
      rw [P.out]
      clear hs a2 a0 a1
      cases hst : (slotOf ps (k + 1)).2 with
      | true =>
        have T := Lib.hid (show liveTo ps (k + 1) = liveTo ps k ++ [(((k + 1 : Nat) : Int), ((slotOf ps (k + 1)).1 : Int))] by rw [liveTo_succ, hst]; rfl)
        obtain ⟨g, hgg⟩ : ∃ g, (slotOf ps (k + 1)).1 = g := ⟨_, rfl⟩
        rw [hgg] at T ⊢
        have bb := alloc_below0 w3 (.cells #[.int .i64 ((k + 1 : Nat) : Int), .int .i64 (g : Int)] 38)
        have BA := Lib.hid (B3.out.trans (bb.mono B3.out.size))
        have O2 := Lib.hid (O3.out.below bb)
        have SR := Lib.hid (OwnS.lit lRef w2.heap.size w3 w3.heap.size rfl [(((k + 1 : Nat) : Int), (g : Int))] B3.out.size (by simp [maxLen])).sv
        have LN := Lib.hid (liveTo_len ps k)
        clear hst hgg bb
        go_wp2_with (refine wpList_appS lRef 32 Tryd.underlying32 lRef_known (by decide) (by decide) rfl (.tmp 20) (.tmp 24) rfl w2.heap.size rfl rfl O2.out SR (by have := LN.out; simp; omega) (by have := BA.out.size; exact this) ?_; intro v2 w4 ho2 hg2)
        go_roundg (n - (k + 1))
        case measure => have := A.out.2; omega
        case rel => exact ⟨k + 1, by omega, by go_num, by rw [T.out]; exact ho2, BA.out.trans ((Kept.of_grown hg2).below (fun j hj => (O2.out.bounds j hj.symm).1) BA.out.size)⟩
      | false =>
        have T := Lib.hid (show liveTo ps (k + 1) = liveTo ps k by rw [liveTo_succ, hst]; simp)
        obtain ⟨g, hgg⟩ : ∃ g, (slotOf ps (k + 1)).1 = g := ⟨_, rfl⟩
        rw [hgg]
        clear hst hgg
        go_wp2
        go_roundg (n - (k + 1))
        case measure => have := A.out.2; omega
        case rel => exact ⟨k + 1, by omega, by go_num, by rw [T.out]; exact O3.out, B3.out⟩
    · obtain rfl : k = n := by have := A.out.2; omega
      have j1 : ¬ ((k + 1 : Nat) : Int) ≤ (k : Int) := by omega
      go_wp2
      go_ret
      exact ⟨_, rfl, O.out.mono (Nat.le_of_lt Z.out), B.out.trans (A.out.1.mono (Nat.le_of_lt Z.out))⟩
set_option maxRecDepth 100000 in
set_option maxHeartbeats 4000000 in
theorem rf_same (v u : Value) (xs : List Rf) (w : World) (hv : SV lRef w v xs) (hu : SV lRef w u xs) :
    Calls Tryd.prog 10 #[v, u] w fun ev w' => ev = .returned (.bool true) ∧ Below w.heap.size w w' := by
  obtain ⟨va, vc, rfl, hlc, hcm⟩ := hv.lenform
  obtain ⟨ua, uc, rfl, hlc2, hcm2⟩ := hu.lenform
  obtain ⟨N, hN⟩ : ∃ N, xs.length = N := ⟨_, rfl⟩
  have LN := Lib.hid hN
  have V := Lib.hid hv
  have U := Lib.hid hu
  unfold maxLen at hcm
  rw [hN] at V U hlc ⊢
  clear hv hu hN hlc2 hcm2
  go_enter Tryd.func10, Tryd.ntmps10
  go_wp2
  go_loopg [5] N (fun r i wr => ∃ k : Nat, k + r = N ∧ i = .int .i64 k ∧ Below w.heap.size w wr)
  case atStart => exact ⟨0, by omega, rfl, Below.refl _ _⟩
  case round =>
    obtain ⟨k, hk, rfl, hB⟩ := hrel
    have A := Lib.hid (show Below w.heap.size w wr ∧ k + gk = N from ⟨hB, hk⟩)
    have V := Lib.hid (V.out.below hB)
    have U := Lib.hid (U.out.below hB)
    clear hB hk
    by_cases hlt : k < N
    · obtain ⟨⟨p, q⟩, hx⟩ : ∃ d, xs[k]? = some d := ⟨_, List.getElem?_eq_getElem (by rw [LN.out]; exact hlt)⟩
      obtain ⟨b, off, ha⟩ := V.out.addr (by rw [LN.out]; omega)
      subst ha
      obtain ⟨b2, off2, ha⟩ := U.out.addr (by rw [LN.out]; omega)
      subst ha
      have x0 := V.out.cellAt (j := 0) hx rfl
      have x1 := V.out.cellAt (j := 1) hx rfl
      have y0 := U.out.cellAt (j := 0) hx rfl
      have y1 := U.out.cellAt (j := 1) hx rfl
      simp only [lRef, Nat.add_zero] at x0 x1 y0 y1
      have j3 : (0 : Int) ≤ (k : Int) := by omega
      have j4 : (k : Int) < (N : Int) := by omega
      have e1 : (p == p) = true := by simp
      have e2 : (q == q) = true := by simp
      clear hx
      go_wp2
      go_quiet (fail)
      go_wp2
      go_roundg (N - (k + 1))
      case measure => have := A.out.2; omega
      case rel => exact ⟨k + 1, by omega, by go_num, below_drewN A.out.1 _⟩
    · obtain rfl : k = N := by have := A.out.2; omega
      go_wp2
      go_ret
      exact ⟨rfl, A.out.1⟩
end Go.Proofs.YtndlpmdgegodpaaDoor
