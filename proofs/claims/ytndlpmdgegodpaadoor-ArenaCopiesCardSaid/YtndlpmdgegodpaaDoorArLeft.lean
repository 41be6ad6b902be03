/- Package arena's Left, by contracts. -/
import Derived.Test.YtndlpmdgegodpaaDoorArAlloc
namespace Go.Proofs.YtndlpmdgegodpaaDoor
open Go.RowKit

/-- how many of the slots 1 to k are free and not worn -/
def leftTo (l : Nat) (ps : List Pt) (k : Nat) : Nat := cnt k (fun m => !(slotOf ps m).2 && decide ((slotOf ps m).1 < l))
theorem cnt_le (P : Nat → Bool) : ∀ k, cnt k P ≤ k
  | 0 => Nat.le_refl _
  | k + 1 => by have := cnt_le P k; rw [cnt_succ]; split <;> omega
set_option maxRecDepth 100000 in
set_option maxHeartbeats 4000000 in
theorem left_any (a : Addr) (S : Nat → Prop) (n l : Nat) (ps : List Pt) (w : World) (h : ArInv w a S n l ps) :
    Calls Tryd.prog 13 #[.pointer (some a)] w fun ev w' => ev = .returned (.int .i64 (leftM n l ps : Int)) ∧ Below w.heap.size w w' := by
  obtain ⟨ab, sb, ss, rfl, I0⟩ := h
  have a0 : w.cell? ⟨ab, 0, none⟩ = some (.slice (some ⟨sb, 0, none⟩) n n) := blk_cell I0.blkA 0
  have hn := okN_of I0.ok
  have I := Lib.hid I0
  clear I0
  go_enter Tryd.func13, Tryd.ntmps13
  go_wp2
  go_loopg [3, 13] n (fun r y i wr => ∃ (k : Nat), k + r = n ∧ i = .int .i64 k ∧ y = .int .i64 (leftTo l ps k : Int) ∧ Below w.heap.size w wr)
  case atStart => exact ⟨0, by omega, rfl, rfl, Below.refl _ _⟩
  case round =>
    obtain ⟨k, hk, rfl, rfl, hB⟩ := hrel
    have A := Lib.hid (show Below w.heap.size w wr ∧ k + gk = n from ⟨hB, hk⟩)
    have I1 := Lib.hid (I.out.low hB)
    clear hB a0
    by_cases hlt : k < n
    · obtain ⟨p, g1, g2, g3⟩ := I1.out.slot hlt
      have X := Lib.hid g3
      have x0 := g3.c0
      have x1 := g3.c1
      have x2 := g3.c2
      have j3 : (0 : Int) ≤ (k : Int) := by omega
      have j4 : (k : Int) < (n : Int) := by omega
      have ba := alloc_below0 wr (.cells #[.int .i64 ((k : Int) + 1), .int .i64 ((stOf ps (k + 1)).1 : Int), .pointer p] 65)
      have BA := Lib.hid (A.out.1.trans (ba.mono A.out.1.size))
      have CA := Lib.hid (X.out.step ba).a1
      clear ba
      cases hst : (stOf ps (k + 1)).2 with
      | some d =>
        rw [hst] at g2
        obtain ⟨q, rfl, -⟩ := g2
        have T := Lib.hid (show leftTo l ps (k + 1) = leftTo l ps k by unfold leftTo; rw [cnt_succ, slot_st, hst]; simp)
        obtain ⟨g, hgg⟩ : ∃ g, (stOf ps (k + 1)).1 = g := ⟨_, rfl⟩
        rw [hgg] at x1 BA
        clear hst g1 g3 hgg X CA
        go_wp2
        go_roundg (n - (k + 1))
        case measure => have := A.out.2; omega
        case rel => exact ⟨k + 1, by omega, by go_num, by rw [T.out], BA.out⟩
      | none =>
        rw [hst] at g2
        obtain rfl : p = none := g2
        have T := Lib.hid (show leftTo l ps (k + 1) = leftTo l ps k + (if (stOf ps (k + 1)).1 < l then 1 else 0) by unfold leftTo; rw [cnt_succ, slot_st (k + 1), hst]; simp)
        have LE := Lib.hid (show leftTo l ps k ≤ k from cnt_le _ _)
        obtain ⟨g, hgg⟩ : ∃ g, (stOf ps (k + 1)).1 = g := ⟨_, rfl⟩
        rw [hgg] at x1 BA T CA
        obtain ⟨c, hc⟩ : ∃ c, leftTo l ps k = c := ⟨_, rfl⟩
        rw [hc] at T LE ⊢
        have i1 : IntKind.i64.wrap ((c : Int) + 1) = (c : Int) + 1 := Go.IntWalk.i64_in _ (by have := LE.out; omega)
        clear hst g1 g3 hgg X hc
        by_cases hg : g < l
        · have e1 : decide ((l : Int) ≤ (g : Int)) = false := decide_eq_false (by omega)
          go_wp2_with fail
          refine (worn_any _ ab l _ g none CA.out).mono ?_
          rintro ev w2 ⟨rfl, hs⟩
          rw [e1]
          have B2 := Lib.hid (BA.out.trans (hs.mono BA.out.size))
          clear hs e1 x0 x1 x2
          go_wp2
          go_roundg (n - (k + 1))
          case measure => have := A.out.2; omega
          case rel => exact ⟨k + 1, by omega, by go_num, by rw [T.out, if_pos hg]; rfl, B2.out⟩
        · have e1 : decide ((l : Int) ≤ (g : Int)) = true := decide_eq_true (by omega)
          go_wp2_with fail
          refine (worn_any _ ab l _ g none CA.out).mono ?_
          rintro ev w2 ⟨rfl, hs⟩
          rw [e1]
          have B2 := Lib.hid (BA.out.trans (hs.mono BA.out.size))
          clear hs e1 x0 x1 x2
          go_wp2
          go_roundg (n - (k + 1))
          case measure => have := A.out.2; omega
          case rel => exact ⟨k + 1, by omega, by go_num, by rw [T.out, if_neg hg]; rfl, B2.out⟩
    · obtain rfl : k = n := by omega
      go_wp2
      go_ret
      exact ⟨rfl, A.out.1⟩
end Go.Proofs.YtndlpmdgegodpaaDoor
