/- Package arena's Live, by contracts. -/
import Derived.Test.YtejmdmaebkdjoaaGreatDoorMm
import Derived.Test.YtejmdmaebkdjoaaGreatDoorArAlloc
namespace Go.Proofs.YtejmdmaebkdjoaaGreatDoor
set_option linter.unusedVariables false
set_option linter.unusedSimpArgs false
set_option maxRecDepth 100000
set_option maxHeartbeats 4000000
open Go.RowKit
theorem cnt_le (P : Nat → Bool) : ∀ k, cnt k P ≤ k
 | 0 => Nat.le_refl _
 | k + 1 => by have := cnt_le P k; rw [cnt_succ]; split <;> omega
open Go.RowKit
def liveTo (ps : List Pt) (k : Nat) : List Rf := liveM k ps
theorem liveTo_succ (ps : List Pt) (k : Nat) : liveTo ps (k + 1) = liveTo ps k ++ (if (slotOf ps (k + 1)).2 then [(((k : Int) + 1), ((slotOf ps (k + 1)).1 : Int))] else []) := by
 unfold liveTo liveM
 rw [List.range_succ, List.filter_append, List.map_append]
 congr 1
 rw [List.filter_cons]
 cases (slotOf ps (k + 1)).2 <;> simp
theorem liveTo_len (ps : List Pt) (k : Nat) : (liveTo ps k).length ≤ k := by
 unfold liveTo; rw [liveM_len]; exact cnt_le _ _
theorem live_any (a : Addr) (S : Nat → Prop) (n l : Nat) (ps : List Pt) (w : World) (h : ArInv w a S n l ps) :
  Calls Tryz.prog 88 #[.pointer (some a)] w fun ev w' => ∃ v', ev = .returned v' ∧ OwnS lRef w.heap.size w' v' (liveM n ps) ∧ Below w.heap.size w w' := by
 obtain ⟨ab, sb, ss, rfl, I0⟩ := h
 have a0 : w.cell? ⟨ab, 0, none⟩ = some (.slice (some ⟨sb, 0, none⟩) n n) := blk_cell I0.blkA 0
 have hn := okN_of I0.ok
 have I := Lib.hid I0
 clear I0
 go_enter Tryz.func88, Tryz.ntmps88
 go_wp2
 go_loopg [3, 13] n (fun r y i wr => ∃ (k : Nat), k + r = n ∧ i = .int .i64 k ∧ OwnS lRef w.heap.size wr y (liveTo ps k) ∧ Below w.heap.size w wr)
 case atStart => exact ⟨0, by omega, rfl, OwnS.nil _ _ _, Below.refl _ _⟩
 case round =>
  obtain ⟨k, hk, rfl, hO, hB⟩ := hrel
  have A := Lib.hid (show Below w.heap.size w wr ∧ k + gk = n from ⟨hB, hk⟩)
  have O := Lib.hid hO
  have I1 := Lib.hid (I.out.low hB)
  clear hB a0 hO
  by_cases hlt : k < n
  ·obtain ⟨p, g1, g2, g3⟩ := I1.out.slot hlt
   have X := Lib.hid g3
   have x0 := g3.c0
   have x1 := g3.c1
   have x2 := g3.c2
   have j3 : (0 : Int) ≤ (k : Int) := by omega
   have j4 : (k : Int) < (n : Int) := by omega
   cases hst : (stOf ps (k + 1)).2 with
   | some d =>
    rw [hst] at g2
    obtain ⟨q, rfl, -⟩ := g2
    have T := Lib.hid (show liveTo ps (k + 1) = liveTo ps k ++ [((k : Int) + 1, ((stOf ps (k + 1)).1 : Int))] by rw [liveTo_succ, slot_st, hst]; rfl)
    obtain ⟨g, hgg⟩ : ∃ g, (stOf ps (k + 1)).1 = g := ⟨_, rfl⟩
    rw [hgg] at x1 T
    have ba := alloc_below0 wr (.cells #[.int .i64 ((k : Int) + 1), .int .i64 (g : Int), .pointer (some ⟨q, 0, none⟩)] 144)
    have bb := alloc_below0 (wr.alloc (.cells #[.int .i64 ((k : Int) + 1), .int .i64 (g : Int), .pointer (some ⟨q, 0, none⟩)] 144)) (.cells #[.int .i64 ((k : Int) + 1), .int .i64 (g : Int)] 48)
    have BA := Lib.hid (A.out.1.trans ((ba.trans (bb.mono ba.size)).mono A.out.1.size))
    have O2 := Lib.hid ((O.out.below ba).below bb)
    have SR := Lib.hid (OwnS.lit lRef w.heap.size (wr.alloc (.cells #[.int .i64 ((k : Int) + 1), .int .i64 (g : Int), .pointer (some ⟨q, 0, none⟩)] 144)) (wr.heap.size + 1) (by simp) [((k : Int) + 1, (g : Int))] (by have := A.out.1.size; omega) (by simp [maxLen])).sv
    have LN := Lib.hid (liveTo_len ps k)
    clear hst g1 g3 hgg X ba bb
    go_wp2_with (refine wpList_appS lRef 66 Tryz.underlying66 lRef_known (by decide) (by decide) rfl (.tmp 20) (.tmp 23) rfl w.heap.size rfl rfl O2.out SR (by have := LN.out; simp; omega) (by have := BA.out.size; exact this) ?_; intro v2 w2 ho2 hg2)
    go_roundg (n - (k + 1))
    case measure => have := A.out.2; omega
    case rel => exact ⟨k + 1, by omega, by go_num, by rw [T.out]; exact ho2, BA.out.trans ((Kept.of_grown hg2).below (fun j hj => (O2.out.bounds j hj.symm).1) BA.out.size)⟩
   | none =>
    rw [hst] at g2
    obtain rfl : p = none := g2
    have T := Lib.hid (show liveTo ps (k + 1) = liveTo ps k by rw [liveTo_succ, slot_st, hst]; simp)
    obtain ⟨g, hgg⟩ : ∃ g, (stOf ps (k + 1)).1 = g := ⟨_, rfl⟩
    rw [hgg] at x1
    have ba := alloc_below0 wr (.cells #[.int .i64 ((k : Int) + 1), .int .i64 (g : Int), .pointer none] 144)
    have BA := Lib.hid (A.out.1.trans (ba.mono A.out.1.size))
    have O2 := Lib.hid (O.out.below ba)
    clear hst g1 g3 hgg X ba
    go_wp2
    go_roundg (n - (k + 1))
    case measure => have := A.out.2; omega
    case rel => exact ⟨k + 1, by omega, by go_num, by rw [T.out]; exact O2.out, BA.out⟩
  ·obtain rfl : k = n := by omega
   go_wp2
   go_ret
   exact ⟨_, rfl, O.out, A.out.1⟩
end Go.Proofs.YtejmdmaebkdjoaaGreatDoor
