/- fault.At, fault.Place over a chain and over nil, by contracts. -/
import Derived.Test.YtkhhdaekdledoaaDoorFltCode
import Derived.Deep.QuietTactic
import Derived.BigQuiet
import Derived.WalkSmall
namespace Go.Proofs.YtkhhdaekdledoaaDoor
open Go.RowKit Go.Extern.Stop Go.Stop Go.Extern

theorem At_some (p : ByteArray) (s : Int) (u : Nat) (v : Value) (w : World) :
    Calls Tryd.prog 12 #[.string p, .int .i64 s, .iface u v] w fun e w' => e = .returned (.iface 50 (.pointer (some ⟨w.heap.size, 0, none⟩))) ∧ w' = w.alloc (.cells #[.string p, .int .i64 s, .iface u v] 53) := by
  go_enter Tryd.func12, Tryd.ntmps12
  go_wp2
  go_ret
  exact ⟨rfl, rfl⟩
theorem At_nil (p : ByteArray) (s : Int) (w : World) :
    Calls Tryd.prog 12 #[.string p, .int .i64 s, .nilIface] w fun e w' => e = .returned .nilIface ∧ w = w' := by
  go_enter Tryd.func12, Tryd.ntmps12
  go_wp2
  go_ret
  exact ⟨rfl, rfl⟩

theorem first_hit (b : Nat) (w : World) (hg : Glob w) :
    Calls Tryd.prog 23 #[.iface 50 (.pointer (some ⟨b, 0, none⟩))] w fun ev w' => ev = .returned (.pointer (some ⟨b, 0, none⟩)) ∧ Below w.heap.size w w' := by
  have hnot := run_not
  have A : Aside (Glob w) := hg
  clear hg
  go_enter Tryd.func23, Tryd.ntmps23
  go_wp2_with fail
  refine (find_hit b _ A.out).mono ?_
  rintro ev w1 ⟨rfl, hs⟩
  have B : Aside (Below _ _ _) := hs
  clear hs A
  go_wp2
  go_ret
  exact ⟨rfl, B.out⟩
theorem first_missC (c : Int) (w : World) (hg : Glob w) :
    Calls Tryd.prog 23 #[.iface 24 (.int .i64 c)] w fun ev w' => ev = .returned (.pointer none) ∧ Below w.heap.size w w' := by
  have hnot := run_not
  have A : Aside (Glob w) := hg
  clear hg
  go_enter Tryd.func23, Tryd.ntmps23
  go_wp2_with fail
  refine (find_missC c _ A.out).mono ?_
  rintro ev w1 ⟨rfl, hs⟩
  have B : Aside (Below _ _ _) := hs
  clear hs A
  go_wp2
  go_ret
  exact ⟨rfl, B.out⟩
theorem first_nil (w : World) :
    Calls Tryd.prog 23 #[.nilIface] w fun ev w' => ev = .returned (.pointer none) ∧ Below w.heap.size w w' := by
  have hnot := run_not
  go_enter Tryd.func23, Tryd.ntmps23
  go_wp2_with fail
  refine (find_nil _).mono ?_
  rintro ev w1 ⟨rfl, hs⟩
  have B : Aside (Below _ _ _) := hs
  clear hs
  go_wp2
  go_ret
  exact ⟨rfl, B.out⟩

/-- fault.Place where firstFault finds a fault. -/
theorem Place_of (e : Value) (b : Nat) (p : ByteArray) (s : Int) (w : World) (h0 : w.cell? ⟨b, 0, none⟩ = some (.string p)) (h1 : w.cell? ⟨b, 1, none⟩ = some (.int .i64 s))
    (h : Calls Tryd.prog 23 #[e] w fun ev w' => ev = .returned (.pointer (some ⟨b, 0, none⟩)) ∧ Below w.heap.size w w') :
    Calls Tryd.prog 10 #[e] w fun ev w' => ev = .returned (.tuple #[.string p, .int .i64 s, .bool true]) ∧ Below w.heap.size w w' := by
  have A : Aside (Calls _ _ _ _ _) := h
  have B : Aside (_ = some (Value.string p) ∧ _ = some (Value.int .i64 s)) := ⟨h0, h1⟩
  clear h h0 h1
  go_enter Tryd.func10, Tryd.ntmps10
  go_wp2_with fail
  refine A.out.mono ?_
  rintro ev w1 ⟨rfl, hs⟩
  have g0 : w1.cell? ⟨b, 0, none⟩ = some (.string p) := by rw [hs.cell (p := ⟨b, 0, none⟩) (lt_of_cell B.out.1)]; exact B.out.1
  have g1 : w1.cell? ⟨b, 1, none⟩ = some (.int .i64 s) := by rw [hs.cell (p := ⟨b, 1, none⟩) (lt_of_cell B.out.2)]; exact B.out.2
  have C : Aside (Below _ _ _) := hs
  clear hs A B
  go_wp2
  go_quiet (fail)
  go_wp2
  go_ret3
  exact ⟨rfl, below_drewN C.out _⟩
/-- fault.Place where firstFault finds none. -/
theorem Place_none (e : Value) (w : World)
    (h : Calls Tryd.prog 23 #[e] w fun ev w' => ev = .returned (.pointer none) ∧ Below w.heap.size w w') :
    Calls Tryd.prog 10 #[e] w fun ev w' => ev = .returned (.tuple #[.string ⟨#[]⟩, .int .i64 0, .bool false]) ∧ Below w.heap.size w w' := by
  have A : Aside (Calls _ _ _ _ _) := h
  clear h
  go_enter Tryd.func10, Tryd.ntmps10
  go_wp2_with fail
  refine A.out.mono ?_
  rintro ev w1 ⟨rfl, hs⟩
  have C : Aside (Below _ _ _) := hs
  clear hs A
  go_wp2
  go_ret3
  exact ⟨rfl, C.out⟩

/-- what Place answers of a chain -/
def plc : List (ByteArray × Int) → Value
  | [] => .tuple #[.string ⟨#[]⟩, .int .i64 0, .bool false]
  | p :: _ => .tuple #[.string p.1, .int .i64 p.2, .bool true]
theorem Place_chain (l : List (ByteArray × Int)) (c : Int) (e : Value) (w : World) (h : Chn w e l c) (hg : Glob w) :
    Calls Tryd.prog 10 #[e] w fun ev w' => ev = .returned (plc l) ∧ Below w.heap.size w w' := by
  cases l with
  | nil => obtain rfl : _ = _ := h; exact Place_none _ w (first_missC c w hg)
  | cons p l => obtain ⟨b, e', rfl, h0, h1, -, -⟩ := h; exact Place_of _ b p.1 p.2 w h0 h1 (first_hit b w hg)
theorem Place_nil (w : World) :
    Calls Tryd.prog 10 #[.nilIface] w fun ev w' => ev = .returned (.tuple #[.string ⟨#[]⟩, .int .i64 0, .bool false]) ∧ Below w.heap.size w w' :=
  Place_none _ w (first_nil w)
end Go.Proofs.YtkhhdaekdledoaaDoor
