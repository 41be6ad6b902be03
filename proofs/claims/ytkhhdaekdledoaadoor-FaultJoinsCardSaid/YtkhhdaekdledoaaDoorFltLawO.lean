/- The walk of the law FaultOthers. -/
import Derived.Test.YtkhhdaekdledoaaDoorFltMade
import Derived.Deep.RegionHeld3
import Derived.StillTactics
import Derived.Lib.Hide
namespace Go.Proofs.YtkhhdaekdledoaaDoor
open Go.RowKit Go.Extern.Stop Go.Stop Go.Extern

set_option maxHeartbeats 4000000 in
theorem Trail_nil (w : World) :
    Calls Tryd.prog 14 #[.nilIface] w fun ev w' => ev = .returned (.slice none 0 0) ∧ Below w.heap.size w w' := by
  go_enter Tryd.func14, Tryd.ntmps14
  go_wp2
  refine wp_loop_rounds 1 ?_
  rw [rounds_succ]
  go_wp2_with fail
  refine (find_nil _).mono ?_
  rintro ev w1 ⟨rfl, hs⟩
  have B : Aside (Below _ _ _) := hs
  clear hs
  go_wp2
  go_ret
  exact ⟨rfl, B.out⟩

theorem Is_chainB (l : List (ByteArray × Int)) (c d : Int) (x : Bool) (u : Nat) (v : Value) (w : World) (hx : (c == d) = x) (h : Chn w (.iface u v) l c) :
    Calls Tryd.prog 11 #[.iface u v, .int .i64 d] w fun ev w' => ev = .returned (.bool x) ∧ Below w.heap.size w w' := by
  rw [← hx]; exact Is_chain l c d _ w h

/-- a step: what is kept of the law's world behind each call -/
def Kept (B : Nat) (c : Int) (w0 w : World) : Prop := w.cell? ⟨B, 2, none⟩ = some (.int .i64 c) ∧ Below B w0 w ∧ B < w.heap.size ∧ Glob w
theorem Kept.step {B : Nat} {c : Int} {w0 w w' : World} (h : Kept B c w0 w) (hb : Below w.heap.size w w') : Kept B c w0 w' :=
  ⟨by rw [hb.cell (p := ⟨B, 2, none⟩) h.2.2.1]; exact h.1, h.2.1.trans (hb.mono (Nat.le_of_lt h.2.2.1)), Nat.lt_of_lt_of_le h.2.2.1 hb.size, h.2.2.2.below hb⟩
theorem Kept.glob {B : Nat} {c : Int} {w0 w : World} (h : Kept B c w0 w) : Glob w := h.2.2.2
theorem Kept.bel {B : Nat} {c : Int} {w0 w : World} (h : Kept B c w0 w) : Below B w0 w := h.2.1
theorem Kept.drew {B : Nat} {c : Int} {w0 w : World} (h : Kept B c w0 w) : Kept B c w0 w.drew := h.step (Below.refl _ _).drew

set_option maxRecDepth 100000 in
set_option maxHeartbeats 8000000 in
theorem lawOthers_rest (x : Bool) (vp vs : Value) (wc c : Int) (place : ByteArray) (slot : Int) (ps : List ByteArray) (ss : List Int) (w : World) (hg : Glob w) (hp : StrsV w vp ps) (hs : IntsV w vs ss) (hx : (wc == c) = x) (hx2 : (c == wc) = x) :
    Calls Tryd.prog 3 #[.agg #[vp, vs, .int .i64 wc], .int .i64 c, .string place, .int .i64 slot] w fun ev w' => ev = .returned (.bool true) ∧ Below w.heap.size w w' := by
  have hnot := run_not
  have A : Aside (Glob w ∧ StrsV w vp ps ∧ IntsV w vs ss) := ⟨hg, hp, hs⟩
  have HX := Lib.hid hx
  clear hg hp hs hx
  go_enter Tryd.func3, Tryd.ntmps3
  go_wp2_with fail
  refine (few_any _ _ _ ps _ (A.out.2.1.below ((Below.refl _ _).alloc (Nat.le_refl _) _))).mono ?_
  rintro ev w1 ⟨B, rfl, hb⟩
  have hb1 : Below (w.heap.size + 1) (w.alloc (.cells #[vp, vs, .int .i64 wc] 26)) w1 := by simpa using hb
  have hb0 : Below w.heap.size w w1 := ((Below.refl _ _).alloc (Nat.le_refl _) _).trans (hb1.mono (by omega))
  have hz : w.heap.size < w1.heap.size := by have := hb1.size; simp at this; omega
  have c0 : w1.cell? ⟨w.heap.size, 0, none⟩ = some vp := by rw [hb1.cell (p := ⟨w.heap.size, 0, none⟩) (by simp)]; rw [World.cell?_alloc_at _ _ _ _ rfl]; rfl
  have c1 : w1.cell? ⟨w.heap.size, 1, none⟩ = some vs := by rw [hb1.cell (p := ⟨w.heap.size, 1, none⟩) (by simp)]; rw [World.cell?_alloc_at _ _ _ _ rfl]; rfl
  have c2 : w1.cell? ⟨w.heap.size, 2, none⟩ = some (.int .i64 wc) := by rw [hb1.cell (p := ⟨w.heap.size, 2, none⟩) (by simp)]; rw [World.cell?_alloc_at _ _ _ _ rfl]; rfl
  have C : Aside (Below w.heap.size w w1) := hb0
  clear hb hb1 hb0
  cases B with
  | false =>
    go_wp2_with fail
    refine (awake_any _ (A.out.1.below C.out)).mono ?_
    rintro ev w3 ⟨rfl, hs⟩
    have D : Aside (Below w.heap.size w w3) := C.out.trans (hs.mono C.out.size)
    clear hs C A
    go_wp2
    go_ret
    exact ⟨rfl, D.out⟩
  | true =>
    go_wp2_with fail
    refine (made_any _ _ _ ps ss _ (A.out.2.1.below C.out) (A.out.2.2.below C.out)).mono ?_
    rintro ev w2 ⟨l, v, rfl, hC, -, hs⟩
    obtain ⟨u, v, rfl⟩ := hC.held
    have K : Aside (Kept w.heap.size wc w w2 ∧ Chn w2 (.iface u v) l wc) := ⟨⟨by rw [hs.cell (p := ⟨w.heap.size, 2, none⟩) hz]; exact c2, C.out.trans (hs.mono (Nat.le_of_lt hz)), Nat.lt_of_lt_of_le hz hs.size, (A.out.1.below C.out).below hs⟩, hC⟩
    clear hs hC c0 c1 c2 C A hz
    go_wp2_with fail
    refine (Place_nil _).mono ?_
    rintro ev w3 ⟨rfl, hs⟩
    have K3 : Aside (Kept w.heap.size wc w w3 ∧ Chn w3 (.iface u v) l wc) := ⟨K.out.1.step hs, K.out.2.below hs⟩
    clear hs K
    have g0 := K3.out.1.1
    have hz := K3.out.1.2.2.1
    go_wp2_with fail
    go_region_held3 (fun w' => w'.cell? ⟨w.heap.size, 2, none⟩ = some (.int .i64 wc)) (first | assumption | go_keep)
      (first
        | (go_at_call 11; (with_reducible refine (Is_chainB l wc c x u v _ ?_ ?_).mono ?_); exact HX.out; exact K3.out.2.below (Below.refl _ _).drew; rintro e w4 ⟨rfl, hs⟩; have K4 : Aside (Kept w.heap.size wc w w4) := K3.out.1.drew.step hs; have g4 := K4.out.1; clear hs)
        | (go_at_call 12; (with_reducible refine (At_nil _ _ _).mono ?_); rintro e w4' ⟨rfl, rfl⟩)
        | (go_at_call 13; (with_reducible refine (Code_nil _).mono ?_); rintro e w5 ⟨rfl, hs⟩; have K5 : Aside (Kept w.heap.size wc w w5) := K4.out.step hs; have g5 := K5.out.1; clear hs)
        | (go_at_call 11; (with_reducible refine (Is_nil c _).mono ?_); rintro e w6 ⟨rfl, hs⟩; have K6 : Aside (Kept w.heap.size wc w w6) := K5.out.step hs; have g6 := K6.out.1; clear hs)
        | (go_at_call 14; (with_reducible refine (Trail_nil _).mono ?_); rintro e w7 ⟨rfl, hs⟩; have K7 : Aside (Kept w.heap.size wc w w7) := K6.out.step hs; have g7 := K7.out.1; clear hs)
        | (go_at_call 8; (with_reducible refine (awake_any _ K7.out.glob).mono ?_); rintro e w8 ⟨rfl, hs⟩; have K8 : Aside (Kept w.heap.size wc w w8) := K7.out.step hs; have g8 := K8.out.1; clear hs))
    go_wp2
    go_ret
    exact ⟨rfl, K8.out.bel⟩

theorem lawOthers (vp vs : Value) (wc c : Int) (place : ByteArray) (slot : Int) (ps : List ByteArray) (ss : List Int) (w : World) (hg : Glob w) (hp : StrsV w vp ps) (hs : IntsV w vs ss) :
    Calls Tryd.prog 3 #[.agg #[vp, vs, .int .i64 wc], .int .i64 c, .string place, .int .i64 slot] w fun ev w' => ev = .returned (.bool true) ∧ Below w.heap.size w w' :=
  lawOthers_rest (wc == c) vp vs wc c place slot ps ss w hg hp hs rfl (by rw [Bool.eq_iff_iff, beq_iff_eq, beq_iff_eq]; exact eq_comm)
end Go.Proofs.YtkhhdaekdledoaaDoor
