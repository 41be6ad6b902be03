/- 'awake' is true. -/
import Derived.Test.YtkhhdaekdledoaaDoorFltSaid
namespace Go.Proofs.YtkhhdaekdledoaaDoor
open Go.RowKit Go.Extern.Stop Go.Stop Go.Extern
theorem size_alloc (w : World) (o : Obj) : (w.alloc o).heap.size = w.heap.size + 1 := by simp
/-- What At lays over a chain is a chain. -/
theorem Chn.push {w : World} {e : Value} {l : List (ByteArray × Int)} {c : Int} (h : Chn w e l c) (p : ByteArray) (s : Int) :
    Chn (w.alloc (.cells #[.string p, .int .i64 s, e] 53)) (.iface 50 (.pointer (some ⟨w.heap.size, 0, none⟩))) ((p, s) :: l) c := by
  refine ⟨w.heap.size, e, rfl, ?_, ?_, ?_, h.below ((Below.refl _ _).alloc (Nat.le_refl _) _)⟩
  · rw [World.cell?_alloc_at _ _ _ _ rfl]; rfl
  · rw [World.cell?_alloc_at _ _ _ _ rfl]; rfl
  · rw [World.cell?_alloc_at _ _ _ _ rfl]; rfl

set_option maxHeartbeats 4000000 in
theorem awake_any (w : World) (hg : Glob w) :
    Calls Tryd.prog 8 #[] w fun ev w' => ev = .returned (.bool true) ∧ Below w.heap.size w w' := by
  have A : Aside (Glob w) := hg
  clear hg
  go_enter Tryd.func8, Tryd.ntmps8
  go_wp2_with fail
  refine (At_some _ _ _ _ _).mono ?_
  rintro ev w1 ⟨rfl, rfl⟩
  go_wp2_with fail
  refine (At_some _ _ _ _ _).mono ?_
  rintro ev w2 ⟨rfl, rfl⟩
  have hC : Chn ((w.alloc (.cells #[.string ⟨#[97, 114, 101, 110, 97]⟩, .int .i64 7, .iface 24 (.int .i64 3)] 53)).alloc (.cells #[.string ⟨#[116, 114, 101, 101]⟩, .int .i64 3, .iface 50 (.pointer (some ⟨w.heap.size, 0, none⟩))] 53)) (.iface 50 (.pointer (some ⟨w.heap.size + 1, 0, none⟩))) two 3 := by
    have h := (Chn.push (w := w) (l := []) (c := 3) rfl ⟨#[97, 114, 101, 110, 97]⟩ 7).push ⟨#[116, 114, 101, 101]⟩ 3
    rw [size_alloc] at h
    exact h
  have hB : Below w.heap.size w ((w.alloc (.cells #[.string ⟨#[97, 114, 101, 110, 97]⟩, .int .i64 7, .iface 24 (.int .i64 3)] 53)).alloc (.cells #[.string ⟨#[116, 114, 101, 101]⟩, .int .i64 3, .iface 50 (.pointer (some ⟨w.heap.size, 0, none⟩))] 53)) := ((Below.refl _ _).alloc (Nat.le_refl _) _).alloc (by simp) _
  have B : Aside (Chn _ _ _ _) := hC
  have C : Aside (Below _ _ _) := hB
  clear hC hB
  go_wp2_with fail
  refine (said_two _ _ B.out).mono ?_
  rintro ev w3 ⟨rfl, rfl⟩
  go_wp2_with fail
  refine (Code_chain _ _ _ _ B.out (A.out.below C.out)).mono ?_
  rintro ev w3 ⟨rfl, hs⟩
  have D : Aside (Below _ _ _) := hs
  clear hs
  go_wp2_with fail
  refine (weight_any _ _).mono ?_
  rintro ev w4 ⟨rfl, rfl⟩
  have hw4 : wt 4 = 5 := by decide
  rw [hw4]
  clear hw4
  go_wp2
  go_ret
  exact ⟨rfl, C.out.trans (D.out.mono C.out.size)⟩
end Go.Proofs.YtkhhdaekdledoaaDoor
