/- Package mem: Count; what layer 9's laws ask ahead of all: awake is true. -/
import Derived.Test.YtkkmfacngmginaaMmChain
namespace Go.Proofs.Ytkkmfacngmginaa
open Go.RowKit

set_option maxRecDepth 100000 in
set_option maxHeartbeats 4000000 in
theorem count_any (w : World) (m : MB) (S : Nat → Prop) (l : LimN) (k : Int) (ps : List Pt) (L : List Pg) (c : Ck) (h : MemAt w m S l k ps L c) :
    Calls Try.prog 30 #[.pointer (some ⟨m.mb, 0, none⟩)] w fun ev w' => ev = .returned (.int .i64 k) ∧ Below w.heap.size w w' := by
  have x0 := h.cN
  go_enter Try.func30, Try.ntmps30
  go_wp2
  go_ret
  exact ⟨rfl, Below.refl _ _⟩
def limA : LimN := ⟨9, 3, 2, 4, 4, 99⟩
theorem limA_ok : limA.ok := by constructor <;> decide
theorem codeB {n : Nat} (h : 1 ≤ n) : codeM n psB 1 1 = 0 := by
  unfold codeM
  rw [if_neg (by omega), if_neg (by decide)]
theorem loadB {n : Nat} (h : 1 ≤ n) : loadM n psB 1 1 = baseD := by
  unfold loadM
  rw [if_pos (codeB h)]
  rfl
theorem chainB {n p : Nat} (h : 1 ≤ n) : chM n psB (pgs1 p) 0 = ([(baseD.sc, (1, 1))], 0) := by
  unfold chM pgs1
  rw [code0, if_neg (by decide), show headT (some (1, 1) :: pages0 (p - 1)) 0 = (1, 1) from headT_at (i := 0) rfl]
  obtain ⟨k, rfl⟩ : ∃ k, n = k + 1 := ⟨n - 1, by omega⟩
  rw [chGo, if_neg (by decide), if_neg (by rw [codeB (by omega)]; decide), loadB (by omega)]
  rw [show baseD.sc.ns = 0 from rfl, show baseD.sc.ng = 0 from rfl, chGo_end]
  rfl
theorem chainA : chM limA.s psB (pgs1 limA.p) 0 = ([(baseD.sc, (1, 1))], 0) := chainB (by decide)
theorem one_of {α β : Type} {f : α → β} {ds : List α} {y : β} (h : ds.map f = [y]) : ∃ d, ds = [d] ∧ f d = y := by
  cases ds with
  | nil => cases h
  | cons d t =>
    simp only [List.map_cons, List.cons.injEq, List.map_eq_nil_iff] at h
    exact ⟨d, by rw [h.2], h.1⟩
set_option maxRecDepth 100000 in
set_option maxHeartbeats 4000000 in
theorem awakeMm (w : World) : Calls Try.prog 15 #[] w fun ev w' => ev = .returned (.bool true) ∧ Below w.heap.size w w' := by
  have fn := fun w => mem_new limA limA_ok w
  unfold limV limA LimN.z at fn
  go_enter Try.func15, Try.ntmps15
  go_wp2_with fail
  refine (fn _).mono ?_
  rintro ev w1 ⟨m, S, rfl, hM, hF, hs⟩
  have M1 := Lib.hid (show MemAt w1 m S limA 0 psB (pgs1 limA.p) (Ck.new limA.t limA.c) from hM)
  have B1 := Lib.hid hs
  clear hM hF hs fn
  go_wp2_with fail
  refine (chain_any _ m S limA 0 _ _ _ 0 M1.out).mono ?_
  rw [chainA]
  rintro ev w2 ⟨v1, v2, v3, ds, rfl, hm, o1, o2, he, hs⟩
  obtain ⟨d, rfl, hd⟩ := one_of hm
  obtain rfl : v3 = .nilIface := by
    rcases he with ⟨-, h⟩ | ⟨h, -⟩
    · exact h
    · exact absurd rfl h
  obtain ⟨a1, c1, rfl, -, -⟩ := o1.sv.lenform
  obtain ⟨a2, c2, rfl, -, -⟩ := o2.sv.lenform
  obtain ⟨b1, f1, rfl⟩ := o1.sv.addr (by simp)
  obtain ⟨b2, f2, rfl⟩ := o2.sv.addr (by simp)
  have y0 := o1.sv.cellAt (i := 0) (j := 0) (x := d) rfl rfl
  have y3 := o1.sv.cellAt (i := 0) (j := 3) (x := d) rfl rfl
  have z0 := o2.sv.cellAt (i := 0) (j := 0) (x := ((1, 1) : Rf)) rfl rfl
  have z1 := o2.sv.cellAt (i := 0) (j := 1) (x := ((1, 1) : Rf)) rfl rfl
  rw [hd] at y0 y3
  simp only [lRec, lRef, baseD, Nat.zero_mul, Nat.add_zero] at y0 y3 z0 z1
  have M2 := Lib.hid (M1.out.low hs)
  have B2 := Lib.hid (B1.out.trans (hs.mono B1.out.size))
  clear hs hm o1 o2 he hd
  go_wp2_with fail
  refine (count_any _ m S limA 0 _ _ _ M2.out).mono ?_
  rintro ev w3 ⟨rfl, hs⟩
  have B3 := Lib.hid (B2.out.trans (hs.mono B2.out.size))
  clear hs y0 y3 z0 z1
  go_wp2
  go_ret
  exact ⟨rfl, B3.out⟩
end Go.Proofs.Ytkkmfacngmginaa
