/- Package inner's own functions (layer 8), by contracts: hold. -/
import Derived.Test.YtkkmfacngmginaaInEnd
namespace Go.Proofs.Ytkkmfacngmginaa
open Go.RowKit

def hdZ : Obj := .cells #[.int .i64 0, .int .i64 0, .string ⟨#[]⟩] 27
set_option maxRecDepth 100000 in
set_option maxHeartbeats 4000000 in
theorem hold_any (v : IvD) (en : Value) (i j : Nat) (w : World) (hv : SV lEnt w en v.ents) (hij : i = j + 1) (hi : i < v.ents.length) (hl : v.ents.length ≤ 2000) :
    Calls Try.prog 103 #[ivVal v en, .int .i64 (i : Int)] w fun ev w' => ev = .returned (hdVal (v.ents.getD i e0).2 (v.ents.getD j e0).2 (v.ents.getD i e0).1) ∧ Below w.heap.size w w' := by
  obtain ⟨a, c, rfl, hlc, hcm⟩ := hv.lenform
  obtain ⟨b, off, ha⟩ := hv.addr (by omega)
  subst ha
  obtain ⟨n, hn⟩ : ∃ n, v.ents.length = n := ⟨_, rfl⟩
  rw [hn] at hv hlc hl hi ⊢
  unfold maxLen at hcm
  obtain ⟨W0, hW0⟩ : ∃ W, W = (w.alloc (ivObj v (.slice (some ⟨b, off, none⟩) n c))).alloc hdZ := ⟨_, rfl⟩
  have B0 := Lib.hid (show Below w.heap.size w W0 by rw [hW0]; exact alloc2_below _ _ _)
  have K0 := Lib.hid (show HB w.heap.size (ivObj v (.slice (some ⟨b, off, none⟩) n c)) W0 by rw [hW0]; exact HB.fst _ _ _)
  have R0 := show HB (w.heap.size + 1) hdZ W0 by rw [hW0]; exact HB.snd _ _ _
  have R1 := Lib.hid R0.drew
  have E0 := Lib.hid (hv.below B0.out)
  have hx := mem_at (es := v.ents) (i := i) (by omega)
  have hy := mem_at (es := v.ents) (i := j) (by omega)
  have x0 := E0.out.cellAt (j := 0) hx rfl
  have x1 := E0.out.cellAt (j := 1) hx rfl
  have y1 := E0.out.cellAt (j := 1) hy rfl
  simp only [lEnt, Nat.add_zero] at x0 x1 y1
  generalize v.ents.getD j e0 = q at *
  generalize v.ents.getD i e0 = r at *
  obtain ⟨k, p⟩ := r
  obtain ⟨k2, l⟩ := q
  simp only at x0 x1 y1 ⊢
  have SD := Lib.hid (show (fun w' => w'.cell? ⟨w.heap.size, 4, none⟩ = some (.slice (some ⟨b, off, none⟩) n c) ∧ w'.cell? ⟨b, off + i * 2, none⟩ = some (.string k) ∧ w'.cell? ⟨b, off + i * 2 + 1, none⟩ = some (.int .i64 p) ∧ w'.cell? ⟨b, off + j * 2 + 1, none⟩ = some (.int .i64 l)) W0.drew from by have V := K0.out.vb; exact ⟨V.c4, x0, x1, y1⟩)
  unfold ivObj hdZ at hW0
  have i1 : (i : Int) - 1 = (j : Int) := by omega
  have i2 : IntKind.i64.wrap (j : Int) = (j : Int) := Go.IntWalk.i64_in _ (by omega)
  have i3 : (0 : Int) ≤ (i : Int) := by omega
  have i4 : (i : Int) < (n : Int) := by omega
  have i5 : (0 : Int) ≤ (j : Int) := by omega
  have i6 : (j : Int) < (n : Int) := by omega
  have i7 : i < n := by omega
  have i8 : j < n := by omega
  clear hv hn hx hy x0 x1 y1 hij
  unfold ivVal hdVal
  go_enter Try.func103, Try.ntmps103
  go_wp2_with fail
  rw [← hW0]
  clear hW0
  refine AnyBut.region (fun w' => w'.cell? ⟨w.heap.size, 4, none⟩ = some (.slice (some ⟨b, off, none⟩) n c) ∧ w'.cell? ⟨b, off + i * 2, none⟩ = some (.string k) ∧ w'.cell? ⟨b, off + i * 2 + 1, none⟩ = some (.int .i64 p) ∧ w'.cell? ⟨b, off + j * 2 + 1, none⟩ = some (.int .i64 l)) 20 (by kernel_rfl) ?_
  refine AnyBut.take (i := 0) (oi := ⟨some 5, _, _, _, _, none⟩) (v := ?va0) rfl (by kernel_rfl) (by kernel_rfl) (by kernel_rfl) (by kernel_rfl) (fun _ _ _ h => h) (Or.inl ⟨by rfl, ?hya0⟩) SD.out ?resta0
  case hya0 => (intro w hSw; go_simp; try (with_reducible rfl))
  simp only [Act.put, List.setIfInBounds_toArray, List.set_cons_zero, List.set_cons_succ]
  refine AnyBut.take (i := 1) (oi := ⟨some 6, _, _, _, _, none⟩) (v := ?va1) rfl (by kernel_rfl) (by kernel_rfl) (by kernel_rfl) (by kernel_rfl) (fun _ _ _ h => h) (Or.inl ⟨by rfl, ?hya1⟩) SD.out ?resta1
  case hya1 => (intro w hSw; go_simp; try (with_reducible rfl))
  simp only [Act.put, List.setIfInBounds_toArray, List.set_cons_zero, List.set_cons_succ]
  refine AnyBut.take (i := 2) (oi := ⟨some 7, _, _, _, _, none⟩) (v := ?va2) rfl (by kernel_rfl) (by kernel_rfl) (by kernel_rfl) (by kernel_rfl) (fun _ _ _ h => h) (Or.inl ⟨by rfl, ?hya2⟩) SD.out ?resta2
  case hya2 => (intro w hSw; go_simp; try (with_reducible rfl))
  simp only [Act.put, List.setIfInBounds_toArray, List.set_cons_zero, List.set_cons_succ]
  refine AnyBut.take (i := 3) (oi := ⟨some 8, _, _, _, _, none⟩) (v := ?va3) rfl (by kernel_rfl) (by kernel_rfl) (by kernel_rfl) (by kernel_rfl) (fun _ _ _ h => h) (Or.inl ⟨by rfl, ?hya3⟩) SD.out ?resta3
  case hya3 => (intro w hSw; go_simp; try (with_reducible rfl))
  simp only [Act.put, List.setIfInBounds_toArray, List.set_cons_zero, List.set_cons_succ]
  refine AnyBut.take (i := 4) (oi := ⟨some 9, _, _, _, _, none⟩) (v := ?va4) rfl (by kernel_rfl) (by kernel_rfl) (by kernel_rfl) (by kernel_rfl) (fun _ _ _ h => h) (Or.inl ⟨by rfl, ?hya4⟩) SD.out ?resta4
  case hya4 => (intro w hSw; go_simp; try (with_reducible rfl))
  simp only [Act.put, List.setIfInBounds_toArray, List.set_cons_zero, List.set_cons_succ]
  refine AnyBut.take (i := 5) (oi := ⟨some 10, _, _, _, _, none⟩) (v := ?va5) rfl (by kernel_rfl) (by kernel_rfl) (by kernel_rfl) (by kernel_rfl) (fun _ _ _ h => h) (Or.inl ⟨by rfl, ?hya5⟩) SD.out ?resta5
  case hya5 => (intro w hSw; go_simp; try (with_reducible rfl))
  simp only [Act.put, List.setIfInBounds_toArray, List.set_cons_zero, List.set_cons_succ]
  refine AnyBut.take (i := 6) (oi := ⟨some 11, _, _, _, _, none⟩) (v := ?va6) rfl (by kernel_rfl) (by kernel_rfl) (by kernel_rfl) (by kernel_rfl) (fun _ _ _ h => h) (Or.inl ⟨by rfl, ?hya6⟩) SD.out ?resta6
  case hya6 => (intro w hSw; go_simp; try (with_reducible rfl))
  simp only [Act.put, List.setIfInBounds_toArray, List.set_cons_zero, List.set_cons_succ]
  refine AnyBut.take (i := 7) (oi := ⟨some 12, _, _, _, _, none⟩) (v := ?va7) rfl (by kernel_rfl) (by kernel_rfl) (by kernel_rfl) (by kernel_rfl) (fun _ _ _ h => h) (Or.inl ⟨by rfl, ?hya7⟩) SD.out ?resta7
  case hya7 => (intro w hSw; go_simp; try (with_reducible rfl))
  simp only [Act.put, List.setIfInBounds_toArray, List.set_cons_zero, List.set_cons_succ]
  refine AnyBut.take (i := 8) (oi := ⟨some 13, _, _, _, _, none⟩) (v := ?va8) rfl (by kernel_rfl) (by kernel_rfl) (by kernel_rfl) (by kernel_rfl) (fun _ _ _ h => h) (Or.inl ⟨by rfl, ?hya8⟩) SD.out ?resta8
  case hya8 => (intro w hSw; go_simp; try (with_reducible rfl))
  simp only [Act.put, List.setIfInBounds_toArray, List.set_cons_zero, List.set_cons_succ]
  refine AnyBut.take (i := 9) (oi := ⟨some 14, _, _, _, _, none⟩) (v := ?va9) rfl (by kernel_rfl) (by kernel_rfl) (by kernel_rfl) (by kernel_rfl) (fun _ _ _ h => h) (Or.inl ⟨by rfl, ?hya9⟩) SD.out ?resta9
  case hya9 => (intro w hSw; go_simp; try (with_reducible rfl))
  simp only [Act.put, List.setIfInBounds_toArray, List.set_cons_zero, List.set_cons_succ]
  refine AnyBut.take (i := 10) (oi := ⟨some 15, _, _, _, _, none⟩) (v := ?va10) rfl (by kernel_rfl) (by kernel_rfl) (by kernel_rfl) (by kernel_rfl) (fun _ _ _ h => h) (Or.inl ⟨by rfl, ?hya10⟩) SD.out ?resta10
  case hya10 => (intro w hSw; go_simp; try (with_reducible rfl))
  simp only [Act.put, List.setIfInBounds_toArray, List.set_cons_zero, List.set_cons_succ]
  refine AnyBut.take (i := 11) (oi := ⟨some 16, _, _, _, _, none⟩) (v := ?va11) rfl (by kernel_rfl) (by kernel_rfl) (by kernel_rfl) (by kernel_rfl) (fun _ _ _ h => h) (Or.inl ⟨by rfl, ?hya11⟩) SD.out ?resta11
  case hya11 => (intro w hSw; go_simp; try (with_reducible rfl))
  simp only [Act.put, List.setIfInBounds_toArray, List.set_cons_zero, List.set_cons_succ]
  refine AnyBut.take (i := 12) (oi := ⟨some 17, _, _, _, _, none⟩) (v := ?va12) rfl (by kernel_rfl) (by kernel_rfl) (by kernel_rfl) (by kernel_rfl) (fun _ _ _ h => h) (Or.inl ⟨by rfl, ?hya12⟩) SD.out ?resta12
  case hya12 => (intro w hSw; go_simp; try (with_reducible rfl))
  simp only [Act.put, List.setIfInBounds_toArray, List.set_cons_zero, List.set_cons_succ]
  refine AnyBut.take (i := 13) (oi := ⟨some 18, _, _, _, _, none⟩) (v := ?va13) rfl (by kernel_rfl) (by kernel_rfl) (by kernel_rfl) (by kernel_rfl) (fun _ _ _ h => h) (Or.inl ⟨by rfl, ?hya13⟩) SD.out ?resta13
  case hya13 => (intro w hSw; go_simp; try (with_reducible rfl))
  simp only [Act.put, List.setIfInBounds_toArray, List.set_cons_zero, List.set_cons_succ]
  refine AnyBut.take (i := 14) (oi := ⟨some 19, _, _, _, _, none⟩) (v := ?va14) rfl (by kernel_rfl) (by kernel_rfl) (by kernel_rfl) (by kernel_rfl) (fun _ _ _ h => h) (Or.inl ⟨by rfl, ?hya14⟩) SD.out ?resta14
  case hya14 => (intro w hSw; go_simp; try (with_reducible rfl))
  simp only [Act.put, List.setIfInBounds_toArray, List.set_cons_zero, List.set_cons_succ]
  refine AnyBut.take (i := 15) (oi := ⟨some 20, _, _, _, _, none⟩) (v := ?va15) rfl (by kernel_rfl) (by kernel_rfl) (by kernel_rfl) (by kernel_rfl) (fun _ _ _ h => h) (Or.inl ⟨by rfl, ?hya15⟩) SD.out ?resta15
  case hya15 => (intro w hSw; go_simp; try (with_reducible rfl))
  simp only [Act.put, List.setIfInBounds_toArray, List.set_cons_zero, List.set_cons_succ]
  refine AnyBut.take (i := 16) (oi := ⟨some 21, _, _, _, _, none⟩) (v := ?va16) rfl (by kernel_rfl) (by kernel_rfl) (by kernel_rfl) (by kernel_rfl) (fun _ _ _ h => h) (Or.inl ⟨by rfl, ?hya16⟩) SD.out ?resta16
  case hya16 => (intro w hSw; go_simp; try (with_reducible rfl))
  simp only [Act.put, List.setIfInBounds_toArray, List.set_cons_zero, List.set_cons_succ]
  refine AnyBut.take (i := 17) (oi := ⟨some 22, _, _, _, _, none⟩) (v := ?va17) rfl (by kernel_rfl) (by kernel_rfl) (by kernel_rfl) (by kernel_rfl) (fun _ _ _ h => h) (Or.inl ⟨by rfl, ?hya17⟩) SD.out ?resta17
  case hya17 => (intro w hSw; go_simp; try (with_reducible rfl))
  simp only [Act.put, List.setIfInBounds_toArray, List.set_cons_zero, List.set_cons_succ]
  refine AnyBut.take (i := 18) (oi := ⟨some 23, _, _, _, _, none⟩) (v := ?va18) rfl (by kernel_rfl) (by kernel_rfl) (by kernel_rfl) (by kernel_rfl) (fun _ _ _ h => h) (Or.inl ⟨by rfl, ?hya18⟩) SD.out ?resta18
  case hya18 => (intro w hSw; go_simp; try (with_reducible rfl))
  simp only [Act.put, List.setIfInBounds_toArray, List.set_cons_zero, List.set_cons_succ]
  refine AnyBut.one (i := 19) (o := ⟨some 24, _, _, _, _, none⟩) (by kernel_rfl) rfl (fun K hK => ?_)
  go_simp
  refine hK.out _ _ (fun _ => SD.out) ?_
  clear hK K
  try simp only [Act.put, List.setIfInBounds_toArray, List.set_cons_zero, List.set_cons_succ]
  refine AnyBut.one (i := 20) (o := ⟨none, _, _, _, _, none⟩) (by kernel_rfl) rfl (fun K hK => ?_)
  rw [if_pos (by rfl)]
  refine wp_store_mid 27 (.tmp 4) (.tmp 24) rfl (w.heap.size + 1) 0 [.int .i64 p, .int .i64 l, .string k].toArray rfl rfl (R1.out.there 3 (Nat.le_refl _)) hdInfoS (by kernel_rfl) ?_
  refine hK.out _ _ (fun h => absurd rfl h) ?_
  clear hK K
  try simp only [Act.put]
  refine AnyBut.done (by kernel_rfl) ?_ _
  go_wp2
  have R3 := (R1.out.sets [.int .i64 p, .int .i64 l, .string k] rfl)
  have B3 := below_setCells (b := w.heap.size + 1) (Nat.le_succ w.heap.size) [.int .i64 p, .int .i64 l, .string k] 0 _ (B0.out.trans ((Below.refl W0.heap.size W0).drew.mono B0.out.size))
  refine bodyPost_ret (v := .agg [.int .i64 p, .int .i64 l, .string k].toArray) (results_cell1 rfl _ _ (w.heap.size + 1) _ _ rfl (World.rangeAt_setCells_same W0.drew (w.heap.size + 1) 0 [.int .i64 p, .int .i64 l, .string k] (R1.out.there 3 (Nat.le_refl _))) Try.underlying27 rfl (by kernel_rfl)) rfl ⟨rfl, B3⟩
end Go.Proofs.Ytkkmfacngmginaa
