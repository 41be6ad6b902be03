/- The document's own Base, the laws' own given (layer 8), fault.Code of a code: by contracts. -/
import Derived.Test.YtkkmfacngmginaaDoorInAsk
import Derived.Test.YtkkmfacngmginaaDoorInLastB
import Derived.Test.YtkkmfacngmginaaDoorErrAs
namespace Go.Proofs.YtkkmfacngmginaaDoor
open Go.RowKit

section
variable {P : Program} {ops : Array Oper} {Q : Exit → Act → World → Prop} {md : Region.Mode} {S : World → Prop}
/-- one of two operations comes up; S holds behind either -/
theorem anyH_two {i j : Nat} {o u : Oper} {f : Nat} {listed : Array Bool} {a : Act} {w : World} (hr : Region.ready md ops listed = [i, j]) (ho : ops[i]? = some o) (hu : ops[j]? = some u)
    (h : ∀ K' : Act → World → Prop, Shut (∀ a w, S w → wpAnyH P md ops Q S f (listed.setIfInBounds i true) a w → K' a w) → if Region.wanted o (yielded ops a.tmps) = true then Oper.wp P o a w K' Q else K' (a.put o.dst undef) w)
    (h2 : ∀ K' : Act → World → Prop, Shut (∀ a w, S w → wpAnyH P md ops Q S f (listed.setIfInBounds j true) a w → K' a w) → if Region.wanted u (yielded ops a.tmps) = true then Oper.wp P u a w K' Q else K' (a.put u.dst undef) w) :
    wpAnyH P md ops Q S (f + 1) listed a w := by
  refine ⟨fun h0 => (by rw [hr] at h0; cases h0), fun q hq => ?_⟩
  rw [hr] at hq
  simp only [List.mem_cons, List.not_mem_nil, or_false] at hq
  rcases hq with rfl | rfl
  · exact wpOp_step ho (fun K' hK => h K' (fun a w hS hW => hK a w ⟨hS, hW⟩))
  · exact wpOp_step hu (fun K' hK => h2 K' (fun a w hS hW => hK a w ⟨hS, hW⟩))
end
theorem VB.newR (v : IvD) (en : Value) (w : World) : VB w.heap.size v en (w.alloc (ivObjR v en)) :=
  ⟨by rw [ivObjR, World.cell?_alloc_at _ _ _ _ rfl]; rfl, by rw [ivObjR, World.cell?_alloc_at _ _ _ _ rfl]; rfl, by rw [ivObjR, World.cell?_alloc_at _ _ _ _ rfl]; rfl, by rw [ivObjR, World.cell?_alloc_at _ _ _ _ rfl]; rfl, by rw [ivObjR, World.cell?_alloc_at _ _ _ _ rfl]; rfl, by rw [ivObjR, World.cell?_alloc_at _ _ _ _ rfl]; rfl, by rw [ivObjR, World.cell?_alloc_at _ _ _ _ rfl]; rfl, by rw [ivObjR, World.cell?_alloc_at _ _ _ _ rfl]; rfl, by rw [ivObjR, World.cell?_alloc_at _ _ _ _ rfl]; rfl⟩
/-- the code of a code in an error, or of none -/
theorem code_any (e : Int) (w : World) (hg : Ea.Glob w) : Calls Tryd.prog 15 #[errV e] w fun ev w' => ev = .returned (.int .i64 e) ∧ Below w.heap.size w w' := by
  by_cases h : e = 0
  · rw [errV_zero h, h]
    exact Ea.Code_nil w
  · rw [errV_code h]
    exact Ea.Code_code e w hg
/-- what the scalars of a view's base are -/
def baseS (v : IvD) : Sc := ⟨7, v.low, v.high, v.unb, v.right, ⟨#[]⟩, ⟨#[]⟩, 0, 0, 0, ⟨#[]⟩, 0, 0⟩
set_option maxRecDepth 100000 in
set_option maxHeartbeats 4000000 in
theorem refBase_any (v : IvD) (a : Option Addr) (n c : Nat) (w : World) :
    Calls Tryd.prog 7 #[ivVal v (.slice a n c)] w fun ev w' => ev = .returned (recVal (baseS v) (.slice none 0 0) (.slice a n c)) ∧ Below w.heap.size w w' := by
  obtain ⟨W0, hW0⟩ : ∃ W, W = (w.alloc (ivObjR v (.slice a n c))).alloc recZ := ⟨_, rfl⟩
  have B0 := Lib.hid (show Below w.heap.size w W0 by rw [hW0]; exact alloc2_below _ _ _)
  have R0 := Lib.hid (show HB (w.heap.size + 1) recZ W0 by rw [hW0]; exact HB.snd _ _ _)
  unfold ivObjR recZ at hW0
  unfold ivVal
  go_enter Tryd.func7, Tryd.ntmps7
  go_wp2_with (rw [← hW0]; refine wpList_store_mid rfl 32 (.tmp 2) (.tmp 13) rfl (w.heap.size + 1) 0 (recCells (baseS v) (.slice none 0 0) (.slice a n c)).toArray rfl rfl ?_ (by kernel_rfl) (rec_one ..) ?_; exact R0.out.there 15 (Nat.le_refl _))
  have B3 := below_setCells (b := w.heap.size + 1) (Nat.le_succ w.heap.size) (recCells (baseS v) (.slice none 0 0) (.slice a n c)) 0 _ B0.out
  have R3 := (R0.out.sets (recCells (baseS v) (.slice none 0 0) (.slice a n c)) rfl)
  refine bodyPost_ret (v := .agg (recCells (baseS v) (.slice none 0 0) (.slice a n c)).toArray) (results_cell1 rfl _ _ (w.heap.size + 1) _ _ rfl (rec_range R3.b) Tryd.underlying32 rfl (by kernel_rfl)) rfl ⟨rfl, B3⟩
set_option maxRecDepth 100000 in
set_option maxHeartbeats 4000000 in
theorem given_any (v : IvD) (en : Value) (w : World) (hv : SV lEnt w en v.ents) (hl : v.ents.length ≤ 10000) :
    Calls Tryd.prog 10 #[ivVal v en] w fun ev w' => ∃ en', ev = .returned (ivVal v en') ∧ OwnS lEnt w.heap.size w' en' v.ents ∧ Below w.heap.size w w' := by
  obtain ⟨a, c, rfl, hlc, hcm⟩ := hv.lenform
  obtain ⟨n, hn⟩ : ∃ n, v.ents.length = n := ⟨_, rfl⟩
  have LN := Lib.hid hn
  have LL := Lib.hid hl
  rw [hn] at hv hlc hl ⊢
  have EW := Lib.hid hv
  obtain ⟨W0, hW0⟩ : ∃ W, W = (w.alloc (ivObjR v (.slice a n c))).alloc ivZero := ⟨_, rfl⟩
  have B0 := Lib.hid (show Below w.heap.size w W0 by rw [hW0]; exact alloc2_below _ _ _)
  have K0 := Lib.hid (show HB w.heap.size (ivObjR v (.slice a n c)) W0 by rw [hW0]; exact HB.fst _ _ _)
  have R0 := Lib.hid (show HB (w.heap.size + 1) ivZero W0 by rw [hW0]; exact HB.snd _ _ _)
  have Z := Lib.hid (show W0.heap.size = w.heap.size + 2 by rw [hW0]; simp)
  have E0 := Lib.hid (hv.below B0.out)
  have HS := Lib.hid (show ∀ w1, Below W0.heap.size W0 w1 → (fun w' => w'.cell? ⟨w.heap.size, 0, none⟩ = some (.string v.low) ∧ w'.cell? ⟨w.heap.size, 1, none⟩ = some (.string v.high) ∧ w'.cell? ⟨w.heap.size, 2, none⟩ = some (.bool v.unb) ∧ w'.cell? ⟨w.heap.size, 3, none⟩ = some (.int .i64 v.right) ∧ w'.cell? ⟨w.heap.size, 4, none⟩ = some (.slice a n c) ∧ w'.cell? ⟨w.heap.size, 5, none⟩ = some (.bool v.held) ∧ w'.cell? ⟨w.heap.size, 6, none⟩ = some (.int .i64 v.hp) ∧ w'.cell? ⟨w.heap.size, 7, none⟩ = some (.int .i64 v.hl) ∧ w'.cell? ⟨w.heap.size, 8, none⟩ = some (.string v.hk)) w1 from fun w1 hs => by have k := K0.out.below hs; exact ⟨k.cell 0, k.cell 1, k.cell 2, k.cell 3, k.cell 4, k.cell 5, k.cell 6, k.cell 7, k.cell 8⟩)
  have SD := Lib.hid (HS.out W0.drew (Below.refl _ _).drew)
  unfold ivObjR ivZero at hW0
  clear hv hn
  unfold ivVal
  go_enter Tryd.func10, Tryd.ntmps10
  go_wp2_with fail
  rw [← hW0]
  clear hW0
  refine AnyBut.region (fun w' => w'.cell? ⟨w.heap.size, 0, none⟩ = some (.string v.low) ∧ w'.cell? ⟨w.heap.size, 1, none⟩ = some (.string v.high) ∧ w'.cell? ⟨w.heap.size, 2, none⟩ = some (.bool v.unb) ∧ w'.cell? ⟨w.heap.size, 3, none⟩ = some (.int .i64 v.right) ∧ w'.cell? ⟨w.heap.size, 4, none⟩ = some (.slice a n c) ∧ w'.cell? ⟨w.heap.size, 5, none⟩ = some (.bool v.held) ∧ w'.cell? ⟨w.heap.size, 6, none⟩ = some (.int .i64 v.hp) ∧ w'.cell? ⟨w.heap.size, 7, none⟩ = some (.int .i64 v.hl) ∧ w'.cell? ⟨w.heap.size, 8, none⟩ = some (.string v.hk)) 17 (by kernel_rfl) ?_
  refine AnyBut.take (i := 0) (oi := ⟨some 3, _, _, _, _, none⟩) (v := ?va0) rfl (by kernel_rfl) (by kernel_rfl) (by kernel_rfl) (by kernel_rfl) (fun _ _ _ h => h) (Or.inl ⟨by rfl, ?hya0⟩) SD.out ?resta0
  case hya0 => (intro w hSw; go_simp; try (with_reducible rfl))
  simp only [Act.put, List.setIfInBounds_toArray, List.set_cons_zero, List.set_cons_succ]
  refine AnyBut.take (i := 1) (oi := ⟨some 4, _, _, _, _, none⟩) (v := ?va1) rfl (by kernel_rfl) (by kernel_rfl) (by kernel_rfl) (by kernel_rfl) (fun _ _ _ h => h) (Or.inl ⟨by rfl, ?hya1⟩) SD.out ?resta1
  case hya1 => (intro w hSw; go_simp; try (with_reducible rfl))
  simp only [Act.put, List.setIfInBounds_toArray, List.set_cons_zero, List.set_cons_succ]
  refine AnyBut.take (i := 2) (oi := ⟨some 5, _, _, _, _, none⟩) (v := ?va2) rfl (by kernel_rfl) (by kernel_rfl) (by kernel_rfl) (by kernel_rfl) (fun _ _ _ h => h) (Or.inl ⟨by rfl, ?hya2⟩) SD.out ?resta2
  case hya2 => (intro w hSw; go_simp; try (with_reducible rfl))
  simp only [Act.put, List.setIfInBounds_toArray, List.set_cons_zero, List.set_cons_succ]
  refine AnyBut.take (i := 3) (oi := ⟨some 6, _, _, _, _, none⟩) (v := ?va3) rfl (by kernel_rfl) (by kernel_rfl) (by kernel_rfl) (by kernel_rfl) (fun _ _ _ h => h) (Or.inl ⟨by rfl, ?hya3⟩) SD.out ?resta3
  case hya3 => (intro w hSw; go_simp; try (with_reducible rfl))
  simp only [Act.put, List.setIfInBounds_toArray, List.set_cons_zero, List.set_cons_succ]
  refine AnyBut.take (i := 4) (oi := ⟨some 7, _, _, _, _, none⟩) (v := ?va4) rfl (by kernel_rfl) (by kernel_rfl) (by kernel_rfl) (by kernel_rfl) (fun _ _ _ h => h) (Or.inl ⟨by rfl, ?hya4⟩) SD.out ?resta4
  case hya4 => (intro w hSw; go_simp; try (with_reducible rfl))
  simp only [Act.put, List.setIfInBounds_toArray, List.set_cons_zero, List.set_cons_succ]
  refine AnyBut.take (i := 5) (oi := ⟨some 8, _, _, _, _, none⟩) (v := ?va5) rfl (by kernel_rfl) (by kernel_rfl) (by kernel_rfl) (by kernel_rfl) (fun _ _ _ h => h) (Or.inl ⟨by rfl, ?hya5⟩) SD.out ?resta5
  case hya5 => (intro w hSw; go_simp; try (with_reducible rfl))
  simp only [Act.put, List.setIfInBounds_toArray, List.set_cons_zero, List.set_cons_succ]
  refine AnyBut.take (i := 6) (oi := ⟨some 9, _, _, _, _, none⟩) (v := ?va6) rfl (by kernel_rfl) (by kernel_rfl) (by kernel_rfl) (by kernel_rfl) (fun _ _ _ h => h) (Or.inl ⟨by rfl, ?hya6⟩) SD.out ?resta6
  case hya6 => (intro w hSw; go_simp; try (with_reducible rfl))
  simp only [Act.put, List.setIfInBounds_toArray, List.set_cons_zero, List.set_cons_succ]
  refine AnyBut.take (i := 7) (oi := ⟨some 10, _, _, _, _, none⟩) (v := ?va7) rfl (by kernel_rfl) (by kernel_rfl) (by kernel_rfl) (by kernel_rfl) (fun _ _ _ h => h) (Or.inl ⟨by rfl, ?hya7⟩) SD.out ?resta7
  case hya7 => (intro w hSw; go_simp; try (with_reducible rfl))
  simp only [Act.put, List.setIfInBounds_toArray, List.set_cons_zero, List.set_cons_succ]
  refine AnyBut.take (i := 9) (oi := ⟨some 12, _, _, _, _, none⟩) (v := ?va9) rfl (by kernel_rfl) (by kernel_rfl) (by kernel_rfl) (by kernel_rfl) (fun _ _ _ h => h) (Or.inl ⟨by rfl, ?hya9⟩) SD.out ?resta9
  case hya9 => (intro w hSw; go_simp; try (with_reducible rfl))
  simp only [Act.put, List.setIfInBounds_toArray, List.set_cons_zero, List.set_cons_succ]
  refine AnyBut.take (i := 10) (oi := ⟨some 13, _, _, _, _, none⟩) (v := ?va10) rfl (by kernel_rfl) (by kernel_rfl) (by kernel_rfl) (by kernel_rfl) (fun _ _ _ h => h) (Or.inl ⟨by rfl, ?hya10⟩) SD.out ?resta10
  case hya10 => (intro w hSw; go_simp; try (with_reducible rfl))
  simp only [Act.put, List.setIfInBounds_toArray, List.set_cons_zero, List.set_cons_succ]
  refine AnyBut.take (i := 12) (oi := ⟨some 15, _, _, _, _, none⟩) (v := ?va12) rfl (by kernel_rfl) (by kernel_rfl) (by kernel_rfl) (by kernel_rfl) (fun _ _ _ h => h) (Or.inl ⟨by rfl, ?hya12⟩) SD.out ?resta12
  case hya12 => (intro w hSw; go_simp; try (with_reducible rfl))
  simp only [Act.put, List.setIfInBounds_toArray, List.set_cons_zero, List.set_cons_succ]
  refine AnyBut.take (i := 13) (oi := ⟨some 16, _, _, _, _, none⟩) (v := ?va13) rfl (by kernel_rfl) (by kernel_rfl) (by kernel_rfl) (by kernel_rfl) (fun _ _ _ h => h) (Or.inl ⟨by rfl, ?hya13⟩) SD.out ?resta13
  case hya13 => (intro w hSw; go_simp; try (with_reducible rfl))
  simp only [Act.put, List.setIfInBounds_toArray, List.set_cons_zero, List.set_cons_succ]
  refine AnyBut.take (i := 14) (oi := ⟨some 17, _, _, _, _, none⟩) (v := ?va14) rfl (by kernel_rfl) (by kernel_rfl) (by kernel_rfl) (by kernel_rfl) (fun _ _ _ h => h) (Or.inl ⟨by rfl, ?hya14⟩) SD.out ?resta14
  case hya14 => (intro w hSw; go_simp; try (with_reducible rfl))
  simp only [Act.put, List.setIfInBounds_toArray, List.set_cons_zero, List.set_cons_succ]
  refine AnyBut.take (i := 15) (oi := ⟨some 18, _, _, _, _, none⟩) (v := ?va15) rfl (by kernel_rfl) (by kernel_rfl) (by kernel_rfl) (by kernel_rfl) (fun _ _ _ h => h) (Or.inl ⟨by rfl, ?hya15⟩) SD.out ?resta15
  case hya15 => (intro w hSw; go_simp; try (with_reducible rfl))
  simp only [Act.put, List.setIfInBounds_toArray, List.set_cons_zero, List.set_cons_succ]
  obtain ⟨q0, hq0⟩ : ∃ W, W = World.drew W0 := ⟨_, rfl⟩
  have hb := alloc_below0 W0.drew (.cells #[] 40)
  have BB := (Below.refl W0.heap.size W0).drew
  rw [← hq0] at hb BB ⊢
  have O0 := Lib.hid (show OwnS lEnt q0.heap.size (q0.alloc (.cells #[] 40)) (.slice (some ⟨q0.heap.size, 0, none⟩) 0 0) [] from OwnS.lit lEnt q0.heap.size q0 q0.heap.size rfl [] (Nat.le_refl _) (by decide))
  have HQ := Lib.hid (show W0.heap.size ≤ q0.heap.size by rw [hq0]; exact Nat.le_refl _)
  have B1 := Lib.hid (BB.trans (hb.mono HQ.out))
  have BQ := Lib.hid hb
  have S1 := Lib.hid (HS.out _ B1.out)
  clear hq0 hb BB
  refine AnyBut.one (i := 8) (o := ⟨some 11, _, _, _, _, none⟩) (by kernel_rfl) rfl (fun K hK => ?_)
  go_simp
  refine hK.out _ _ (fun _ => S1.out) ?_
  clear hK K
  generalize hG : World.alloc q0 _ = q1 at *
  clear hG
  try simp only [Act.put, List.setIfInBounds_toArray, List.set_cons_zero, List.set_cons_succ]
  have E1 := Lib.hid (E0.out.below B1.out)
  refine AnyBut.one (i := 11) (o := ⟨some 14, _, _, _, _, none⟩) (by kernel_rfl) rfl (fun K hK => ?_)
  rw [if_pos (by rfl)]
  refine wp_appS lEnt 22 Tryd.underlying22 lEnt_known (by decide) (by decide) (.tmp 11) (.tmp 13) rfl q0.heap.size rfl rfl O0.out E1.out (by have := LL.out; simp; omega) BQ.out.size ?_
  intro va w2 ho hg
  have BF := Lib.hid (BQ.out.grown hg BQ.out.size (fun k hk => (World.ownsRow.lt O0.out k hk).1))
  have B2 := Lib.hid (B1.out.trans ((show Below q0.heap.size q1 w2 from (Kept.of_grown hg).below (fun k h => (O0.out.bounds k h.symm).1) BQ.out.size).mono HQ.out))
  have O1 := Lib.hid ho
  rw [List.nil_append] at O1
  obtain ⟨a2, c2, rfl, -, -⟩ := O1.out.lenN LN.out
  clear ho hg
  have S2 := Lib.hid (HS.out _ B2.out)
  refine hK.out _ _ (fun _ => S2.out) ?_
  clear hK K
  try simp only [Act.put, List.setIfInBounds_toArray, List.set_cons_zero, List.set_cons_succ]
  refine AnyBut.one (i := 16) (o := ⟨some 19, _, _, _, _, none⟩) (by kernel_rfl) rfl (fun K hK => ?_)
  go_simp
  refine hK.out _ _ (fun _ => S2.out) ?_
  clear hK K
  try simp only [Act.put, List.setIfInBounds_toArray, List.set_cons_zero, List.set_cons_succ]
  have R2 := Lib.hid (R0.out.below B2.out)
  refine AnyBut.one (i := 17) (o := ⟨none, _, _, _, _, none⟩) (by kernel_rfl) rfl (fun K hK => ?_)
  rw [if_pos (by rfl)]
  refine wp_store_mid 37 (.tmp 2) (.tmp 19) rfl (w.heap.size + 1) 0 (ivCells v (.slice a2 n c2)).toArray rfl rfl (R2.out.there 9 (Nat.le_refl _)) ivInfoS (iv_one ..) ?_
  refine hK.out _ _ (fun h => absurd rfl h) ?_
  clear hK K
  try simp only [Act.put]
  refine AnyBut.done (by kernel_rfl) ?_ _
  go_wp2
  have R3 := (R2.out.sets (ivCells v (.slice a2 n c2)) rfl)
  have O3 := O1.out.sets (b := w.heap.size + 1) (by have := HQ.out; have := Z.out; omega) 0 (ivCells v (.slice a2 n c2))
  have B3 := below_setCells (b := w.heap.size + 1) (Nat.le_succ w.heap.size) (ivCells v (.slice a2 n c2)) 0 _ (B0.out.trans (B2.out.mono B0.out.size))
  refine bodyPost_ret (v := .agg (ivCells v (.slice a2 n c2)).toArray) (results_cell1 rfl _ _ (w.heap.size + 1) _ _ rfl (iv_range (show HB (w.heap.size + 1) (ivObj v (.slice a2 n c2)) _ from R3)) Tryd.underlying37 rfl (by kernel_rfl)) rfl ⟨_, rfl, O3.mono ?_, B3⟩
  have := HQ.out; have := Z.out; omega
/-- a view that came in -/
structure ViewW (w : World) (v : IvD) (a : Option Addr) (c : Nat) : Prop where
  sv : SV lEnt w (.slice a v.ents.length c) v.ents
  sz : SzI v
  fit : 24 * v.ents.length ≤ 281474976710656
theorem ViewW.below {w w' : World} {v : IvD} {a : Option Addr} {c : Nat} (h : ViewW w v a c) (hs : Below w.heap.size w w') : ViewW w' v a c := ⟨h.sv.below hs, h.sz, h.fit⟩
def baseD1 (v : IvD) (a : Option Addr) (c : Nat) : RcD := ⟨baseS v, none, 0, a, c, [], v.ents⟩
theorem ViewW.chain {w : World} {v : IvD} {a : Option Addr} {c n : Nat} (h : ViewW w v a c) (hn : w.heap.size = n) : ChW (w.alloc (.cells (baseD1 v a c).cells.toArray 32)) (.slice (some ⟨n, 0, none⟩) 1 1) [baseD1 v a c] :=
  ⟨one_sv hn _, fun d hd => by
    obtain rfl : d = baseD1 v a c := by simpa using hd
    exact ⟨SV.nil _ _, h.sv.below (alloc_below0 _ _), ⟨h.sz.low, h.sz.high, show 0 ≤ maxLen by decide, show 0 ≤ maxLen by decide, show 0 ≤ maxLen by decide⟩, Small.nil, h.sz.ents, by show 32 * 0 ≤ _; decide, h.fit⟩⟩
theorem hold_form (v : IvD) (p : Int) : ∃ a b k, (holdE v p).1 = hdVal a b k := by
  unfold holdE
  split
  · exact ⟨_, _, _, rfl⟩
  · exact ⟨_, _, _, rfl⟩
theorem has_at (v : IvD) (k : ByteArray) : (atE v.ents k).isSome = decide (0 ≤ atI v k) := by
  unfold atI
  split
  · next n h => rw [h]; simp
  · next h => rw [h]; rfl
end Go.Proofs.YtkkmfacngmginaaDoor
