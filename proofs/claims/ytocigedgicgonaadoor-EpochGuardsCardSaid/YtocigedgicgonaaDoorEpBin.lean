/- Package epoch: a bin in memory; its Add, Len and Items, by contracts. -/
import Derived.Test.YtocigedgicgonaaDoorEpInv
import Derived.Test.YtocigedgicgonaaDoorArLast
namespace Go.Proofs.YtocigedgicgonaaDoor
open Go.RowKit

structure It where
  s : Int
  a : Int
  b : Int
  p : Int
def It.cells (x : It) : List Value := [.int .i64 x.s, .int .i64 x.a, .int .i64 x.b, .int .i64 x.p]
def It.val (x : It) : Value := .agg #[.int .i64 x.s, .int .i64 x.a, .int .i64 x.b, .int .i64 x.p]
theorem It.cells_one (x : It) : ∀ u ∈ x.cells, u.oneCell' = true := fun u h => by
  simp only [It.cells, List.mem_cons, List.not_mem_nil, or_false] at h
  rcases h with h | h | h | h <;> subst h <;> rfl
def lIt : Lay It := ⟨48, 4, It.cells, fun _ => rfl, It.cells_one⟩
theorem itInfo : (Tryd.prog.info? 48).map (fun i => (i.zero, i.size, i.bytes)) = some (some (.agg #[.int .i64 0, .int .i64 0, .int .i64 0, .int .i64 0]), 4, 32) := by kernel_rfl
theorem lIt_known : lIt.known 32 := known_of itInfo rfl rfl
/-- the links from one on: the last item first -/
def Chain (w : World) : Option Addr → List It → Prop
  | p, [] => p = none
  | p, x :: r => ∃ b q, p = some ⟨b, 0, none⟩ ∧ w.heap[b]? = some (.cells #[.int .i64 x.s, .int .i64 x.a, .int .i64 x.b, .int .i64 x.p, .pointer q] 74 (0, 0)) ∧ Chain w q r
/-- no link is in a footprint -/
def NoLink (w : World) (S : Nat → Prop) : Prop := ∀ b cs fr, S b → w.heap[b]? ≠ some (.cells cs 74 fr)
theorem Chain.keep {S : Nat → Prop} {w w' : World} (hk : Kept S w w') (hn : NoLink w S) : ∀ {xs : List It} {p : Option Addr}, Chain w p xs → Chain w' p xs
  | [], _, h => h
  | _ :: _, _, ⟨b, q, h1, h2, h3⟩ => ⟨b, q, h1, (hk.block b (Array.getElem?_eq_some_iff.1 h2).1 (fun hs => hn b _ _ hs h2)).trans h2, Chain.keep hk hn h3⟩
theorem Chain.low {w w' : World} (hb : Below w.heap.size w w') {xs : List It} {p : Option Addr} (h : Chain w p xs) : Chain w' p xs := h.keep (Kept.of_below (S := fun _ => False) hb) (fun _ _ _ h => h.elim)
structure BinAt (w : World) (bb : Nat) (xs : List It) : Prop where
  blk : ∃ p, w.heap[bb]? = some (.cells #[.pointer p, .int .i64 (xs.length : Int)] 42 (0, 0)) ∧ Chain w p xs.reverse
theorem BinAt.lt {w : World} {bb : Nat} {xs : List It} (h : BinAt w bb xs) : bb < w.heap.size := let ⟨_, h1, _⟩ := h.blk; (Array.getElem?_eq_some_iff.1 h1).1
theorem BinAt.no {w : World} {bb : Nat} {xs : List It} (h : BinAt w bb xs) : NoLink w (fun k => k = bb) := fun b cs fr e hb => by
  obtain ⟨p, h1, -⟩ := h.blk
  subst e
  rw [h1] at hb
  simp only [Option.some.injEq, Obj.cells.injEq] at hb
  exact absurd hb.2.1 (by decide)
theorem BinAt.low {w w' : World} {bb : Nat} {xs : List It} (h : BinAt w bb xs) (hb : Below w.heap.size w w') : BinAt w' bb xs :=
  let ⟨p, h1, h2⟩ := h.blk; ⟨⟨p, blk_step h1 hb, h2.low hb⟩⟩
theorem BinAt.keep {w w' : World} {bb : Nat} {xs : List It} (h : BinAt w bb xs) {S : Nat → Prop} (hk : Kept S w w') (hn : NoLink w S) (h1 : ¬ S bb) : BinAt w' bb xs :=
  let ⟨p, e1, e2⟩ := h.blk; ⟨⟨p, (hk.block bb h.lt h1).trans e1, e2.keep hk hn⟩⟩
theorem ClkAt.no {w : World} {cb mb : Nat} {c : Ck} (h : ClkAt w cb mb c) : NoLink w (CS cb mb) := fun b cs fr e hb => by
  rcases e with rfl | rfl
  · rw [h.blk] at hb
    simp only [Option.some.injEq, Obj.cells.injEq] at hb
    exact absurd hb.2.1 (by decide)
  · obtain ⟨D, m⟩ := h.map
    obtain ⟨es, clock, e, -⟩ := m.own
    rw [e] at hb
    cases hb
theorem BinAt.zero {w : World} {bb : Nat} (h : w.heap[bb]? = some (.cells #[.pointer none, .int .i64 0] 42 (0, 0))) : BinAt w bb [] := ⟨⟨none, h, rfl⟩⟩
theorem BinAt.added {w' : World} {bb b : Nat} {xs : List It} {x : It} {p : Option Addr} (hc : Chain w' p xs.reverse) (h1 : w'.heap[bb]? = some (.cells #[.pointer (some ⟨b, 0, none⟩), .int .i64 ((xs.length : Int) + 1)] 42 (0, 0)))
    (h2 : w'.heap[b]? = some (.cells #[.int .i64 x.s, .int .i64 x.a, .int .i64 x.b, .int .i64 x.p, .pointer p] 74 (0, 0))) : BinAt w' bb (xs ++ [x]) := by
  refine ⟨⟨_, by rw [show (((xs ++ [x]).length : Nat) : Int) = (xs.length : Int) + 1 by simp]; exact h1, ?_⟩⟩
  rw [List.reverse_append]
  exact ⟨b, p, rfl, h2, hc⟩
set_option maxRecDepth 100000 in
set_option maxHeartbeats 4000000 in
theorem add_nil (x : It) (w : World) : Calls Tryd.prog 15 #[.pointer none, x.val] w fun ev w' => ev = .returned (.tuple #[]) ∧ Below w.heap.size w w' := by
  have B := Lib.hid (alloc_below0 w (.cells #[.int .i64 x.s, .int .i64 x.a, .int .i64 x.b, .int .i64 x.p] 48))
  unfold It.val
  go_enter Tryd.func15, Tryd.ntmps15
  go_wp2
  refine bodyPost_ret (results_none rfl _ _ _) rfl ?_
  exact ⟨rfl, B.out⟩
set_option maxRecDepth 100000 in
set_option maxHeartbeats 4000000 in
theorem add_any (w : World) (bb : Nat) (xs : List It) (x : It) (h : BinAt w bb xs) (hl : xs.length ≤ 100000) :
    Calls Tryd.prog 15 #[.pointer (some ⟨bb, 0, none⟩), x.val] w fun ev w' => ev = .returned (.tuple #[]) ∧ BinAt w' bb (xs ++ [x]) ∧ Kept (fun k => k = bb) w w' := by
  obtain ⟨p, h1, h2⟩ := h.blk
  obtain ⟨W0, hW0⟩ : ∃ W, W = w.alloc (.cells #[.int .i64 x.s, .int .i64 x.a, .int .i64 x.b, .int .i64 x.p] 48) := ⟨_, rfl⟩
  have b0 := alloc_below0 w (.cells #[.int .i64 x.s, .int .i64 x.a, .int .i64 x.b, .int .i64 x.p] 48)
  have k0 := blk_new w (.cells #[.int .i64 x.s, .int .i64 x.a, .int .i64 x.b, .int .i64 x.p] 48)
  rw [← hW0] at b0 k0
  have B0 := Lib.hid b0
  have I0 := Lib.hid (h.low b0)
  have K0 := Lib.hid (blk_step h1 b0)
  have C0 := Lib.hid (h2.low b0)
  have HS := Lib.hid (show ∀ w1, Below W0.heap.size W0 w1 → (fun w' => w'.cell? ⟨bb, 0, none⟩ = some (.pointer p) ∧ w'.cell? ⟨w.heap.size, 0, none⟩ = some (.int .i64 x.s) ∧ w'.cell? ⟨w.heap.size, 1, none⟩ = some (.int .i64 x.a) ∧ w'.cell? ⟨w.heap.size, 2, none⟩ = some (.int .i64 x.b) ∧ w'.cell? ⟨w.heap.size, 3, none⟩ = some (.int .i64 x.p)) w1 from fun w1 hs => ⟨blk_cell (blk_step (blk_step h1 b0) hs) 0, blk_cell (blk_step k0 hs) 0, blk_cell (blk_step k0 hs) 1, blk_cell (blk_step k0 hs) 2, blk_cell (blk_step k0 hs) 3⟩)
  have SD := Lib.hid (HS.out W0.drew (Below.refl _ _).drew)
  have LN := Lib.hid hl
  have i1 : IntKind.i64.wrap ((xs.length : Int) + 1) = (xs.length : Int) + 1 := Go.IntWalk.i64_in _ (by omega)
  clear h h1 h2 b0 k0 hl
  unfold It.val
  go_enter Tryd.func15, Tryd.ntmps15
  go_wp2_with fail
  rw [← hW0]
  clear hW0
  refine AnyBut.region (fun w' => w'.cell? ⟨bb, 0, none⟩ = some (.pointer p) ∧ w'.cell? ⟨w.heap.size, 0, none⟩ = some (.int .i64 x.s) ∧ w'.cell? ⟨w.heap.size, 1, none⟩ = some (.int .i64 x.a) ∧ w'.cell? ⟨w.heap.size, 2, none⟩ = some (.int .i64 x.b) ∧ w'.cell? ⟨w.heap.size, 3, none⟩ = some (.int .i64 x.p)) 10 (by kernel_rfl) ?_
  refine AnyBut.take (i := 0) (oi := ⟨some 6, _, _, _, _, none⟩) (v := ?va0) rfl (by kernel_rfl) (by kernel_rfl) (by kernel_rfl) (by kernel_rfl) (fun _ _ _ h => h) (Or.inl ⟨by rfl, ?hya0⟩) SD.out ?resta0
  case hya0 => (intro w hSw; go_simp; try (with_reducible rfl))
  simp only [Act.put, List.setIfInBounds_toArray, List.set_cons_zero, List.set_cons_succ]
  refine AnyBut.take (i := 1) (oi := ⟨some 7, _, _, _, _, none⟩) (v := ?va1) rfl (by kernel_rfl) (by kernel_rfl) (by kernel_rfl) (by kernel_rfl) (fun _ _ _ h => h) (Or.inl ⟨by rfl, ?hya1⟩) SD.out ?resta1
  case hya1 => (intro w hSw; go_simp; try (with_reducible rfl))
  simp only [Act.put, List.setIfInBounds_toArray, List.set_cons_zero, List.set_cons_succ]
  refine AnyBut.take (i := 2) (oi := ⟨some 8, _, _, _, _, none⟩) (v := ?va2) rfl (by kernel_rfl) (by kernel_rfl) (by kernel_rfl) (by kernel_rfl) (fun _ _ _ h => h) (Or.inl ⟨by rfl, ?hya2⟩) SD.out ?resta2
  case hya2 => (intro w hSw; go_simp; try (with_reducible rfl))
  simp only [Act.put, List.setIfInBounds_toArray, List.set_cons_zero, List.set_cons_succ]
  refine AnyBut.take (i := 3) (oi := ⟨some 9, _, _, _, _, none⟩) (v := ?va3) rfl (by kernel_rfl) (by kernel_rfl) (by kernel_rfl) (by kernel_rfl) (fun _ _ _ h => h) (Or.inl ⟨by rfl, ?hya3⟩) SD.out ?resta3
  case hya3 => (intro w hSw; go_simp; try (with_reducible rfl))
  simp only [Act.put, List.setIfInBounds_toArray, List.set_cons_zero, List.set_cons_succ]
  refine AnyBut.take (i := 4) (oi := ⟨some 10, _, _, _, _, none⟩) (v := ?va4) rfl (by kernel_rfl) (by kernel_rfl) (by kernel_rfl) (by kernel_rfl) (fun _ _ _ h => h) (Or.inl ⟨by rfl, ?hya4⟩) SD.out ?resta4
  case hya4 => (intro w hSw; go_simp; try (with_reducible rfl))
  simp only [Act.put, List.setIfInBounds_toArray, List.set_cons_zero, List.set_cons_succ]
  refine AnyBut.take (i := 5) (oi := ⟨some 11, _, _, _, _, none⟩) (v := ?va5) rfl (by kernel_rfl) (by kernel_rfl) (by kernel_rfl) (by kernel_rfl) (fun _ _ _ h => h) (Or.inl ⟨by rfl, ?hya5⟩) SD.out ?resta5
  case hya5 => (intro w hSw; go_simp; try (with_reducible rfl))
  simp only [Act.put, List.setIfInBounds_toArray, List.set_cons_zero, List.set_cons_succ]
  refine AnyBut.take (i := 6) (oi := ⟨some 12, _, _, _, _, none⟩) (v := ?va6) rfl (by kernel_rfl) (by kernel_rfl) (by kernel_rfl) (by kernel_rfl) (fun _ _ _ h => h) (Or.inl ⟨by rfl, ?hya6⟩) SD.out ?resta6
  case hya6 => (intro w hSw; go_simp; try (with_reducible rfl))
  simp only [Act.put, List.setIfInBounds_toArray, List.set_cons_zero, List.set_cons_succ]
  have b1 := ((Below.refl W0.heap.size W0).alloc (Nat.le_refl _) (.cells #[.int .i64 x.s, .int .i64 x.a, .int .i64 x.b, .int .i64 x.p, .pointer p] 74)).drew
  have k1 : (W0.alloc (.cells #[.int .i64 x.s, .int .i64 x.a, .int .i64 x.b, .int .i64 x.p, .pointer p] 74)).drew.heap[W0.heap.size]? = some (.cells #[.int .i64 x.s, .int .i64 x.a, .int .i64 x.b, .int .i64 x.p, .pointer p] 74) := blk_new W0 (.cells #[.int .i64 x.s, .int .i64 x.a, .int .i64 x.b, .int .i64 x.p, .pointer p] 74)
  have S1 := Lib.hid (HS.out _ b1)
  refine AnyBut.one (i := 7) (o := ⟨some 13, _, _, _, _, none⟩) (by kernel_rfl) rfl (fun K hK => ?_)
  go_simp
  refine hK.out _ _ (fun _ => S1.out) ?_
  clear hK K
  obtain ⟨W1, hW1⟩ : ∃ W, W = (W0.alloc (.cells #[.int .i64 x.s, .int .i64 x.a, .int .i64 x.b, .int .i64 x.p, .pointer p] 74)).drew := ⟨_, rfl⟩
  rw [← hW1] at b1 k1 S1 ⊢
  clear hW1
  have B1 := Lib.hid b1
  have L1 := Lib.hid k1
  have K1 := Lib.hid (blk_step K0.out b1)
  try simp only [Act.put, List.setIfInBounds_toArray, List.set_cons_zero, List.set_cons_succ]
  refine AnyBut.one (i := 8) (o := ⟨some 14, _, _, _, _, none⟩) (by kernel_rfl) rfl (fun K hK => ?_)
  go_simp
  refine hK.out _ _ (fun _ => S1.out) ?_
  clear hK K
  try simp only [Act.put, List.setIfInBounds_toArray, List.set_cons_zero, List.set_cons_succ]
  refine AnyBut.one (i := 9) (o := ⟨some 15, _, _, _, _, none⟩) (by kernel_rfl) rfl (fun K hK => ?_)
  go_simp
  refine hK.out _ _ (fun _ => S1.out) ?_
  clear hK K
  try simp only [Act.put, List.setIfInBounds_toArray, List.set_cons_zero, List.set_cons_succ]
  obtain ⟨q0, q1, q2, q3, q4⟩ := two_facts K1.out (.pointer (some ⟨W0.heap.size, 0, none⟩)) (.int .i64 ((xs.length : Int) + 1))
  have Q4 := Lib.hid q4
  refine AnyBut.one (i := 10) (o := ⟨none, _, _, _, _, none⟩) (by kernel_rfl) rfl (fun K hK => ?_)
  go_simp
  refine hK.out _ _ (fun h => absurd rfl h) ?_
  clear hK K
  try simp only [Act.put, List.setIfInBounds_toArray, List.set_cons_zero, List.set_cons_succ]
  refine AnyBut.done (by kernel_rfl) ?_ _
  go_wp2
  refine bodyPost_end (results_none rfl _ _ _) rfl ?_
  have N1 : NoLink W1 (fun k => k = bb) := (I0.out.low B1.out).no
  have KK := ((Kept.refl (fun k => k = bb) W1).setCell 0 (.pointer (some ⟨W0.heap.size, 0, none⟩))).setCell 1 (.int .i64 ((xs.length : Int) + 1))
  have C2 := (C0.out.low B1.out).keep KK N1
  have hne : ¬ W0.heap.size = bb := by have := I0.out.lt; omega
  have L2 := blk_off (blk_off L1.out hne 0 (.pointer (some ⟨W0.heap.size, 0, none⟩))) hne 1 (.int .i64 ((xs.length : Int) + 1))
  exact ⟨rfl, BinAt.added C2 Q4.out L2, (Kept.of_below (S := fun k => k = bb) (B0.out.trans (B1.out.mono B0.out.size))).trans KK⟩
end Go.Proofs.YtocigedgicgonaaDoor
