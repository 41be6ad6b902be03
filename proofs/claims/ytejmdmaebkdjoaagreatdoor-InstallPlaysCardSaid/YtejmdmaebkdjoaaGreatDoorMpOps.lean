/- Package mapping's Give, Head and Swap, by contracts. -/
import Derived.Test.YtejmdmaebkdjoaaGreatDoorMm
import Derived.Test.YtejmdmaebkdjoaaGreatDoorMw
import Derived.Deep.LoopGhost
import Derived.Deep.QuietTactic
import Derived.BigQuiet
import Derived.WalkSmall
import Derived.RegionTactic
import Derived.Deep.RegionHeld3
import Derived.WalkSpells
namespace Go.Proofs.YtejmdmaebkdjoaaGreatDoor
set_option linter.unusedVariables false
set_option linter.unusedSimpArgs false
set_option maxRecDepth 100000
set_option maxHeartbeats 4000000
open Go.RowKit
abbrev Pg := Option Rf
def pgEnc : Pg → List Value
 | none => [.bool false, .int .i64 0, .int .i64 0]
 | some r => [.bool true, .int .i64 r.1, .int .i64 r.2]
def lPage : Lay Pg := ⟨197, 3, pgEnc, fun x => by cases x <;> rfl, fun x u h => by cases x <;> simp [pgEnc] at h <;> rcases h with rfl | rfl | rfl <;> rfl⟩
theorem pageInfo : (Tryz.prog.info? 197).map (fun i => (i.zero, i.size, i.bytes)) = some (some (.agg #[.bool false, .int .i64 0, .int .i64 0]), 3, 24) := by kernel_rfl
/-! ### the model -/
def pageAt (L : List Pg) (x : Int) : Pg := if x < 0 then none else (L[x.toNat]?).join
def codeT (L : List Pg) (x : Int) : Int := if x < 0 ∨ (L.length : Int) ≤ x then 1 else if (pageAt L x).isNone then 6 else 0
def headT (L : List Pg) (x : Int) : Rf := (pageAt L x).getD (0, 0)
def firstFree (L : List Pg) : Option Nat := L.findIdx? Option.isNone
def takeL (L : List Pg) : List Pg := match firstFree L with | some i => L.set i (some (0, 0)) | none => L
def takeN (L : List Pg) : Nat := (firstFree L).getD 0
def takeE (L : List Pg) : Int := if (firstFree L).isNone then 3 else 0
def giveL (L : List Pg) (x : Int) : List Pg := if codeT L x = 0 then L.set x.toNat none else L
def swapB (L : List Pg) (x : Int) (old : Rf) : Bool := decide (codeT L x = 0) && decide (headT L x = old)
def swapL (L : List Pg) (x : Int) (old new : Rf) : List Pg := if swapB L x old = true then L.set x.toNat (some new) else L
def usedTo (L : List Pg) (k : Nat) : List Int := ((List.range k).filter fun (i : Nat) => (pageAt L (i : Int)).isSome).map fun (i : Nat) => (i : Int)
def usedT (L : List Pg) : List Int := usedTo L L.length
theorem pageAt_nat (L : List Pg) (i : Nat) : pageAt L i = (L[i]?).join := by
 unfold pageAt; rw [if_neg (by omega)]; rfl
theorem pageAt_get {L : List Pg} {i : Nat} {p : Pg} (h : L[i]? = some p) : pageAt L i = p := by rw [pageAt_nat, h]; rfl
theorem codeT_at {L : List Pg} {i : Nat} {p : Pg} (h : L[i]? = some p) : codeT L i = if p.isNone then 6 else 0 := by
 have := (List.getElem?_eq_some_iff.1 h).1
 unfold codeT
 rw [if_neg (by omega), pageAt_get h]
theorem headT_at {L : List Pg} {i : Nat} {r : Rf} (h : L[i]? = some (some r)) : headT L i = r := by unfold headT; rw [pageAt_get h]; rfl
theorem page_cases (L : List Pg) (x : Int) : (codeT L x = 1 ∧ (x < 0 ∨ (L.length : Int) ≤ x)) ∨ (∃ i : Nat, x = i ∧ L[i]? = some none ∧ codeT L x = 6) ∨ (∃ (i : Nat) (r : Rf), x = i ∧ L[i]? = some (some r) ∧ codeT L x = 0 ∧ headT L x = r) := by
 by_cases hx : x < 0 ∨ (L.length : Int) ≤ x
 ·left; exact ⟨by unfold codeT; rw [if_pos hx], hx⟩
 ·right
  obtain ⟨i, rfl⟩ : ∃ i : Nat, x = i := ⟨x.toNat, by omega⟩
  have hi : i < L.length := by omega
  have hg := List.getElem?_eq_getElem hi
  cases hp : L[i] with
  | none => left; rw [hp] at hg; exact ⟨i, rfl, hg, by rw [codeT_at hg]; rfl⟩
  | some r => right; rw [hp] at hg; exact ⟨i, r, rfl, hg, by rw [codeT_at hg]; rfl, headT_at hg⟩
theorem headT_none {L : List Pg} {x : Int} (h : codeT L x ≠ 0) : headT L x = (0, 0) := by
 rcases page_cases L x with ⟨-, hx⟩ | ⟨i, rfl, hg, -⟩ | ⟨i, r, -, -, h0, -⟩
 ·unfold headT pageAt
  split
  ·rfl
  ·rename_i hn
   rw [List.getElem?_eq_none (by omega)]; rfl
 ·unfold headT; rw [pageAt_get hg]; rfl
 ·exact absurd h0 h
theorem giveL_len (L : List Pg) (x : Int) : (giveL L x).length = L.length := by unfold giveL; split <;> simp
theorem takeL_len (L : List Pg) : (takeL L).length = L.length := by unfold takeL; split <;> simp
theorem swapL_len (L : List Pg) (x : Int) (o n : Rf) : (swapL L x o n).length = L.length := by unfold swapL; split <;> simp
theorem usedTo_succ (L : List Pg) (k : Nat) : usedTo L (k + 1) = usedTo L k ++ (if (pageAt L k).isSome then [(k : Int)] else []) := by
 unfold usedTo
 rw [List.range_succ, List.filter_append, List.map_append]
 congr 1
 rw [List.filter_cons]
 cases (pageAt L k).isSome <;> simp
theorem usedTo_len (L : List Pg) (k : Nat) : (usedTo L k).length ≤ k := by
 unfold usedTo; rw [List.length_map]
 exact Nat.le_trans (List.length_filter_le _ _) (by simp)
/-! ### in memory -/
structure TabAt (w : World) (ab pb n : Nat) (L : List Pg) : Prop where
 len : L.length = n
 lo : 1 ≤ n
 hi : n ≤ 256
 blkA : w.heap[ab]? = some (.cells #[.slice (some ⟨pb, 0, none⟩) n n] 147 (0, 0))
 own : OwnS lPage 0 w (.slice (some ⟨pb, 0, none⟩) n n) L
theorem TabAt.ne {w : World} {ab pb n : Nat} {L : List Pg} (h : TabAt w ab pb n L) : ab ≠ pb := fun e => by
 obtain ⟨cur, hc, -⟩ := h.own.block
 have := h.blkA
 rw [e, hc] at this
 simp only [Option.some.injEq, Obj.cells.injEq] at this
 exact absurd this.2.1 (by decide)
theorem TabAt.ltA {w : World} {ab pb n : Nat} {L : List Pg} (h : TabAt w ab pb n L) : ab < w.heap.size := (Array.getElem?_eq_some_iff.1 h.blkA).1
theorem TabAt.ltP {w : World} {ab pb n : Nat} {L : List Pg} (h : TabAt w ab pb n L) : pb < w.heap.size := (h.own.bounds pb rfl).2
theorem TabAt.low {w w' : World} {ab pb n : Nat} {L : List Pg} (h : TabAt w ab pb n L) (hb : Below w.heap.size w w') : TabAt w' ab pb n L :=
 ⟨h.len, h.lo, h.hi, blk_step h.blkA hb, h.own.below hb⟩
theorem TabAt.keep {w w' : World} {ab pb n : Nat} {L : List Pg} (h : TabAt w ab pb n L) {S : Nat → Prop} (hk : Kept S w w') (h1 : ¬ S ab) (h2 : ¬ S pb) : TabAt w' ab pb n L :=
 ⟨h.len, h.lo, h.hi, (hk.block ab h.ltA h1).trans h.blkA, h.own.kept hk (fun a m c hv => by obtain ⟨e, -, -⟩ := Value.slice.inj hv; obtain rfl := Option.some.inj e; exact h2)⟩
theorem TabAt.a0 {w : World} {ab pb n : Nat} {L : List Pg} (h : TabAt w ab pb n L) : w.cell? ⟨ab, 0, none⟩ = some (.slice (some ⟨pb, 0, none⟩) n n) := blk_cell h.blkA 0
structure PgAt (w : World) (pb i : Nat) (u : Bool) (x y : Int) : Prop where
 c0 : w.cell? ⟨pb, i * 3, none⟩ = some (.bool u)
 c1 : w.cell? ⟨pb, i * 3 + 1, none⟩ = some (.int .i64 x)
 c2 : w.cell? ⟨pb, i * 3 + 2, none⟩ = some (.int .i64 y)
theorem TabAt.pnone {w : World} {ab pb n i : Nat} {L : List Pg} (h : TabAt w ab pb n L) (hi : L[i]? = some none) : PgAt w pb i false 0 0 := by
 have sv := h.own.sv
 have x0 := sv.cellAt (j := 0) hi rfl
 have x1 := sv.cellAt (j := 1) hi rfl
 have x2 := sv.cellAt (j := 2) hi rfl
 simp only [lPage, Nat.zero_add, Nat.add_zero] at x0 x1 x2
 exact ⟨x0, x1, x2⟩
theorem TabAt.psome {w : World} {ab pb n i : Nat} {L : List Pg} {r : Rf} (h : TabAt w ab pb n L) (hi : L[i]? = some (some r)) : PgAt w pb i true r.1 r.2 := by
 have sv := h.own.sv
 have x0 := sv.cellAt (j := 0) hi rfl
 have x1 := sv.cellAt (j := 1) hi rfl
 have x2 := sv.cellAt (j := 2) hi rfl
 simp only [lPage, Nat.zero_add, Nat.add_zero] at x0 x1 x2
 exact ⟨x0, x1, x2⟩
theorem Lay.flat_set3 : ∀ (L : List Pg) (i : Nat) (p q : Pg) (u0 u1 u2 : Value), L[i]? = some p → pgEnc q = [u0, u1, u2] → lPage.flat (L.set i q) = (((lPage.flat L).set (i * 3) u0).set (i * 3 + 1) u1).set (i * 3 + 2) u2
 | [], _, _, _, _, _, _, h, _ => by simp at h
 | z :: L, 0, p, q, u0, u1, u2, h, he => by
  have e : lPage.enc q = [u0, u1, u2] := he
  have ez : ∃ a b c, lPage.enc z = [a, b, c] := by
   cases z with
   | none => exact ⟨_, _, _, rfl⟩
   | some r => exact ⟨_, _, _, rfl⟩
  obtain ⟨a, b, c, ez⟩ := ez
  simp only [List.set_cons_zero, Lay.flat, e, ez, Nat.zero_mul, Nat.zero_add, List.cons_append, List.nil_append, List.set_cons_succ]
 | z :: L, i + 1, p, q, u0, u1, u2, h, he => by
  have ih := Lay.flat_set3 L i p q u0 u1 u2 (by simpa using h) he
  have ez : ∃ a b c, lPage.enc z = [a, b, c] := by
   cases z with
   | none => exact ⟨_, _, _, rfl⟩
   | some r => exact ⟨_, _, _, rfl⟩
  obtain ⟨a, b, c, ez⟩ := ez
  simp only [List.set_cons_succ, Lay.flat, ih, ez, List.cons_append, List.nil_append]
  rw [show (i + 1) * 3 = i * 3 + 3 by omega, show i * 3 + 3 + 1 = (i * 3 + 1) + 3 by omega, show i * 3 + 3 + 2 = (i * 3 + 2) + 3 by omega]
  simp only [List.set_cons_succ]
theorem TabAt.set {w : World} {ab pb n i : Nat} {L : List Pg} (h : TabAt w ab pb n L) {p q : Pg} (hi : L[i]? = some p) {u0 u1 u2 : Value} (hq : pgEnc q = [u0, u1, u2]) :
  TabAt (((w.setCell ⟨pb, i * 3, none⟩ u0).setCell ⟨pb, i * 3 + 1, none⟩ u1).setCell ⟨pb, i * 3 + 2, none⟩ u2) ab pb n (L.set i q) := by
 obtain rfl := h.len
 have e0 := h.own
 unfold OwnS at e0
 have e1 := (World.ownsRow.stored e0 (i * 3) u0).1
 have e2 := (World.ownsRow.stored e1 (i * 3 + 1) u1).1
 have e3 := (World.ownsRow.stored e2 (i * 3 + 2) u2).1
 have hne := h.ne
 refine ⟨by rw [List.length_set], h.lo, h.hi, blk_off (blk_off (blk_off h.blkA hne _ _) hne _ _) hne _ _, ?_⟩
 unfold OwnS
 rw [Lay.flat_set3 L i p q u0 u1 u2 hi hq, List.length_set]
 exact e3
theorem TabAt.head {w : World} {ab pb n i : Nat} {L : List Pg} (h : TabAt w ab pb n L) {r : Rf} (hi : L[i]? = some (some r)) (x y : Int) :
  TabAt ((w.setCell ⟨pb, i * 3 + 1, none⟩ (.int .i64 x)).setCell ⟨pb, i * 3 + 2, none⟩ (.int .i64 y)) ab pb n (L.set i (some (x, y))) := by
 have hne := h.ne
 have hlt : i < L.length := (List.getElem?_eq_some_iff.1 hi).1
 have s1 := h.own.set (y := some (x, r.2)) (u := .int .i64 x) hi (j := 1) (by decide) rfl
 have s2 := s1.set (x := some (x, r.2)) (y := some (x, y)) (u := .int .i64 y) (i := i) (by simp [hlt]) (j := 2) (by decide) rfl
 rw [List.set_set] at s2
 exact ⟨by rw [List.length_set]; exact h.len, h.lo, h.hi, blk_off (blk_off h.blkA hne _ _) hne _ _, s2⟩
open Go.RowKit
theorem mp_free_any (w : World) (u : Bool) (x y : Int) (p : Pg) (hp : pgEnc p = [.bool u, .int .i64 x, .int .i64 y]) :
  Calls Tryz.prog 99 #[.agg #[.bool u, .int .i64 x, .int .i64 y]] w fun ev w' => ev = .returned (.bool p.isNone) ∧ Below w.heap.size w w' := by
 have B := Lib.hid (alloc_below0 w (.cells #[.bool u, .int .i64 x, .int .i64 y] 197))
 cases p with
 | none =>
  simp only [pgEnc, List.cons.injEq, Value.bool.injEq, Value.int.injEq, true_and, and_true] at hp
  obtain ⟨rfl, rfl, rfl⟩ := hp
  go_enter Tryz.func99, Tryz.ntmps99
  go_wp2
  go_ret
  exact ⟨rfl, B.out⟩
 | some r =>
  simp only [pgEnc, List.cons.injEq, Value.bool.injEq, Value.int.injEq, true_and, and_true] at hp
  obtain ⟨rfl, rfl, rfl⟩ := hp
  go_enter Tryz.func99, Tryz.ntmps99
  go_wp2
  go_ret
  exact ⟨rfl, B.out⟩
theorem mp_find_out (w : World) (ab pb n : Nat) (L : List Pg) (x : Int) (h : TabAt w ab pb n L) (hx : x < 0 ∨ (n : Int) ≤ x) :
  Calls Tryz.prog 97 #[.pointer (some ⟨ab, 0, none⟩), .int .i64 x] w fun ev w' => ev = .returned (.tuple #[.pointer none, .iface 65 (.int .i64 1)]) ∧ Below w.heap.size w w' := by
 have c0 := h.a0
 have B := Lib.hid (Below.refl w.heap.size w)
 clear h
 by_cases h1 : x < 0
 ·clear hx
  go_enter Tryz.func97, Tryz.ntmps97
  go_wp2
  go_ret2
  exact ⟨rfl, B.out⟩
 ·have h2 : (n : Int) ≤ x := by omega
  clear hx
  go_enter Tryz.func97, Tryz.ntmps97
  go_wp2
  go_ret2
  exact ⟨rfl, B.out⟩
theorem mp_find_free (w : World) (ab pb n i : Nat) (L : List Pg) (h : TabAt w ab pb n L) (hi : L[i]? = some none) :
  Calls Tryz.prog 97 #[.pointer (some ⟨ab, 0, none⟩), .int .i64 (i : Int)] w fun ev w' => ev = .returned (.tuple #[.pointer none, .iface 65 (.int .i64 6)]) ∧ Below w.heap.size w w' := by
 have c0 := h.a0
 have P := h.pnone hi
 have hlt : i < n := h.len ▸ (List.getElem?_eq_some_iff.1 hi).1
 have x0 := P.c0
 have x1 := P.c1
 have x2 := P.c2
 have B := Lib.hid (alloc_below0 w (.cells #[.bool false, .int .i64 0, .int .i64 0] 197))
 have j1 : ¬ (i : Int) < 0 := by omega
 have j2 : ¬ (n : Int) ≤ (i : Int) := by omega
 have j3 : (0 : Int) ≤ (i : Int) := by omega
 have j4 : (i : Int) < (n : Int) := by omega
 clear h P hi hlt
 go_enter Tryz.func97, Tryz.ntmps97
 go_wp2
 go_ret2
 exact ⟨rfl, B.out⟩
theorem mp_find_hit (w : World) (ab pb n i : Nat) (L : List Pg) (r : Rf) (h : TabAt w ab pb n L) (hi : L[i]? = some (some r)) :
  Calls Tryz.prog 97 #[.pointer (some ⟨ab, 0, none⟩), .int .i64 (i : Int)] w fun ev w' => ev = .returned (.tuple #[.pointer (some ⟨pb, i * 3, none⟩), .nilIface]) ∧ Below w.heap.size w w' := by
 have c0 := h.a0
 have P := h.psome hi
 have hlt : i < n := h.len ▸ (List.getElem?_eq_some_iff.1 hi).1
 obtain ⟨x, y⟩ := r
 have x0 := P.c0
 have x1 := P.c1
 have x2 := P.c2
 simp only at x1 x2
 have c1 := cell_step c0 (alloc_below0 w (.cells #[.bool true, .int .i64 x, .int .i64 y] 197))
 have B := Lib.hid (alloc_below0 w (.cells #[.bool true, .int .i64 x, .int .i64 y] 197))
 have j1 : ¬ (i : Int) < 0 := by omega
 have j2 : ¬ (n : Int) ≤ (i : Int) := by omega
 have j3 : (0 : Int) ≤ (i : Int) := by omega
 have j4 : (i : Int) < (n : Int) := by omega
 clear h P hi hlt
 go_enter Tryz.func97, Tryz.ntmps97
 go_wp2
 go_ret2
 exact ⟨rfl, B.out⟩
theorem mp_find_cases {w : World} {ab pb n : Nat} {L : List Pg} (h : TabAt w ab pb n L) (x : Int) :
  (∃ (i : Nat) (r : Rf), x = i ∧ i < n ∧ L[i]? = some (some r) ∧ codeT L x = 0 ∧ headT L x = r ∧ Calls Tryz.prog 97 #[.pointer (some ⟨ab, 0, none⟩), .int .i64 x] w fun ev w' => ev = .returned (.tuple #[.pointer (some ⟨pb, i * 3, none⟩), .nilIface]) ∧ Below w.heap.size w w')
  ∨ (∃ e : Int, (e = 1 ∨ e = 6) ∧ codeT L x = e ∧ Calls Tryz.prog 97 #[.pointer (some ⟨ab, 0, none⟩), .int .i64 x] w fun ev w' => ev = .returned (.tuple #[.pointer none, .iface 65 (.int .i64 e)]) ∧ Below w.heap.size w w') := by
 rcases page_cases L x with ⟨hc, hx⟩ | ⟨i, rfl, hg, hc⟩ | ⟨i, r, rfl, hg, hc, hh⟩
 ·exact .inr ⟨1, .inl rfl, hc, mp_find_out w ab pb n L x h (h.len ▸ hx)⟩
 ·exact .inr ⟨6, .inr rfl, hc, mp_find_free w ab pb n i L h hg⟩
 ·exact .inl ⟨i, r, rfl, h.len ▸ (List.getElem?_eq_some_iff.1 hg).1, hg, hc, hh, mp_find_hit w ab pb n i L r h hg⟩
open Go.RowKit
theorem give_any (w : World) (ab pb n : Nat) (L : List Pg) (x : Int) (h : TabAt w ab pb n L) :
  Calls Tryz.prog 85 #[.pointer (some ⟨ab, 0, none⟩), .int .i64 x] w fun ev w' => ev = .returned (errV (codeT L x)) ∧ TabAt w' ab pb n (giveL L x) ∧ Kept (fun k => k = pb) w w' := by
 have I := Lib.hid h
 rcases mp_find_cases h x with ⟨i, r, rfl, hi, hg, hc, -, hf⟩ | ⟨e, he, hc, hf⟩
 ·have G := Lib.hid hg
  have HC := Lib.hid (show giveL L i = L.set i none by unfold giveL; rw [if_pos hc]; rfl)
  rw [hc, HC.out]
  clear h hg hc
  go_enter Tryz.func85, Tryz.ntmps85
  go_wp2_with fail
  refine hf.mono ?_
  rintro ev w1 ⟨rfl, hs⟩
  have I1 := Lib.hid (I.out.low hs)
  have B := Lib.hid hs
  have f0 := I1.out.own.free (i * 3)
  have f1 := I1.out.own.free (i * 3 + 1)
  have f2 := I1.out.own.free (i * 3 + 2)
  have x0 := (I1.out.psome G.out).c0
  have x1 := (I1.out.psome G.out).c1
  have x2 := (I1.out.psome G.out).c2
  clear hs hf
  go_wp2
  go_ret
  exact ⟨rfl, I1.out.set G.out rfl, ((((Kept.of_below (S := fun k => k = pb) B.out).setCell _ _).setCell _ _).setCell _ _)⟩
 ·have HC := Lib.hid (show giveL L x = L by unfold giveL; rw [if_neg (by rw [hc]; rcases he with rfl | rfl <;> decide)])
  have HE := Lib.hid (show errV e = .iface 65 (.int .i64 e) by rcases he with rfl | rfl <;> rfl)
  rw [hc, HC.out]
  clear h hc he
  go_enter Tryz.func85, Tryz.ntmps85
  go_wp2_with fail
  refine hf.mono ?_
  rintro ev w1 ⟨rfl, hs⟩
  have I1 := Lib.hid (I.out.low hs)
  have B := Lib.hid hs
  clear hs hf
  go_wp2
  go_ret
  exact ⟨by rw [HE.out]; rfl, I1.out, Kept.of_below B.out⟩
theorem rng2 {w : World} {b : Nat} {T : TypeId} {u0 u1 : Value} (h : w.heap[b]? = some (.cells #[u0, u1] T (0, 0))) : w.rangeAt b 0 [u0, u1] := fun j u hj => by
 rw [Nat.zero_add, blk_cell h, ← hj, ← Array.getElem?_toList]
theorem head_any (w : World) (ab pb n : Nat) (L : List Pg) (x : Int) (h : TabAt w ab pb n L) :
  Calls Tryz.prog 65 #[.pointer (some ⟨ab, 0, none⟩), .int .i64 x] w fun ev w' => ev = .returned (.tuple #[refV (headT L x).1 (headT L x).2, errV (codeT L x)]) ∧ Below w.heap.size w w' := by
 have B0 := Lib.hid (alloc_below0 w (.cells #[.int .i64 0, .int .i64 0] 48))
 have K0 := Lib.hid (blk_new w (.cells #[.int .i64 0, .int .i64 0] 48))
 have I := Lib.hid (h.low B0.out)
 rcases mp_find_cases I.out x with ⟨i, r, rfl, hi, hg, hc, hh, hf⟩ | ⟨e, he, hc, hf⟩
 ·have G := Lib.hid hg
  rw [hc, hh]
  obtain ⟨s, g⟩ := r
  clear h hg hc hh
  go_enter Tryz.func65, Tryz.ntmps65
  go_wp2_with fail
  refine hf.mono ?_
  rintro ev w1 ⟨rfl, hs⟩
  have I1 := Lib.hid (I.out.low hs)
  have B := Lib.hid (B0.out.trans (hs.mono B0.out.size))
  have K1 := Lib.hid (blk_step K0.out hs)
  have x1 := (I1.out.psome G.out).c1
  have x2 := (I1.out.psome G.out).c2
  obtain ⟨q0, q1, q2, q3, q4⟩ := two_facts K1.out (.int .i64 s) (.int .i64 g)
  have Q4 := Lib.hid q4
  simp only at x1 x2
  clear hs hf q4
  go_wp2
  refine bodyPost_ret (v := .tuple #[.agg #[.int .i64 s, .int .i64 g], .nilIface]) (results_cellT rfl _ _ w.heap.size [.int .i64 s, .int .i64 g] _ .nilIface rfl rfl (rng2 Q4.out) Tryz.underlying48 rfl (by kernel_rfl)) rfl ⟨rfl, below_set (below_set B.out (Nat.le_refl _) _ _) (Nat.le_refl _) _ _⟩
 ·have HE := Lib.hid (show errV e = .iface 65 (.int .i64 e) by rcases he with rfl | rfl <;> rfl)
  rw [hc, headT_none (by rw [hc]; rcases he with rfl | rfl <;> decide)]
  clear h hc he
  go_enter Tryz.func65, Tryz.ntmps65
  go_wp2_with fail
  refine hf.mono ?_
  rintro ev w1 ⟨rfl, hs⟩
  have B := Lib.hid (B0.out.trans (hs.mono B0.out.size))
  have K1 := Lib.hid (blk_step K0.out hs)
  obtain ⟨q0, q1, q2, q3, q4⟩ := two_facts K1.out (.int .i64 0) (.int .i64 0)
  have Q4 := Lib.hid q4
  clear hs hf q4
  go_wp2
  refine bodyPost_ret (v := .tuple #[.agg #[.int .i64 0, .int .i64 0], .iface 65 (.int .i64 e)]) (results_cellT rfl _ _ w.heap.size [.int .i64 0, .int .i64 0] _ (.iface 65 (.int .i64 e)) rfl rfl (rng2 Q4.out) Tryz.underlying48 rfl (by kernel_rfl)) rfl ⟨by rw [HE.out]; rfl, below_set (below_set B.out (Nat.le_refl _) _ _) (Nat.le_refl _) _ _⟩
theorem swap_any (w : World) (ab pb n : Nat) (L : List Pg) (x os og ns ng : Int) (h : TabAt w ab pb n L) :
  Calls Tryz.prog 71 #[.pointer (some ⟨ab, 0, none⟩), .int .i64 x, refV os og, refV ns ng] w fun ev w' => ev = .returned (.tuple #[.bool (swapB L x (os, og)), errV (codeT L x)]) ∧ TabAt w' ab pb n (swapL L x (os, og) (ns, ng)) ∧ Kept (fun k => k = pb) w w' := by
 obtain ⟨W, hW⟩ : ∃ W, W = (w.alloc (.cells #[.int .i64 os, .int .i64 og] 48)).alloc (.cells #[.int .i64 ns, .int .i64 ng] 48) := ⟨_, rfl⟩
 have z1 : (w.alloc (.cells #[.int .i64 os, .int .i64 og] 48)).heap.size = w.heap.size + 1 := by simp
 have b1 := alloc_below0 w (.cells #[.int .i64 os, .int .i64 og] 48)
 have b2 := alloc_below0 (w.alloc (.cells #[.int .i64 os, .int .i64 og] 48)) (.cells #[.int .i64 ns, .int .i64 ng] 48)
 have B0 := Lib.hid (show Below w.heap.size w W by rw [hW]; exact b1.trans (b2.mono b1.size))
 have K0 := Lib.hid (show W.heap[w.heap.size]? = some (.cells #[.int .i64 os, .int .i64 og] 48 (0, 0)) by rw [hW]; exact blk_step (blk_new w _) b2)
 have K1 := Lib.hid (show W.heap[w.heap.size + 1]? = some (.cells #[.int .i64 ns, .int .i64 ng] 48 (0, 0)) by rw [hW, ← z1]; exact blk_new _ _)
 have I := Lib.hid (h.low B0.out)
 clear b1 b2 z1 h
 unfold refV
 rcases mp_find_cases I.out x with ⟨i, r, rfl, hi, hg, hc, hh, hf⟩ | ⟨e, he, hc, hf⟩
 ·have G := Lib.hid hg
  obtain ⟨s, g⟩ := r
  by_cases e1 : s = os
  ·by_cases e2 : g = og
   ·subst e1; subst e2
    have HL := Lib.hid (show swapL L i (s, g) (ns, ng) = L.set i (some (ns, ng)) by unfold swapL swapB; rw [hc, hh]; simp)
    have HB := Lib.hid (show swapB L i (s, g) = true by unfold swapB; rw [hc, hh]; simp)
    have e1 : (s == s) = true := by simp
    have e2 : (g == g) = true := by simp
    rw [hc, HL.out, HB.out]
    clear hg hc hh
    go_enter Tryz.func71, Tryz.ntmps71
    go_wp2_with fail
    rw [← hW]
    refine hf.mono ?_
    rintro ev w1 ⟨rfl, hs⟩
    have I1 := Lib.hid (I.out.low hs)
    have B := Lib.hid (B0.out.trans (hs.mono B0.out.size))
    have x1 := (I1.out.psome G.out).c1
    have x2 := (I1.out.psome G.out).c2
    have o1 : w1.cell? ⟨w.heap.size, 0, none⟩ = some (.int .i64 s) := blk_cell (blk_step K0.out hs) 0
    have o2 : w1.cell? ⟨w.heap.size, 1, none⟩ = some (.int .i64 g) := blk_cell (blk_step K0.out hs) 1
    have p1 : w1.cell? ⟨w.heap.size + 1, 0, none⟩ = some (.int .i64 ns) := blk_cell (blk_step K1.out hs) 0
    have p2 : w1.cell? ⟨w.heap.size + 1, 1, none⟩ = some (.int .i64 ng) := blk_cell (blk_step K1.out hs) 1
    have f1 := I1.out.own.free (i * 3 + 1)
    have f2 := I1.out.own.free (i * 3 + 2)
    simp only at x1 x2
    clear hs hf hW
    go_wp2
    go_quiet (fail)
    go_wp2
    go_ret2
    exact ⟨rfl, (I1.out.low (below_drewN (Below.refl _ _) _)).head G.out ns ng, ((Kept.of_below (S := fun k => k = pb) (below_drewN B.out _)).setCell _ _).setCell _ _⟩
   ·subst e1
    have HB := Lib.hid (show swapB L i (s, og) = false by unfold swapB; rw [hc, hh]; simp [e2])
    have HL := Lib.hid (show swapL L i (s, og) (ns, ng) = L by unfold swapL; rw [HB.out]; rfl)
    have e1 : (s == s) = true := by simp
    have e3 : (g == og) = false := by simp [e2]
    rw [hc, HL.out, HB.out]
    clear hg hc hh
    go_enter Tryz.func71, Tryz.ntmps71
    go_wp2_with fail
    rw [← hW]
    refine hf.mono ?_
    rintro ev w1 ⟨rfl, hs⟩
    have I1 := Lib.hid (I.out.low hs)
    have B := Lib.hid (B0.out.trans (hs.mono B0.out.size))
    have x1 := (I1.out.psome G.out).c1
    have x2 := (I1.out.psome G.out).c2
    have o1 : w1.cell? ⟨w.heap.size, 0, none⟩ = some (.int .i64 s) := blk_cell (blk_step K0.out hs) 0
    have o2 : w1.cell? ⟨w.heap.size, 1, none⟩ = some (.int .i64 og) := blk_cell (blk_step K0.out hs) 1
    have p1 : w1.cell? ⟨w.heap.size + 1, 0, none⟩ = some (.int .i64 ns) := blk_cell (blk_step K1.out hs) 0
    have p2 : w1.cell? ⟨w.heap.size + 1, 1, none⟩ = some (.int .i64 ng) := blk_cell (blk_step K1.out hs) 1
    have f1 := I1.out.own.free (i * 3 + 1)
    have f2 := I1.out.own.free (i * 3 + 2)
    simp only at x1 x2
    clear hs hf hW
    go_wp2
    go_quiet (fail)
    go_wp2
    go_ret2
    exact ⟨rfl, I1.out.low (below_drewN (Below.refl _ _) _), Kept.of_below (below_drewN B.out _)⟩
  ·have HB := Lib.hid (show swapB L i (os, og) = false by unfold swapB; rw [hc, hh]; simp [e1])
   have HL := Lib.hid (show swapL L i (os, og) (ns, ng) = L by unfold swapL; rw [HB.out]; rfl)
   have e3 : (s == os) = false := by simp [e1]
   rw [hc, HL.out, HB.out]
   clear hg hc hh
   go_enter Tryz.func71, Tryz.ntmps71
   go_wp2_with fail
   rw [← hW]
   refine hf.mono ?_
   rintro ev w1 ⟨rfl, hs⟩
   have I1 := Lib.hid (I.out.low hs)
   have B := Lib.hid (B0.out.trans (hs.mono B0.out.size))
   have x1 := (I1.out.psome G.out).c1
   have x2 := (I1.out.psome G.out).c2
   have o1 : w1.cell? ⟨w.heap.size, 0, none⟩ = some (.int .i64 os) := blk_cell (blk_step K0.out hs) 0
   have o2 : w1.cell? ⟨w.heap.size, 1, none⟩ = some (.int .i64 og) := blk_cell (blk_step K0.out hs) 1
   have p1 : w1.cell? ⟨w.heap.size + 1, 0, none⟩ = some (.int .i64 ns) := blk_cell (blk_step K1.out hs) 0
   have p2 : w1.cell? ⟨w.heap.size + 1, 1, none⟩ = some (.int .i64 ng) := blk_cell (blk_step K1.out hs) 1
   have f1 := I1.out.own.free (i * 3 + 1)
   have f2 := I1.out.own.free (i * 3 + 2)
   simp only at x1 x2
   clear hs hf hW
   go_wp2
   go_quiet (fail)
   go_wp2
   go_ret2
   exact ⟨rfl, I1.out.low (below_drewN (Below.refl _ _) _), Kept.of_below (below_drewN B.out _)⟩
 ·have HB := Lib.hid (show swapB L x (os, og) = false by unfold swapB; rw [hc]; rcases he with rfl | rfl <;> rfl)
  have HL := Lib.hid (show swapL L x (os, og) (ns, ng) = L by unfold swapL; rw [HB.out]; rfl)
  have HE := Lib.hid (show errV e = .iface 65 (.int .i64 e) by rcases he with rfl | rfl <;> rfl)
  rw [hc, HL.out, HB.out]
  clear hc he
  go_enter Tryz.func71, Tryz.ntmps71
  go_wp2_with fail
  rw [← hW]
  refine hf.mono ?_
  rintro ev w1 ⟨rfl, hs⟩
  have I1 := Lib.hid (I.out.low hs)
  have B := Lib.hid (B0.out.trans (hs.mono B0.out.size))
  clear hs hf hW
  go_wp2
  go_quiet (fail)
  go_wp2
  go_ret2
  exact ⟨by rw [HE.out]; rfl, I1.out.low (below_drewN (Below.refl _ _) _), Kept.of_below (below_drewN B.out _)⟩
end Go.Proofs.YtejmdmaebkdjoaaGreatDoor
