/- Writing into slices of a call's own: one element after the other. -/
import Derived.Test.YtaiaaljahnackaaMm
import Derived.Test.YtaiaaljahnackaaArFault
namespace Go.Proofs.Ytaiaaljahnackaa
open Go.RowKit

/-- a record that was put: its slot, its generation, what it reads as, and is it still there? -/
structure Pt where
  slot : Nat
  gen : Nat
  rcd : RecD
  live : Bool
/-- a slot's generation, and is it used? -/
def slotOf (ps : List Pt) (n : Nat) : Nat × Bool := ps.foldl (fun s p => if p.slot = n then (p.gen, p.live) else s) (0, false)
def allocGo (l : Nat) (ps : List Pt) : Nat → Nat → Int → Nat × Nat × Int
  | 0, _, e => (0, 0, e)
  | f + 1, n, e => if (slotOf ps n).2 then allocGo l ps f (n + 1) e else if (slotOf ps n).1 < l then (n, (slotOf ps n).1 + 1, 0) else allocGo l ps f (n + 1) 5
/-- slot, generation and code of what is put next -/
def allocM (n l : Nat) (ps : List Pt) : Nat × Nat × Int := allocGo l ps n 1 3
def putM (n l : Nat) (ps : List Pt) (d : RecD) : List Pt := if (allocM n l ps).2.2 = 0 then ps ++ [⟨(allocM n l ps).1, (allocM n l ps).2.1, d, true⟩] else ps
def isAt (x y : Int) (p : Pt) : Bool := (p.slot : Int) == x && (p.gen : Int) == y && p.live
def findM (ps : List Pt) (x y : Int) : Option Nat := ps.findIdx? (isAt x y)
def codeM (n : Nat) (ps : List Pt) (x y : Int) : Int := if x < 1 ∨ (n : Int) < x then 1 else if (findM ps x y).isNone then 4 else 0
def loadM (n : Nat) (ps : List Pt) (x y : Int) : RecD := if codeM n ps x y = 0 then (match (findM ps x y).bind (ps[·]?) with | some p => p.rcd | none => RecD.zero) else RecD.zero
def freeM (n : Nat) (ps : List Pt) (x y : Int) : List Pt := if codeM n ps x y = 0 then (match findM ps x y with | some i => ps.modify i (fun p => { p with live := false }) | none => ps) else ps
def liveM (n : Nat) (ps : List Pt) : List Rf := ((List.range n).filter fun i => (slotOf ps (i + 1)).2).map fun i => (((i + 1 : Nat) : Int), ((slotOf ps (i + 1)).1 : Int))
def leftM (n l : Nat) (ps : List Pt) : Nat := ((List.range n).filter fun i => !(slotOf ps (i + 1)).2 && decide ((slotOf ps (i + 1)).1 < l)).length
def okN (n l : Int) : Bool := decide (1 ≤ n) && decide (n ≤ 4096) && decide (1 ≤ l) && decide (l ≤ 1099511627776)
structure ArC where
  Inv : World → Addr → (Nat → Prop) → Nat → Nat → List Pt → Prop
  keep : ∀ {w w' : World} {a : Addr} {S : Nat → Prop} {n l : Nat} {ps : List Pt}, Inv w a S n l ps → Kept (fun k => ¬ S k) w w' → Inv w' a S n l ps
  foot : ∀ {w : World} {a : Addr} {S : Nat → Prop} {n l : Nat} {ps : List Pt}, Inv w a S n l ps → ∀ k, S k → k < w.heap.size
  new : ∀ (n l : Nat) (w : World), okN n l = true → Calls Try.prog 26 #[.int .i64 (n : Int), .int .i64 (l : Int)] w fun ev w' => ∃ a S, ev = .returned (.pointer (some a)) ∧ Inv w' a S n l [] ∧ (∀ k, S k → w.heap.size ≤ k) ∧ Below w.heap.size w w'
  newNo : ∀ (n l : Int) (w : World), okN n l = false → Calls Try.prog 26 #[.int .i64 n, .int .i64 l] w fun ev w' => ev = .returned (.pointer none) ∧ Below w.heap.size w w'
  alloc : ∀ (a : Addr) (v : Value) (S : Nat → Prop) (n l : Nat) (ps : List Pt) (d : RecD) (w : World), Inv w a S n l ps → RecV w v d → d.rows.length ≤ 1000 → d.ents.length ≤ 1000 →
    Calls Try.prog 52 #[.pointer (some a), v] w fun ev w' => ∃ S', ev = .returned (.tuple #[refV ((allocM n l ps).1 : Int) ((allocM n l ps).2.1 : Int), errV (allocM n l ps).2.2]) ∧ Inv w' a S' n l (putM n l ps d) ∧ Kept S w w' ∧ (∀ k, S' k → S k ∨ w.heap.size ≤ k)
  load : ∀ (a : Addr) (S : Nat → Prop) (n l : Nat) (ps : List Pt) (x y : Int) (w : World), Inv w a S n l ps →
    Calls Try.prog 46 #[.pointer (some a), refV x y] w fun ev w' => ∃ rv en, ev = .returned (.tuple #[recVal (loadM n ps x y).sc rv en, errV (codeM n ps x y)]) ∧ OwnS lRow w.heap.size w' rv (loadM n ps x y).rows ∧ OwnS lEnt w.heap.size w' en (loadM n ps x y).ents ∧ Below w.heap.size w w'
  free : ∀ (a : Addr) (S : Nat → Prop) (n l : Nat) (ps : List Pt) (x y : Int) (w : World), Inv w a S n l ps →
    Calls Try.prog 64 #[.pointer (some a), refV x y] w fun ev w' => ∃ S', ev = .returned (errV (codeM n ps x y)) ∧ Inv w' a S' n l (freeM n ps x y) ∧ Kept S w w' ∧ (∀ k, S' k → S k ∨ w.heap.size ≤ k)
  live : ∀ (a : Addr) (S : Nat → Prop) (n l : Nat) (ps : List Pt) (w : World), Inv w a S n l ps →
    Calls Try.prog 48 #[.pointer (some a)] w fun ev w' => ∃ v', ev = .returned v' ∧ OwnS lRef w.heap.size w' v' (liveM n ps) ∧ Below w.heap.size w w'
  clone : ∀ (v : Value) (d : RecD) (w : World), RecV w v d → d.rows.length ≤ 1000 → d.ents.length ≤ 1000 →
    Calls Try.prog 36 #[v] w fun ev w' => ∃ rv en, ev = .returned (recVal d.sc rv en) ∧ OwnS lRow w.heap.size w' rv d.rows ∧ OwnS lEnt w.heap.size w' en d.ents ∧ Below w.heap.size w w'
  allocNil : ∀ (v : Value) (d : RecD) (w : World), RecV w v d → d.rows.length ≤ 1000 → d.ents.length ≤ 1000 → Calls Try.prog 52 #[.pointer none, v] w fun ev w' => ev = .returned (.tuple #[refV 0 0, .iface 72 (.int .i64 1)]) ∧ Below w.heap.size w w'
  loadNil : ∀ (x y : Int) (w : World), Calls Try.prog 46 #[.pointer none, refV x y] w fun ev w' => ∃ rv en, ev = .returned (.tuple #[recVal Sc.zero rv en, .iface 72 (.int .i64 1)]) ∧ SV lRow w' rv [] ∧ SV lEnt w' en [] ∧ Below w.heap.size w w'
  freeNil : ∀ (x y : Int) (w : World), Calls Try.prog 64 #[.pointer none, refV x y] w fun ev w' => ev = .returned (.iface 72 (.int .i64 1)) ∧ Below w.heap.size w w'
  liveNil : ∀ (w : World), Calls Try.prog 48 #[.pointer none] w fun ev w' => ∃ v', ev = .returned v' ∧ SV lRef w' v' [] ∧ Below w.heap.size w w'
theorem ArC.step (C : ArC) {w w' : World} {a : Addr} {S : Nat → Prop} {n l : Nat} {ps : List Pt} (h : C.Inv w a S n l ps) (hb : Below w.heap.size w w') : C.Inv w' a S n l ps :=
  C.keep h ⟨hb.os, hb.tape, hb.output, hb.size, fun k hk _ => hb.block k hk⟩

/-! ### awake -/
def rec1 (k : Int) : RecD := ⟨{ Sc.zero with kind := k }, [], []⟩
def rec1V (k : Int) : Value := recVal { Sc.zero with kind := k } (.slice none 0 0) (.slice none 0 0)
theorem rec1_reads (k : Int) (w : World) : RecV w (rec1V k) (rec1 k) := ⟨_, _, rfl, SV.nil _ _, SV.nil _ _⟩
def ps1 : List Pt := [⟨1, 1, rec1 1, true⟩]
def ps2 : List Pt := [⟨1, 1, rec1 1, false⟩]
def ps3 : List Pt := [⟨1, 1, rec1 1, false⟩, ⟨1, 2, rec1 2, true⟩]
theorem a1 : allocM 2 9 [] = (1, 1, 0) := by decide
theorem a2 : putM 2 9 [] (rec1 1) = ps1 := by unfold putM; rw [a1]; rfl
theorem a3 : codeM 2 ps1 1 1 = 0 := by decide
theorem a4 : freeM 2 ps1 1 1 = ps2 := by unfold freeM; rw [a3]; rfl
theorem a5 : allocM 2 9 ps2 = (1, 2, 0) := by decide
theorem a6 : putM 2 9 ps2 (rec1 2) = ps3 := by unfold putM; rw [a5]; rfl
theorem a7 : codeM 2 ps3 1 1 = 4 := by decide
/-- behind a call that changes an arena: what began the law is as it was -/
theorem mut_step {n0 : Nat} {w0 w1 w2 : World} {S S2 : Nat → Prop} (G : ∀ k, S k → n0 ≤ k) (B : Below n0 w0 w1) (hn : n0 ≤ w1.heap.size) (hk : Kept S w1 w2) (hS : ∀ k, S2 k → S k ∨ w1.heap.size ≤ k) :
    Below n0 w0 w2 ∧ (∀ k, S2 k → n0 ≤ k) ∧ n0 ≤ w2.heap.size :=
  ⟨B.trans (hk.below G hn), fun k h => (hS k h).elim (G k) (fun h => Nat.le_trans hn h), Nat.le_trans hn hk.size⟩
theorem off_step {w1 : World} {S S2 : Nat → Prop} {b : Nat} (hb : ¬ S b) (hlt : b < w1.heap.size) (hS : ∀ k, S2 k → S k ∨ w1.heap.size ≤ k) : ¬ S2 b := fun h => (hS b h).elim hb (fun h => Nat.lt_irrefl b (Nat.lt_of_lt_of_le hlt h))
theorem fullE (e : Int) (h : e = 0) : errV e = .nilIface := by unfold errV; rw [if_pos h]
theorem alloc_at (C : ArC) (a : Addr) (v : Value) (S : Nat → Prop) (n l : Nat) (ps : List Pt) (d : RecD) (i g : Nat) (qs : List Pt) (w : World) (h : C.Inv w a S n l ps) (hv : RecV w v d) (h1 : d.rows.length ≤ 1000) (h2 : d.ents.length ≤ 1000) (ha : allocM n l ps = (i, g, 0)) (hq : putM n l ps d = qs) :
    Calls Try.prog 52 #[.pointer (some a), v] w fun ev w' => ∃ S', ev = .returned (.tuple #[.agg #[.int .i64 (i : Int), .int .i64 (g : Int)], .nilIface]) ∧ C.Inv w' a S' n l qs ∧ Kept S w w' ∧ (∀ k, S' k → S k ∨ w.heap.size ≤ k) := by
  have e := C.alloc a v S n l ps d w h hv h1 h2
  rw [ha, hq] at e
  exact e
open Go.RowKit

def ar_doVal (verb : Int) (s : Sc) (rv en : Value) (x y : Int) (last : Bool) (nn : Int) : Value := .agg #[.int .i64 verb, .int .i64 s.kind, .string s.low, .string s.high, .bool s.unb, .int .i64 s.right, rv, en, .string s.key, .string s.value, .int .i64 s.page, .int .i64 s.hp, .int .i64 s.hl, .string s.hk, .int .i64 s.ns, .int .i64 s.ng, .int .i64 x, .int .i64 y, .bool last, .int .u8 nn]
structure DB (n : Nat) (verb : Int) (s : Sc) (rv en : Value) (x y : Int) (last : Bool) (nn : Int) (w : World) : Prop where
  c0 : w.cell? ⟨n, 0, none⟩ = some (.int .i64 verb)
  c1 : w.cell? ⟨n, 1, none⟩ = some (.int .i64 s.kind)
  c2 : w.cell? ⟨n, 2, none⟩ = some (.string s.low)
  c3 : w.cell? ⟨n, 3, none⟩ = some (.string s.high)
  c4 : w.cell? ⟨n, 4, none⟩ = some (.bool s.unb)
  c5 : w.cell? ⟨n, 5, none⟩ = some (.int .i64 s.right)
  c6 : w.cell? ⟨n, 6, none⟩ = some rv
  c7 : w.cell? ⟨n, 7, none⟩ = some en
  c8 : w.cell? ⟨n, 8, none⟩ = some (.string s.key)
  c9 : w.cell? ⟨n, 9, none⟩ = some (.string s.value)
  c10 : w.cell? ⟨n, 10, none⟩ = some (.int .i64 s.page)
  c11 : w.cell? ⟨n, 11, none⟩ = some (.int .i64 s.hp)
  c12 : w.cell? ⟨n, 12, none⟩ = some (.int .i64 s.hl)
  c13 : w.cell? ⟨n, 13, none⟩ = some (.string s.hk)
  c14 : w.cell? ⟨n, 14, none⟩ = some (.int .i64 s.ns)
  c15 : w.cell? ⟨n, 15, none⟩ = some (.int .i64 s.ng)
  c16 : w.cell? ⟨n, 16, none⟩ = some (.int .i64 x)
  c17 : w.cell? ⟨n, 17, none⟩ = some (.int .i64 y)
  c18 : w.cell? ⟨n, 18, none⟩ = some (.bool last)
  c19 : w.cell? ⟨n, 19, none⟩ = some (.int .u8 nn)
theorem DB.step {n : Nat} {verb : Int} {s : Sc} {rv en : Value} {x y : Int} {last : Bool} {nn : Int} {w w' : World} (h : DB n verb s rv en x y last nn w) (hs : Below w.heap.size w w') : DB n verb s rv en x y last nn w' :=
  ⟨cell_step h.c0 hs, cell_step h.c1 hs, cell_step h.c2 hs, cell_step h.c3 hs, cell_step h.c4 hs, cell_step h.c5 hs, cell_step h.c6 hs, cell_step h.c7 hs, cell_step h.c8 hs, cell_step h.c9 hs, cell_step h.c10 hs, cell_step h.c11 hs, cell_step h.c12 hs, cell_step h.c13 hs, cell_step h.c14 hs, cell_step h.c15 hs, cell_step h.c16 hs, cell_step h.c17 hs, cell_step h.c18 hs, cell_step h.c19 hs⟩
theorem DB.kept {n : Nat} {verb : Int} {s : Sc} {rv en : Value} {x y : Int} {last : Bool} {nn : Int} {S : Nat → Prop} {w w' : World} (h : DB n verb s rv en x y last nn w) (hk : Kept S w w') (hn : ¬ S n) : DB n verb s rv en x y last nn w' :=
  ⟨hk.cell hn h.c0, hk.cell hn h.c1, hk.cell hn h.c2, hk.cell hn h.c3, hk.cell hn h.c4, hk.cell hn h.c5, hk.cell hn h.c6, hk.cell hn h.c7, hk.cell hn h.c8, hk.cell hn h.c9, hk.cell hn h.c10, hk.cell hn h.c11, hk.cell hn h.c12, hk.cell hn h.c13, hk.cell hn h.c14, hk.cell hn h.c15, hk.cell hn h.c16, hk.cell hn h.c17, hk.cell hn h.c18, hk.cell hn h.c19⟩
/-- a block of two numbers -/
structure XB (n : Nat) (x y : Int) (w : World) : Prop where
  c0 : w.cell? ⟨n, 0, none⟩ = some (.int .i64 x)
  c1 : w.cell? ⟨n, 1, none⟩ = some (.int .i64 y)
theorem XB.step {n : Nat} {x y : Int} {w w' : World} (h : XB n x y w) (hs : Below w.heap.size w w') : XB n x y w' := ⟨cell_step h.c0 hs, cell_step h.c1 hs⟩
theorem XB.kept {S : Nat → Prop} {n : Nat} {x y : Int} {w w' : World} (h : XB n x y w) (hk : Kept S w w') (hn : ¬ S n) : XB n x y w' := ⟨hk.cell hn h.c0, hk.cell hn h.c1⟩
theorem XB.new (x y : Int) (w : World) (t : TypeId) : XB w.heap.size x y (w.alloc (.cells #[.int .i64 x, .int .i64 y] t)) := ⟨by rw [World.cell?_alloc_at _ _ _ _ rfl]; rfl, by rw [World.cell?_alloc_at _ _ _ _ rfl]; rfl⟩

open Go.RowKit
variable {α : Type}

end Go.Proofs.Ytaiaaljahnackaa
