/- Package mem's plant and New, by contracts. -/
import Derived.Test.YtejmdmaebkdjoaaGreatDoorMm
import Derived.Test.YtejmdmaebkdjoaaGreatDoorMpNew
import Derived.Test.YtejmdmaebkdjoaaGreatDoorArFree
import Derived.Test.YtejmdmaebkdjoaaGreatDoorArNew
import Derived.Test.YtejmdmaebkdjoaaGreatDoorArAlloc
import Derived.Test.YtejmdmaebkdjoaaGreatDoorMpOps
import Derived.Test.YtejmdmaebkdjoaaGreatDoorEpMore
namespace Go.Proofs.YtejmdmaebkdjoaaGreatDoor
set_option linter.unusedVariables false
set_option linter.unusedSimpArgs false
set_option maxRecDepth 100000
set_option maxHeartbeats 4000000
open Go.RowKit
open Go.RowKit
structure Lim where
 s : Int
 p : Int
 t : Int
 r : Int
 h : Int
 c : Int
def Lim.cells (l : Lim) : Array Value := #[.int .i64 l.s, .int .i64 l.p, .int .i64 l.t, .int .i64 l.r, .int .i64 l.h, .int .i64 l.c]
def limV (l : Lim) : Value := .agg #[.int .i64 l.s, .int .i64 l.p, .int .i64 l.t, .int .i64 l.r, .int .i64 l.h, .int .i64 l.c]
def limObj (l : Lim) : Obj := .cells #[.int .i64 l.s, .int .i64 l.p, .int .i64 l.t, .int .i64 l.r, .int .i64 l.h, .int .i64 l.c] 23
def inB (n a b : Int) : Bool := decide (a ≤ n) && decide (n ≤ b)
def Lim.okB (l : Lim) : Bool := inB l.s 4 4096 && (inB l.p 3 256 && (inB l.t 1 64 && (inB l.r 2 64 && (inB l.h 2 64 && inB l.c 8 1099511627776))))
structure LimN where
 s : Nat
 p : Nat
 t : Nat
 r : Nat
 h : Nat
 c : Nat
def LimN.z (l : LimN) : Lim := ⟨l.s, l.p, l.t, l.r, l.h, l.c⟩
structure LimN.ok (l : LimN) : Prop where
 s1 : 4 ≤ l.s
 s2 : l.s ≤ 4096
 p1 : 3 ≤ l.p
 p2 : l.p ≤ 256
 t1 : 1 ≤ l.t
 t2 : l.t ≤ 64
 r1 : 2 ≤ l.r
 r2 : l.r ≤ 64
 h1 : 2 ≤ l.h
 h2 : l.h ≤ 64
 c1 : 8 ≤ l.c
 c2 : l.c ≤ 1099511627776
theorem inB_true {n a b : Int} (h1 : a ≤ n) (h2 : n ≤ b) : inB n a b = true := by unfold inB; rw [decide_eq_true h1, decide_eq_true h2]; rfl
theorem within_any (n a b : Int) (w : World) : Calls Tryz.prog 68 #[.int .i64 n, .int .i64 a, .int .i64 b] w fun ev w' => ev = .returned (.bool (inB n a b)) ∧ Below w.heap.size w w' := by
 unfold inB
 by_cases h : a ≤ n
 ·rw [decide_eq_true h]
  go_enter Tryz.func68, Tryz.ntmps68
  go_wp2
  go_ret
  exact ⟨rfl, Below.refl _ _⟩
 ·rw [decide_eq_false h]
  go_enter Tryz.func68, Tryz.ntmps68
  go_wp2
  go_ret
  exact ⟨rfl, Below.refl _ _⟩
structure LimAt (w : World) (b : Nat) (l : Lim) : Prop where
 c0 : w.cell? ⟨b, 0, none⟩ = some (.int .i64 l.s)
 c1 : w.cell? ⟨b, 1, none⟩ = some (.int .i64 l.p)
 c2 : w.cell? ⟨b, 2, none⟩ = some (.int .i64 l.t)
 c3 : w.cell? ⟨b, 3, none⟩ = some (.int .i64 l.r)
 c4 : w.cell? ⟨b, 4, none⟩ = some (.int .i64 l.h)
 c5 : w.cell? ⟨b, 5, none⟩ = some (.int .i64 l.c)
theorem LimAt.step {w w' : World} {b : Nat} {l : Lim} (h : LimAt w b l) (hs : Below w.heap.size w w') : LimAt w' b l := ⟨cell_step h.c0 hs, cell_step h.c1 hs, cell_step h.c2 hs, cell_step h.c3 hs, cell_step h.c4 hs, cell_step h.c5 hs⟩
theorem LimAt.new (w : World) (l : Lim) : LimAt (w.alloc (limObj l)) w.heap.size l :=
 let k := blk_new w (limObj l)
 ⟨blk_cell k 0, blk_cell k 1, blk_cell k 2, blk_cell k 3, blk_cell k 4, blk_cell k 5⟩
theorem right_ok (l : LimN) (h : l.ok) (w : World) : Calls Tryz.prog 24 #[limV l.z] w fun ev w' => ev = .returned (.bool true) ∧ Below w.heap.size w w' := by
 have B0 := Lib.hid (alloc_below0 w (limObj l.z))
 have L0 := Lib.hid (LimAt.new w l.z)
 have e1 : inB (l.s : Int) 4 4096 = true := inB_true (by have := h.s1; omega) (by have := h.s2; omega)
 have e2 : inB (l.p : Int) 3 256 = true := inB_true (by have := h.p1; omega) (by have := h.p2; omega)
 have e3 : inB (l.t : Int) 1 64 = true := inB_true (by have := h.t1; omega) (by have := h.t2; omega)
 have e4 : inB (l.r : Int) 2 64 = true := inB_true (by have := h.r1; omega) (by have := h.r2; omega)
 have e5 : inB (l.h : Int) 2 64 = true := inB_true (by have := h.h1; omega) (by have := h.h2; omega)
 have e6 : inB (l.c : Int) 8 1099511627776 = true := inB_true (by have := h.c1; omega) (by have := h.c2; omega)
 have E := Lib.hid (show _ ∧ _ ∧ _ ∧ _ ∧ _ ∧ _ from ⟨e1, e2, e3, e4, e5, e6⟩)
 clear e1 e2 e3 e4 e5 e6 h
 unfold limV LimN.z
 unfold limObj LimN.z at B0 L0
 go_enter Tryz.func24, Tryz.ntmps24
 go_wp2_with fail
 refine (within_any _ _ _ _).mono ?_
 rintro ev w1 ⟨rfl, hs⟩
 rw [E.out.1]
 have L1 := Lib.hid (L0.out.step hs)
 have B1 := Lib.hid (B0.out.trans (hs.mono B0.out.size))
 have x := L1.out.c1
 clear hs
 go_wp2_with fail
 refine (within_any _ _ _ _).mono ?_
 rintro ev w2 ⟨rfl, hs⟩
 rw [E.out.2.1]
 have L2 := Lib.hid (L1.out.step hs)
 have B2 := Lib.hid (B1.out.trans (hs.mono B1.out.size))
 clear x
 have x := L2.out.c2
 clear hs
 go_wp2_with fail
 refine (within_any _ _ _ _).mono ?_
 rintro ev w3 ⟨rfl, hs⟩
 rw [E.out.2.2.1]
 have L3 := Lib.hid (L2.out.step hs)
 have B3 := Lib.hid (B2.out.trans (hs.mono B2.out.size))
 clear x
 have x := L3.out.c3
 clear hs
 go_wp2_with fail
 refine (within_any _ _ _ _).mono ?_
 rintro ev w4 ⟨rfl, hs⟩
 rw [E.out.2.2.2.1]
 have L4 := Lib.hid (L3.out.step hs)
 have B4 := Lib.hid (B3.out.trans (hs.mono B3.out.size))
 clear x
 have x := L4.out.c4
 clear hs
 go_wp2_with fail
 refine (within_any _ _ _ _).mono ?_
 rintro ev w5 ⟨rfl, hs⟩
 rw [E.out.2.2.2.2.1]
 have L5 := Lib.hid (L4.out.step hs)
 have B5 := Lib.hid (B4.out.trans (hs.mono B4.out.size))
 clear x
 have x := L5.out.c5
 clear hs
 go_wp2_with fail
 refine (within_any _ _ _ _).mono ?_
 rintro ev w6 ⟨rfl, hs⟩
 rw [E.out.2.2.2.2.2]
 have B6 := Lib.hid (B5.out.trans (hs.mono B5.out.size))
 clear hs x
 go_wp2
 go_ret
 exact ⟨rfl, B6.out⟩
/-! ### in memory -/
structure MB where
 mb : Nat
 aa : Addr
 ab : Nat
 pb : Nat
 cb : Nat
 kb : Nat
def memCells (m : MB) (l : LimN) (k : Int) : Array Value := #[.int .i64 k, .int .i64 (l.s : Int), .int .i64 (l.p : Int), .int .i64 (l.t : Int), .int .i64 (l.r : Int), .int .i64 (l.h : Int), .int .i64 (l.c : Int), .pointer (some m.aa), .pointer (some ⟨m.ab, 0, none⟩), .pointer (some ⟨m.cb, 0, none⟩)]
structure MemAt (w : World) (m : MB) (S : Nat → Prop) (l : LimN) (k : Int) (ps : List Pt) (L : List Pg) (c : Ck) : Prop where
 ok : l.ok
 blk : w.heap[m.mb]? = some (.cells (memCells m l k) 94 (0, 0))
 ar : ArInv w m.aa S l.s l.c ps
 tb : TabAt w m.ab m.pb l.p L
 ck : ClkAt w m.cb m.kb c
 oM : ¬ S m.mb
 oA : ¬ S m.ab
 oP : ¬ S m.pb
 oC : ¬ S m.cb
 oK : ¬ S m.kb
def MS (m : MB) (S : Nat → Prop) : Nat → Prop := fun k => k = m.mb ∨ S k ∨ k = m.ab ∨ k = m.pb ∨ k = m.cb ∨ k = m.kb
theorem ArInv.keep {w w' : World} {a : Addr} {S : Nat → Prop} {n l : Nat} {ps : List Pt} (h : ArInv w a S n l ps) (hk : Kept (fun k => ¬ S k) w w') : ArInv w' a S n l ps := by obtain ⟨ab, sb, ss, e, I⟩ := h; exact ⟨ab, sb, ss, e, I.keep hk⟩
theorem ArInv.foot {w : World} {a : Addr} {S : Nat → Prop} {n l : Nat} {ps : List Pt} (h : ArInv w a S n l ps) : ∀ k, S k → k < w.heap.size := by obtain ⟨ab, sb, ss, e, I⟩ := h; exact fun k hk => I.foot k hk
theorem ArInv.low {w w' : World} {a : Addr} {S : Nat → Prop} {n l : Nat} {ps : List Pt} (h : ArInv w a S n l ps) (hb : Below w.heap.size w w') : ArInv w' a S n l ps := h.keep ⟨hb.os, hb.tape, hb.output, hb.size, fun k hk _ => hb.block k hk⟩
theorem ArInv.apart {w w' : World} {a : Addr} {S T : Nat → Prop} {n l : Nat} {ps : List Pt} (h : ArInv w a S n l ps) (hk : Kept T w w') (hT : ∀ k, T k → ¬ S k) : ArInv w' a S n l ps := h.keep (hk.wide fun k _ ht => hT k ht)
theorem blk_ne {w : World} {a b : Nat} {cs ds : Array Value} {T U : TypeId} (h : w.heap[a]? = some (.cells cs T (0, 0))) (k : w.heap[b]? = some (.cells ds U (0, 0))) (hne : T ≠ U) : a ≠ b := fun e => by
 rw [e, k] at h
 simp only [Option.some.injEq, Obj.cells.injEq] at h
 exact hne h.2.1.symm
theorem MemAt.low {w w' : World} {m : MB} {S : Nat → Prop} {l : LimN} {k : Int} {ps : List Pt} {L : List Pg} {c : Ck} (h : MemAt w m S l k ps L c) (hb : Below w.heap.size w w') : MemAt w' m S l k ps L c :=
 ⟨h.ok, blk_step h.blk hb, h.ar.low hb, h.tb.low hb, h.ck.low hb, h.oM, h.oA, h.oP, h.oC, h.oK⟩
theorem MemAt.keep {w w' : World} {m : MB} {S : Nat → Prop} {l : LimN} {k : Int} {ps : List Pt} {L : List Pg} {c : Ck} (h : MemAt w m S l k ps L c) {T : Nat → Prop} (hk : Kept T w w') (hT : ∀ k, MS m S k → ¬ T k) : MemAt w' m S l k ps L c :=
 ⟨h.ok, (hk.block m.mb (Array.getElem?_eq_some_iff.1 h.blk).1 (hT _ (.inl rfl))).trans h.blk, h.ar.apart hk fun k ht hs => hT k (.inr (.inl hs)) ht, h.tb.keep hk (hT _ (.inr (.inr (.inl rfl)))) (hT _ (.inr (.inr (.inr (.inl rfl))))),
  h.ck.keep hk (hT _ (.inr (.inr (.inr (.inr (.inl rfl)))))) (hT _ (.inr (.inr (.inr (.inr (.inr rfl)))))), h.oM, h.oA, h.oP, h.oC, h.oK⟩
theorem MemAt.lt {w : World} {m : MB} {S : Nat → Prop} {l : LimN} {k : Int} {ps : List Pt} {L : List Pg} {c : Ck} (h : MemAt w m S l k ps L c) : ∀ k, MS m S k → k < w.heap.size := by
 rintro k (rfl | hs | rfl | rfl | rfl | rfl)
 ·exact (Array.getElem?_eq_some_iff.1 h.blk).1
 ·exact h.ar.foot k hs
 ·exact h.tb.ltA
 ·exact h.tb.ltP
 ·exact h.ck.ltC
 ·exact h.ck.ltM
theorem TabAt.pgs {w : World} {ab pb n : Nat} {L : List Pg} (h : TabAt w ab pb n L) : ∃ cs, w.heap[pb]? = some (.cells cs 197 (0, 0)) := let ⟨cs, hb, _⟩ := h.own.block; ⟨cs, hb⟩
theorem ClkAt.mapB {w : World} {cb mb : Nat} {c : Ck} (h : ClkAt w cb mb c) : ∃ es clock, w.heap[mb]? = some (.map es clock) := let ⟨_, m⟩ := h.map; let ⟨es, clock, hb, _⟩ := m.own; ⟨es, clock, hb⟩
structure Parts (m : MB) : Prop where
 ma : m.mb ≠ m.ab
 mp : m.mb ≠ m.pb
 mc : m.mb ≠ m.cb
 mq : m.mb ≠ m.kb
 ac : m.ab ≠ m.cb
 ak : m.ab ≠ m.kb
 pc : m.pb ≠ m.cb
 pk : m.pb ≠ m.kb
theorem map_ne {w : World} {a b : Nat} {cs : Array Value} {T : TypeId} (h : w.heap[a]? = some (.cells cs T (0, 0))) (k : ∃ es clock, w.heap[b]? = some (.map es clock)) : a ≠ b := fun e => by
 obtain ⟨es, clock, k⟩ := k
 rw [e, k] at h
 cases h
theorem MemAt.parts {w : World} {m : MB} {S : Nat → Prop} {l : LimN} {k : Int} {ps : List Pt} {L : List Pg} {c : Ck} (h : MemAt w m S l k ps L c) : Parts m := by
 obtain ⟨cs, hp⟩ := h.tb.pgs
 have hc := h.ck.blk
 have ha := h.tb.blkA
 have hm := h.blk
 have hk := h.ck.mapB
 exact ⟨blk_ne hm ha (by decide), blk_ne hm hp (by decide), blk_ne hm hc (by decide), map_ne hm hk, blk_ne ha hc (by decide), map_ne ha hk, blk_ne hp hc (by decide), map_ne hp hk⟩
theorem MemAt.cN {w : World} {m : MB} {S : Nat → Prop} {l : LimN} {k : Int} {ps : List Pt} {L : List Pg} {c : Ck} (h : MemAt w m S l k ps L c) : w.cell? ⟨m.mb, 0, none⟩ = some (.int .i64 k) := blk_cell h.blk 0
theorem MemAt.cS {w : World} {m : MB} {S : Nat → Prop} {l : LimN} {k : Int} {ps : List Pt} {L : List Pg} {c : Ck} (h : MemAt w m S l k ps L c) : w.cell? ⟨m.mb, 1, none⟩ = some (.int .i64 (l.s : Int)) := blk_cell h.blk 1
theorem MemAt.cA {w : World} {m : MB} {S : Nat → Prop} {l : LimN} {k : Int} {ps : List Pt} {L : List Pg} {c : Ck} (h : MemAt w m S l k ps L c) : w.cell? ⟨m.mb, 7, none⟩ = some (.pointer (some m.aa)) := blk_cell h.blk 7
theorem MemAt.cT {w : World} {m : MB} {S : Nat → Prop} {l : LimN} {k : Int} {ps : List Pt} {L : List Pg} {c : Ck} (h : MemAt w m S l k ps L c) : w.cell? ⟨m.mb, 8, none⟩ = some (.pointer (some ⟨m.ab, 0, none⟩)) := blk_cell h.blk 8
structure RfB (w : World) (b : Nat) (s g : Int) : Prop where
 blk : w.heap[b]? = some (.cells #[.int .i64 s, .int .i64 g] 48 (0, 0))
theorem RfB.step {w w' : World} {b : Nat} {s g : Int} (h : RfB w b s g) (hs : Below w.heap.size w w') : RfB w' b s g := ⟨blk_step h.blk hs⟩
theorem RfB.keep {w w' : World} {b : Nat} {s g : Int} (h : RfB w b s g) {S : Nat → Prop} (hk : Kept S w w') (hn : ¬ S b) : RfB w' b s g := ⟨(hk.block b (Array.getElem?_eq_some_iff.1 h.blk).1 hn).trans h.blk⟩
theorem RfB.lt {w : World} {b : Nat} {s g : Int} (h : RfB w b s g) : b < w.heap.size := (Array.getElem?_eq_some_iff.1 h.blk).1
theorem RfB.c0 {w : World} {b : Nat} {s g : Int} (h : RfB w b s g) : w.cell? ⟨b, 0, none⟩ = some (.int .i64 s) := blk_cell h.blk 0
theorem RfB.c1 {w : World} {b : Nat} {s g : Int} (h : RfB w b s g) : w.cell? ⟨b, 1, none⟩ = some (.int .i64 g) := blk_cell h.blk 1
theorem MemAt.arena {w w' : World} {m : MB} {S S' : Nat → Prop} {l : LimN} {k : Int} {ps ps' : List Pt} {L : List Pg} {c : Ck} (h : MemAt w m S l k ps L c) (hi : ArInv w' m.aa S' l.s l.c ps') (hk : Kept S w w') (hS : ∀ k, S' k → S k ∨ w.heap.size ≤ k) : MemAt w' m S' l k ps' L c := by
 have hl := h.lt
 have off : ∀ b, ¬ S b → b < w.heap.size → ¬ S' b := fun b h1 h2 h3 => (hS b h3).elim h1 (fun h4 => Nat.lt_irrefl b (Nat.lt_of_lt_of_le h2 h4))
 exact ⟨h.ok, (hk.block m.mb (hl _ (.inl rfl)) h.oM).trans h.blk, hi, h.tb.keep hk h.oA h.oP, h.ck.keep hk h.oC h.oK, off _ h.oM (hl _ (.inl rfl)), off _ h.oA (hl _ (.inr (.inr (.inl rfl)))), off _ h.oP (hl _ (.inr (.inr (.inr (.inl rfl))))), off _ h.oC (hl _ (.inr (.inr (.inr (.inr (.inl rfl)))))), off _ h.oK (hl _ (.inr (.inr (.inr (.inr (.inr rfl))))))⟩
theorem MemAt.table {w w' : World} {m : MB} {S : Nat → Prop} {l : LimN} {k : Int} {ps : List Pt} {L L' : List Pg} {c : Ck} (h : MemAt w m S l k ps L c) (hi : TabAt w' m.ab m.pb l.p L') (hk : Kept (fun k => k = m.pb) w w') : MemAt w' m S l k ps L' c := by
 have P := h.parts
 exact ⟨h.ok, (hk.block m.mb (h.lt _ (.inl rfl)) P.mp).trans h.blk, h.ar.apart hk (fun k e hs => h.oP (e ▸ hs)), hi, h.ck.keep hk (fun e => P.pc e.symm) (fun e => P.pk e.symm), h.oM, h.oA, h.oP, h.oC, h.oK⟩
theorem MemAt.count {w : World} {m : MB} {S : Nat → Prop} {l : LimN} {k : Int} {ps : List Pt} {L : List Pg} {c : Ck} (h : MemAt w m S l k ps L c) (x : Int) : MemAt (w.setCell ⟨m.mb, 0, none⟩ (.int .i64 x)) m S l x ps L c := by
 have P := h.parts
 have hk : Kept (fun k => k = m.mb) w (w.setCell ⟨m.mb, 0, none⟩ (.int .i64 x)) := (Kept.refl _ _).setCell _ _
 refine ⟨h.ok, blk_set h.blk 0 _, h.ar.apart hk (fun k e hs => h.oM (e ▸ hs)), h.tb.keep hk (fun e => P.ma e.symm) (fun e => P.mp e.symm), h.ck.keep hk (fun e => P.mc e.symm) (fun e => P.mq e.symm), h.oM, h.oA, h.oP, h.oC, h.oK⟩
theorem MS.ar {m : MB} {S : Nat → Prop} {w w' : World} (hk : Kept S w w') : Kept (MS m S) w w' := hk.wide fun _ _ h => .inr (.inl h)
theorem MS.tb {m : MB} {S : Nat → Prop} {w w' : World} (hk : Kept (fun k => k = m.pb) w w') : Kept (MS m S) w w' := hk.wide fun _ _ h => .inr (.inr (.inr (.inl h)))
open Go.RowKit
def baseD : RecD := ⟨{ Sc.zero with kind := 1, unb := true }, [], []⟩
theorem base_reads (w : World) : RecV w (recVal baseD.sc (.slice none 0 0) (.slice none 0 0)) baseD := ⟨_, _, rfl, SV.nil _ _, SV.nil _ _⟩
def psB : List Pt := [⟨1, 1, baseD, true⟩]
theorem allocM0 {n l : Nat} (h1 : 1 ≤ n) (h2 : 1 ≤ l) : allocM n l [] = (1, 1, 0) := by
 obtain ⟨k, rfl⟩ : ∃ k, n = k + 1 := ⟨n - 1, by omega⟩
 have e : slotOf [] 1 = (0, false) := rfl
 unfold allocM allocGo
 rw [e, if_neg (by decide), if_pos (by omega)]
theorem putM0 {n l : Nat} (h1 : 1 ≤ n) (h2 : 1 ≤ l) : putM n l [] baseD = psB := by unfold putM; rw [allocM0 h1 h2]; rfl
def pgs0 (p : Nat) : List Pg := some (0, 0) :: pages0 (p - 1)
def pgs1 (p : Nat) : List Pg := some (1, 1) :: pages0 (p - 1)
theorem take0 {p : Nat} (h : 1 ≤ p) : takeN (pages0 p) = 0 ∧ takeE (pages0 p) = 0 ∧ takeL (pages0 p) = pgs0 p := by
 obtain ⟨k, rfl⟩ : ∃ k, p = k + 1 := ⟨p - 1, by omega⟩
 have e : firstFree (pages0 (k + 1)) = some 0 := by unfold firstFree pages0; simp [List.replicate_succ, List.findIdx?_cons]
 unfold takeN takeE takeL
 rw [e]
 exact ⟨rfl, rfl, by simp [pages0, pgs0, List.replicate_succ]⟩
theorem code0 (p : Nat) (r : Rf) : codeT (some r :: pages0 p) 0 = 0 := codeT_at (i := 0) (p := some r) rfl
theorem swap0 (p : Nat) : swapB (pgs0 p) 0 (0, 0) = true ∧ swapL (pgs0 p) 0 (0, 0) (1, 1) = pgs1 p ∧ codeT (pgs0 p) 0 = 0 := by
 have e : swapB (pgs0 p) 0 (0, 0) = true := by
  unfold swapB pgs0
  rw [code0, show headT (some (0, 0) :: pages0 (p - 1)) 0 = (0, 0) from headT_at (i := 0) rfl]; rfl
 refine ⟨e, ?_, code0 _ _⟩
 unfold swapL
 rw [if_pos e]
 rfl
theorem plant_any (w : World) (m : MB) (S : Nat → Prop) (l : LimN) (k : Int) (c : Ck) (h : MemAt w m S l k [] (pages0 l.p) c) :
  Calls Tryz.prog 28 #[.pointer (some ⟨m.mb, 0, none⟩)] w fun ev w' => ∃ S', ev = .returned (.tuple #[]) ∧ MemAt w' m S' l k psB (pgs1 l.p) c ∧ Kept (MS m S) w w' ∧ (∀ k, S' k → S k ∨ w.heap.size ≤ k) := by
 have hp := h.ok.p1
 have hs := h.ok.s1
 have hc := h.ok.c1
 have OK := Lib.hid h.ok
 have M0 := Lib.hid h
 have x0 := h.cT
 obtain ⟨t1, t2, t3⟩ := take0 (p := l.p) (by omega)
 have T := Lib.hid (show _ ∧ _ ∧ _ from ⟨t1, t2, t3⟩)
 have A := Lib.hid (show allocM l.s l.c [] = (1, 1, 0) ∧ putM l.s l.c [] baseD = psB from ⟨allocM0 (by omega) (by omega), putM0 (by omega) (by omega)⟩)
 clear h t1 t2 t3 hp hs hc
 go_enter Tryz.func28, Tryz.ntmps28
 go_wp2_with fail
 refine (take_any _ m.ab m.pb l.p _ M0.out.tb).mono ?_
 rintro ev w1 ⟨rfl, hT, hk⟩
 rw [T.out.1, T.out.2.1, errV_at rfl]
 rw [T.out.2.2] at hT
 have M1 := Lib.hid (M0.out.table hT hk)
 have K1 := Lib.hid (MS.tb (S := S) hk)
 clear hT hk x0
 have x1 := M1.out.cA
 go_wp2_with fail
 refine (alloc_any _ _ S l.s l.c [] baseD _ M1.out.ar (base_reads _) (by decide) (by decide)).mono ?_
 rintro ev w2 ⟨S', rfl, hI, hk, hS⟩
 rw [A.out.1, errV_at rfl]
 rw [A.out.2] at hI
 have M2 := Lib.hid (M1.out.arena hI hk hS)
 have K2 := Lib.hid (K1.out.trans (MS.ar (m := m) hk))
 have F2 := Lib.hid (show ∀ k, S' k → S k ∨ w.heap.size ≤ k from fun k hk => (hS k hk).imp id (Nat.le_trans K1.out.size))
 unfold refV
 simp only
 have b1 := alloc_below0 w2 (.cells #[.int .i64 1, .int .i64 1] 48)
 have M3 := Lib.hid (M2.out.low b1)
 have K3 := Lib.hid (K2.out.trans (Kept.of_below b1))
 have R3 := Lib.hid (RfB.mk (blk_new w2 (.cells #[.int .i64 1, .int .i64 1] 48)))
 have N3 := Lib.hid (show ¬ w2.heap.size = m.pb from fun e => Nat.lt_irrefl _ (e ▸ M2.out.tb.ltP))
 clear hI hk hS x1 b1
 have x1 := M3.out.cT
 have x2 := R3.out.c0
 have x3 := R3.out.c1
 obtain ⟨sw1, sw2, sw3⟩ := swap0 l.p
 have SW := Lib.hid (show _ ∧ _ ∧ _ from ⟨sw1, sw2, sw3⟩)
 clear sw1 sw2 sw3
 go_wp2_with fail
 have fc := fun w' h => swap_any w' m.ab m.pb l.p (pgs0 l.p) 0 0 0 1 1 h
 unfold refV at fc
 generalize hw3 : w2.alloc (.cells #[.int .i64 1, .int .i64 1] 48) = w3 at *
 go_region_held3 (fun w' => w'.cell? ⟨m.mb, 8, none⟩ = some (.pointer (some ⟨m.ab, 0, none⟩)) ∧ w'.cell? ⟨w2.heap.size, 0, none⟩ = some (.int .i64 1) ∧ w'.cell? ⟨w2.heap.size, 1, none⟩ = some (.int .i64 1)) (first | exact ⟨by assumption, by assumption, by assumption⟩ | go_keep)
  (first
   | (go_at_call 71; (with_reducible refine (fc _ ?_).mono ?_); exact M3.out.tb.low (Below.refl _ _).drew; rintro e4 w4 ⟨rfl, hT, hk⟩; rw [SW.out.2.1] at hT; have M4 := Lib.hid ((M3.out.low (Below.refl _ _).drew).table hT hk); have K4 := Lib.hid ((K3.out.drew).trans (MS.tb (S := S) hk)); have R4 := R3.out.keep (Kept.trans (Kept.of_below (Below.refl _ _).drew) hk) N3.out; have y1 := M4.out.cT; have y2 := R4.c0; have y3 := R4.c1; clear hT hk R4))
 go_wp2
 go_end0
 exact ⟨S', rfl, M4.out, K4.out, F2.out⟩
theorem mem_new (l : LimN) (h : l.ok) (w : World) :
  Calls Tryz.prog 6 #[limV l.z] w fun ev w' => ∃ m S, ev = .returned (.tuple #[.pointer (some ⟨m.mb, 0, none⟩), .nilIface]) ∧ MemAt w' m S l 0 psB (pgs1 l.p) (Ck.new l.t l.c) ∧ (∀ k, MS m S k → w.heap.size ≤ k) ∧ Below w.heap.size w w' := by
 have OK := Lib.hid h
 have B0 := Lib.hid (alloc_below0 w (limObj l.z))
 have L0 := Lib.hid (LimAt.new w l.z)
 have x0 := L0.out.c0
 have x1 := L0.out.c1
 have x2 := L0.out.c2
 have x3 := L0.out.c3
 have x4 := L0.out.c4
 have x5 := L0.out.c5
 have OKN := Lib.hid (show okN (l.s : Int) (l.c : Int) = true by
  have := h.s1; have := h.s2; have := h.c1; have := h.c2
  unfold okN
  rw [decide_eq_true (show (1 : Int) ≤ l.s by omega), decide_eq_true (show (l.s : Int) ≤ 4096 by omega), decide_eq_true (show (1 : Int) ≤ l.c by omega), decide_eq_true (show (l.c : Int) ≤ 1099511627776 by omega)]; rfl)
 have OKP := Lib.hid (show 1 ≤ l.p ∧ l.p ≤ 256 from ⟨by have := h.p1; omega, h.p2⟩)
 have OKT := Lib.hid (show Ck.may (l.t : Int) (l.c : Int) by have := h.t1; have := h.t2; have := h.c1; have := h.c2; unfold Ck.may; omega)
 clear h
 have hr := fun w => right_ok l OK.out w
 unfold limV LimN.z at hr ⊢
 unfold limObj LimN.z at B0 L0 x0 x1 x2 x3 x4 x5
 simp only at x0 x1 x2 x3 x4 x5
 go_enter Tryz.func6, Tryz.ntmps6
 go_wp2_with fail
 refine (hr _).mono ?_
 rintro ev w1 ⟨rfl, hs⟩
 have L1 := Lib.hid (L0.out.step hs)
 have B1 := Lib.hid (B0.out.trans (hs.mono B0.out.size))
 clear hs x0 x1 x2 x3 x4 x5 hr
 have x0 := L1.out.c0
 have x1 := L1.out.c1
 have x2 := L1.out.c2
 have x3 := L1.out.c3
 have x4 := L1.out.c4
 have x5 := L1.out.c5
 simp only at x0 x1 x2 x3 x4 x5
 go_wp2_with fail
 go_region_held3 (fun w' => w'.cell? ⟨w.heap.size, 0, none⟩ = some (.int .i64 (l.s : Int)) ∧ w'.cell? ⟨w.heap.size, 1, none⟩ = some (.int .i64 (l.p : Int)) ∧ w'.cell? ⟨w.heap.size, 2, none⟩ = some (.int .i64 (l.t : Int)) ∧ w'.cell? ⟨w.heap.size, 3, none⟩ = some (.int .i64 (l.r : Int)) ∧ w'.cell? ⟨w.heap.size, 4, none⟩ = some (.int .i64 (l.h : Int)) ∧ w'.cell? ⟨w.heap.size, 5, none⟩ = some (.int .i64 (l.c : Int))) (first | exact ⟨by assumption, by assumption, by assumption, by assumption, by assumption, by assumption⟩ | go_keep)
  (first
   | (go_at_call 25; (with_reducible refine (ar_new_any l.s l.c _ ?_).mono ?_); exact OKN.out; rintro e2 w2 ⟨aa, S, rfl, hI, hS, hs⟩; have L2 := Lib.hid (L1.out.step ((Below.refl _ w1).drew.trans hs)); have B2 := Lib.hid (B1.out.trans (((Below.refl _ w1).drew.trans hs).mono B1.out.size)); have I2 := Lib.hid hI; have F2 := Lib.hid hS; have x0 := L2.out.c0; have x1 := L2.out.c1; have x2 := L2.out.c2; have x3 := L2.out.c3; have x4 := L2.out.c4; have x5 := L2.out.c5; simp only at x0 x1 x2 x3 x4 x5; clear hs hI hS)
   | (go_at_call 26; (with_reducible refine (mp_new_any l.p _ ?_ ?_).mono ?_); exact OKP.out.1; exact OKP.out.2; rintro e3 w3 ⟨ab, pb, rfl, hT, h1, h2, hs⟩; have L3 := Lib.hid (L2.out.step hs); have B3 := Lib.hid (B2.out.trans (hs.mono B2.out.size)); have I3 := Lib.hid (I2.out.low hs); have T3 := Lib.hid hT; have G3 := Lib.hid (show w2.heap.size ≤ ab ∧ w2.heap.size ≤ pb ∧ _ from ⟨h1, h2, hs.size⟩); have y0 := L3.out.c0; have y1 := L3.out.c1; have y2 := L3.out.c2; have y3 := L3.out.c3; have y4 := L3.out.c4; have y5 := L3.out.c5; simp only at y0 y1 y2 y3 y4 y5; clear hs hT h1 h2)
   | (go_at_call 27; (with_reducible refine (ep_new_any l.t l.c _ ?_).mono ?_); exact OKT.out; rintro e4 w4 ⟨cb, kb, rfl, hC, h1, h2, hs⟩; have L4 := Lib.hid (L3.out.step hs); have B4 := Lib.hid (B3.out.trans (hs.mono B3.out.size)); have I4 := Lib.hid (I3.out.low hs); have T4 := Lib.hid (T3.out.low hs); have C4 := Lib.hid hC; have G4 := Lib.hid (show w3.heap.size ≤ cb ∧ w3.heap.size ≤ kb ∧ _ from ⟨h1, h2, hs.size⟩); have z0 := L4.out.c0; have z1 := L4.out.c1; have z2 := L4.out.c2; have z3 := L4.out.c3; have z4 := L4.out.c4; have z5 := L4.out.c5; simp only at z0 z1 z2 z3 z4 z5; clear hs hC h1 h2))
 clear x0 x1 x2 x3 x4 x5 y0 y1 y2 y3 y4 y5 z0 z1 z2 z3 z4 z5
 have b5 := alloc_below0 w4 (.cells (memCells ⟨w4.heap.size, aa, ab, pb, cb, kb⟩ l 0) 94)
 have k5 := blk_new w4 (.cells (memCells ⟨w4.heap.size, aa, ab, pb, cb, kb⟩ l 0) 94)
 have fa : ∀ k, S k → k < w2.heap.size := I2.out.foot
 have g3 := G3.out
 have g4 := G4.out
 have M5 := Lib.hid (show MemAt (w4.alloc (.cells (memCells ⟨w4.heap.size, aa, ab, pb, cb, kb⟩ l 0) 94)) ⟨w4.heap.size, aa, ab, pb, cb, kb⟩ S l 0 [] (pages0 l.p) (Ck.new l.t l.c) from
  ⟨OK.out, k5, I4.out.low b5, T4.out.low b5, C4.out.low b5, fun h => by have := fa _ h; simp only at this; omega, fun h => by have := fa _ h; simp only at this; omega, fun h => by have := fa _ h; simp only at this; omega, fun h => by have := fa _ h; simp only at this; omega, fun h => by have := fa _ h; simp only at this; omega⟩)
 have B5 := Lib.hid (B4.out.trans (b5.mono B4.out.size))
 have F5 := Lib.hid (show ∀ k, MS ⟨w4.heap.size, aa, ab, pb, cb, kb⟩ S k → w.heap.size ≤ k from fun k h => by
  have q1 := B1.out.size
  have q2 := B2.out.size
  have q4 := B4.out.size
  have q3 := B3.out.size
  rcases h with rfl | h | rfl | rfl | rfl | rfl <;> first | (have := F2.out k h; simp at this; omega) | omega)
 simp only [memCells] at M5 B5
 clear b5 k5 fa g3 g4
 go_wp2_with fail
 generalize hw5 : w4.alloc _ = w5 at *
 refine (plant_any _ _ S l 0 _ M5.out).mono ?_
 rintro ev w6 ⟨S', rfl, hM, hk, hS⟩
 have M6 := Lib.hid hM
 have B6 := Lib.hid (B5.out.trans (hk.below F5.out B5.out.size))
 have F6 := Lib.hid (show ∀ k, MS ⟨w4.heap.size, aa, ab, pb, cb, kb⟩ S' k → w.heap.size ≤ k from fun k h => by
  rcases h with h | h | h
  ·exact F5.out k (.inl h)
  ·exact (hS k h).elim (fun h => F5.out k (.inr (.inl h))) (fun h => Nat.le_trans B5.out.size h)
  ·exact F5.out k (.inr (.inr h)))
 clear hM hk hS
 go_wp2
 go_ret2
 exact ⟨⟨w4.heap.size, aa, ab, pb, cb, kb⟩, S', rfl, M6.out, F6.out, B6.out⟩
end Go.Proofs.YtejmdmaebkdjoaaGreatDoor
