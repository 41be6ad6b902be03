/- Writing into slices of a call's own: one element after the other. -/
import Derived.Test.YtejmdmaebkdjoaaGreatDoorMm
import Derived.Test.YtejmdmaebkdjoaaGreatDoorMv
import Derived.Deep.LoopGhost
import Derived.Deep.QuietTactic
import Derived.BigQuiet
import Derived.WalkSmall
import Derived.RegionTactic
import Derived.Deep.RegionHeld3
import Derived.WalkSpells
import Derived.Test.YtejmdmaebkdjoaaGreatDoorErrIs
import Derived.Defers
import Derived.Recover
namespace Go.Proofs.YtejmdmaebkdjoaaGreatDoor
set_option linter.unusedVariables false
set_option linter.unusedSimpArgs false
set_option maxRecDepth 100000
set_option maxHeartbeats 8000000
open Go.RowKit
abbrev Rw := ByteArray × ByteArray
abbrev En := ByteArray × Int
def lRow : Lay Rw := ⟨165, 2, fun r => [.string r.1, .string r.2], fun _ => rfl, fun x u h => by simp at h; rcases h with rfl | rfl <;> rfl⟩
def lEnt : Lay En := ⟨168, 2, fun r => [.string r.1, .int .i64 r.2], fun _ => rfl, fun x u h => by simp at h; rcases h with rfl | rfl <;> rfl⟩
def lRef : Lay Rf := ⟨48, 2, fun r => [.int .i64 r.1, .int .i64 r.2], fun _ => rfl, fun x u h => by simp at h; rcases h with rfl | rfl <;> rfl⟩
structure Sc where
 kind : Int
 low : ByteArray
 high : ByteArray
 unb : Bool
 right : Int
 key : ByteArray
 value : ByteArray
 page : Int
 hp : Int
 hl : Int
 hk : ByteArray
 ns : Int
 ng : Int
def Sc.zero : Sc := ⟨0, ⟨#[]⟩, ⟨#[]⟩, false, 0, ⟨#[]⟩, ⟨#[]⟩, 0, 0, 0, ⟨#[]⟩, 0, 0⟩
def recVal (s : Sc) (rv ev : Value) : Value :=
 .agg #[.int .i64 s.kind, .string s.low, .string s.high, .bool s.unb, .int .i64 s.right, rv, ev, .string s.key, .string s.value, .int .i64 s.page, .int .i64 s.hp, .int .i64 s.hl, .string s.hk, .int .i64 s.ns, .int .i64 s.ng]
theorem recInfo : (Tryz.prog.info? 55).map (fun i => (i.zero, i.size, i.bytes)) = some (some (recVal Sc.zero (.slice none 0 0) (.slice none 0 0)), 15, 192) := by kernel_rfl
theorem rowInfo : (Tryz.prog.info? 165).map (fun i => (i.zero, i.size, i.bytes)) = some (some (.agg #[.string ⟨#[]⟩, .string ⟨#[]⟩]), 2, 32) := by kernel_rfl
theorem entInfo : (Tryz.prog.info? 168).map (fun i => (i.zero, i.size, i.bytes)) = some (some (.agg #[.string ⟨#[]⟩, .int .i64 0]), 2, 24) := by kernel_rfl
theorem refInfo : (Tryz.prog.info? 48).map (fun i => (i.zero, i.size, i.bytes)) = some (some (.agg #[.int .i64 0, .int .i64 0]), 2, 16) := by kernel_rfl
theorem lRow_known : lRow.known 32 := known_of rowInfo rfl rfl
theorem lEnt_known : lEnt.known 24 := known_of entInfo rfl rfl
theorem lRef_known : lRef.known 16 := known_of refInfo rfl rfl
structure RecD where
 sc : Sc
 rows : List Rw
 ents : List En
def RecV (w : World) (v : Value) (d : RecD) : Prop := ∃ rv ev, v = recVal d.sc rv ev ∧ SV lRow w rv d.rows ∧ SV lEnt w ev d.ents
theorem RecV.below {w w' : World} {v : Value} {d : RecD} (h : RecV w v d) (hb : Below w.heap.size w w') : RecV w' v d := by
 obtain ⟨rv, ev, h1, h2, h3⟩ := h
 exact ⟨rv, ev, h1, h2.below hb, h3.below hb⟩
def RecD.zero : RecD := ⟨Sc.zero, [], []⟩
theorem RecV.zero (w : World) : RecV w (recVal Sc.zero (.slice none 0 0) (.slice none 0 0)) RecD.zero := ⟨_, _, rfl, SV.nil _ _, SV.nil _ _⟩
open Go.RowKit
theorem retB {a b : Bool} (h : a = b) : Ending.returned (.bool a) = .returned (.bool b) := by rw [h]
def recObj (s : Sc) (rv ev : Value) : Obj := .cells #[.int .i64 s.kind, .string s.low, .string s.high, .bool s.unb, .int .i64 s.right, rv, ev, .string s.key, .string s.value, .int .i64 s.page, .int .i64 s.hp, .int .i64 s.hl, .string s.hk, .int .i64 s.ns, .int .i64 s.ng] 55
structure RB (n : Nat) (s : Sc) (rv ev : Value) (w : World) : Prop where
 c0 : w.cell? ⟨n, 0, none⟩ = some (.int .i64 s.kind)
 c1 : w.cell? ⟨n, 1, none⟩ = some (.string s.low)
 c2 : w.cell? ⟨n, 2, none⟩ = some (.string s.high)
 c3 : w.cell? ⟨n, 3, none⟩ = some (.bool s.unb)
 c4 : w.cell? ⟨n, 4, none⟩ = some (.int .i64 s.right)
 c5 : w.cell? ⟨n, 5, none⟩ = some rv
 c6 : w.cell? ⟨n, 6, none⟩ = some ev
 c7 : w.cell? ⟨n, 7, none⟩ = some (.string s.key)
 c8 : w.cell? ⟨n, 8, none⟩ = some (.string s.value)
 c9 : w.cell? ⟨n, 9, none⟩ = some (.int .i64 s.page)
 c10 : w.cell? ⟨n, 10, none⟩ = some (.int .i64 s.hp)
 c11 : w.cell? ⟨n, 11, none⟩ = some (.int .i64 s.hl)
 c12 : w.cell? ⟨n, 12, none⟩ = some (.string s.hk)
 c13 : w.cell? ⟨n, 13, none⟩ = some (.int .i64 s.ns)
 c14 : w.cell? ⟨n, 14, none⟩ = some (.int .i64 s.ng)
theorem RB.step {n : Nat} {s : Sc} {rv ev : Value} {w w' : World} (h : RB n s rv ev w) (hs : Below w.heap.size w w') : RB n s rv ev w' :=
 ⟨cell_step h.c0 hs, cell_step h.c1 hs, cell_step h.c2 hs, cell_step h.c3 hs, cell_step h.c4 hs, cell_step h.c5 hs, cell_step h.c6 hs, cell_step h.c7 hs, cell_step h.c8 hs, cell_step h.c9 hs, cell_step h.c10 hs, cell_step h.c11 hs, cell_step h.c12 hs, cell_step h.c13 hs, cell_step h.c14 hs⟩
theorem RB.new (s : Sc) (rv ev : Value) (w : World) : RB w.heap.size s rv ev (w.alloc (recObj s rv ev)) :=
 ⟨by rw [recObj, World.cell?_alloc_at _ _ _ _ rfl]; rfl, by rw [recObj, World.cell?_alloc_at _ _ _ _ rfl]; rfl, by rw [recObj, World.cell?_alloc_at _ _ _ _ rfl]; rfl, by rw [recObj, World.cell?_alloc_at _ _ _ _ rfl]; rfl, by rw [recObj, World.cell?_alloc_at _ _ _ _ rfl]; rfl, by rw [recObj, World.cell?_alloc_at _ _ _ _ rfl]; rfl, by rw [recObj, World.cell?_alloc_at _ _ _ _ rfl]; rfl, by rw [recObj, World.cell?_alloc_at _ _ _ _ rfl]; rfl, by rw [recObj, World.cell?_alloc_at _ _ _ _ rfl]; rfl, by rw [recObj, World.cell?_alloc_at _ _ _ _ rfl]; rfl, by rw [recObj, World.cell?_alloc_at _ _ _ _ rfl]; rfl, by rw [recObj, World.cell?_alloc_at _ _ _ _ rfl]; rfl, by rw [recObj, World.cell?_alloc_at _ _ _ _ rfl]; rfl, by rw [recObj, World.cell?_alloc_at _ _ _ _ rfl]; rfl, by rw [recObj, World.cell?_alloc_at _ _ _ _ rfl]; rfl⟩
theorem same_rec (v u : Value) (d : RecD) (w : World) (hv : RecV w v d) (hu : RecV w u d) (hl1 : d.rows.length ≤ 1000) (hl2 : d.ents.length ≤ 1000) :
  Calls Tryz.prog 58 #[v, u] w fun ev w' => ev = .returned (.bool true) ∧ Below w.heap.size w w' := by
 obtain ⟨s, rows, ents⟩ := d
 simp only at hl1 hl2
 obtain ⟨rv, ev, rfl, hr, he⟩ := hv
 obtain ⟨rv', ev', rfl, hr', he'⟩ := hu
 simp only at hr he hr' he'
 obtain ⟨a1, c1, rfl, k1, m1⟩ := hr.lenform
 obtain ⟨a2, c2, rfl, k2, m2⟩ := hr'.lenform
 obtain ⟨a3, c3, rfl, k3, m3⟩ := he.lenform
 obtain ⟨a4, c4, rfl, k4, m4⟩ := he'.lenform
 obtain ⟨n, hn⟩ : ∃ n, rows.length = n := ⟨_, rfl⟩
 obtain ⟨m, hm⟩ : ∃ m, ents.length = m := ⟨_, rfl⟩
 rw [hn] at hr hr' hl1 k1 k2 ⊢
 rw [hm] at he he' hl2 k3 k4 ⊢
 obtain ⟨W, hW⟩ : ∃ W, W = (w.alloc (recObj s (.slice a1 n c1) (.slice a3 m c3))).alloc (recObj s (.slice a2 n c2) (.slice a4 m c4)) := ⟨_, rfl⟩
 have b1 := alloc_below0 w (recObj s (.slice a1 n c1) (.slice a3 m c3))
 have b2 := alloc_below0 (w.alloc (recObj s (.slice a1 n c1) (.slice a3 m c3))) (recObj s (.slice a2 n c2) (.slice a4 m c4))
 have z1 : (w.alloc (recObj s (.slice a1 n c1) (.slice a3 m c3))).heap.size = w.heap.size + 1 := by simp
 have BW := Lib.hid (show Below w.heap.size w W by rw [hW]; exact b1.trans (b2.mono b1.size))
 have G := Lib.hid (show RB w.heap.size s (.slice a1 n c1) (.slice a3 m c3) W ∧ RB (w.heap.size + 1) s (.slice a2 n c2) (.slice a4 m c4) W by
  rw [hW]; exact ⟨(RB.new _ _ _ _).step b2, z1 ▸ RB.new _ _ _ _⟩)
 have V := Lib.hid (show SV lRow W (.slice a1 n c1) rows ∧ SV lRow W (.slice a2 n c2) rows ∧ SV lEnt W (.slice a3 m c3) ents ∧ SV lEnt W (.slice a4 m c4) ents from ⟨hr.below BW.out, hr'.below BW.out, he.below BW.out, he'.below BW.out⟩)
 have LN := Lib.hid (show rows.length = n ∧ ents.length = m from ⟨hn, hm⟩)
 have hWW := Lib.hid hW
 unfold maxLen at m1 m2 m3 m4
 clear hr hr' he he' hn hm hW b1 b2 z1
 have t1 : ((n : Int) != (n : Int)) = false := by simp
 have t2 : ((m : Int) != (m : Int)) = false := by simp
 unfold recVal
 unfold recObj at hWW
 go_enter Tryz.func58, Tryz.ntmps58
 go_wp2
 go_loopg [5] n (fun r i wr => ∃ k : Nat, k + r = n ∧ i = .int .i64 k ∧ Below W.heap.size W wr)
 case atStart => exact ⟨0, by omega, rfl, by rw [hWW.out]; exact Below.refl _ _⟩
 case round =>
  obtain ⟨k, hk, rfl, hB⟩ := hrel
  have A : Aside (Below W.heap.size W wr ∧ k + gk = n) := ⟨hB, hk⟩
  clear hB
  have f1 := cell_step G.out.1.c5 A.out.1
  have f2 := cell_step G.out.2.c5 A.out.1
  by_cases hlt : k < n
  ·obtain ⟨b1, o1, hb1⟩ := V.out.1.addr (by rw [LN.out.1]; omega)
   obtain ⟨b2, o2, hb2⟩ := V.out.2.1.addr (by rw [LN.out.1]; omega)
   subst hb1 hb2
   obtain ⟨x, hx⟩ : ∃ x, rows[k]? = some x := ⟨_, List.getElem?_eq_getElem (by rw [LN.out.1]; exact hlt)⟩
   obtain ⟨p, q⟩ := x
   have x1 := cell_step (V.out.1.cellAt (j := 0) hx rfl) A.out.1
   have x2 := cell_step (V.out.1.cellAt (j := 1) hx rfl) A.out.1
   have y1 := cell_step (V.out.2.1.cellAt (j := 0) hx rfl) A.out.1
   have y2 := cell_step (V.out.2.1.cellAt (j := 1) hx rfl) A.out.1
   simp only [lRow, Nat.add_zero] at x1 x2 y1 y2
   have j1 : (0 : Int) ≤ (k : Int) := by omega
   have j2 : (k : Int) < (n : Int) := by omega
   have e1 : (p.toList == p.toList) = true := by simp
   have e2 : (q.toList == q.toList) = true := by simp
   clear hx
   go_wp2
   go_quiet (fail)
   go_wp2
   go_roundg (n - (k + 1))
   case measure => have := A.out.2; omega
   case rel => exact ⟨k + 1, by omega, by go_num, below_drewN A.out.1 _⟩
  ·clear f1 f2
   have f3 := cell_step G.out.1.c6 A.out.1
   have f4 := cell_step G.out.2.c6 A.out.1
   have f1 := cell_step G.out.1.c5 A.out.1
   have AA := Lib.hid A.out.1
   clear A
   go_wp2
   go_loopg [6] m (fun r i wr => ∃ k : Nat, k + r = m ∧ i = .int .i64 k ∧ Below W.heap.size W wr)
   case atStart => exact ⟨0, by omega, rfl, AA.out⟩
   case round =>
    obtain ⟨k, hk, rfl, hB⟩ := hrel
    have A : Aside (Below W.heap.size W wr ∧ k + gk = m) := ⟨hB, hk⟩
    clear hB
    have f1 := cell_step G.out.1.c6 A.out.1
    have f2 := cell_step G.out.2.c6 A.out.1
    by_cases hlt : k < m
    ·obtain ⟨b1, o1, hb1⟩ := V.out.2.2.1.addr (by rw [LN.out.2]; omega)
     obtain ⟨b2, o2, hb2⟩ := V.out.2.2.2.addr (by rw [LN.out.2]; omega)
     subst hb1 hb2
     obtain ⟨x, hx⟩ : ∃ x, ents[k]? = some x := ⟨_, List.getElem?_eq_getElem (by rw [LN.out.2]; exact hlt)⟩
     obtain ⟨p, q⟩ := x
     have x1 := cell_step (V.out.2.2.1.cellAt (j := 0) hx rfl) A.out.1
     have x2 := cell_step (V.out.2.2.1.cellAt (j := 1) hx rfl) A.out.1
     have y1 := cell_step (V.out.2.2.2.cellAt (j := 0) hx rfl) A.out.1
     have y2 := cell_step (V.out.2.2.2.cellAt (j := 1) hx rfl) A.out.1
     simp only [lEnt, Nat.add_zero] at x1 x2 y1 y2
     have j1 : (0 : Int) ≤ (k : Int) := by omega
     have j2 : (k : Int) < (m : Int) := by omega
     have e1 : (p.toList == p.toList) = true := by simp
     have e2 : (q == q) = true := by simp
     clear hx
     go_wp2
     go_quiet (fail)
     go_wp2
     go_roundg (m - (k + 1))
     case measure => have := A.out.2; omega
     case rel => exact ⟨k + 1, by omega, by go_num, below_drewN A.out.1 _⟩
    ·clear f1 f2
     have g0 := cell_step G.out.1.c0 A.out.1
     have h0 := cell_step G.out.2.c0 A.out.1
     have g1 := cell_step G.out.1.c1 A.out.1
     have h1 := cell_step G.out.2.c1 A.out.1
     have g2 := cell_step G.out.1.c2 A.out.1
     have h2 := cell_step G.out.2.c2 A.out.1
     have g3 := cell_step G.out.1.c3 A.out.1
     have h3 := cell_step G.out.2.c3 A.out.1
     have g4 := cell_step G.out.1.c4 A.out.1
     have h4 := cell_step G.out.2.c4 A.out.1
     have g5 := cell_step G.out.1.c5 A.out.1
     have h5 := cell_step G.out.2.c5 A.out.1
     have g6 := cell_step G.out.1.c6 A.out.1
     have h6 := cell_step G.out.2.c6 A.out.1
     have g7 := cell_step G.out.1.c7 A.out.1
     have h7 := cell_step G.out.2.c7 A.out.1
     have g8 := cell_step G.out.1.c8 A.out.1
     have h8 := cell_step G.out.2.c8 A.out.1
     have g9 := cell_step G.out.1.c9 A.out.1
     have h9 := cell_step G.out.2.c9 A.out.1
     have g10 := cell_step G.out.1.c10 A.out.1
     have h10 := cell_step G.out.2.c10 A.out.1
     have g11 := cell_step G.out.1.c11 A.out.1
     have h11 := cell_step G.out.2.c11 A.out.1
     have g12 := cell_step G.out.1.c12 A.out.1
     have h12 := cell_step G.out.2.c12 A.out.1
     have g13 := cell_step G.out.1.c13 A.out.1
     have h13 := cell_step G.out.2.c13 A.out.1
     have g14 := cell_step G.out.1.c14 A.out.1
     have h14 := cell_step G.out.2.c14 A.out.1
     go_wp2
     go_ret
     exact ⟨retB (by simp), BW.out.trans (A.out.1.mono BW.out.size)⟩
open Go.RowKit Go.Extern.Stop Go.Stop Go.Extern
open Go.RowKit
structure Pt where
 slot : Nat
 gen : Nat
 rcd : RecD
 live : Bool
def slotOf (ps : List Pt) (n : Nat) : Nat × Bool := ps.foldl (fun s p => if p.slot = n then (p.gen, p.live) else s) (0, false)
def allocGo (l : Nat) (ps : List Pt) : Nat → Nat → Int → Nat × Nat × Int
 | 0, _, e => (0, 0, e)
 | f + 1, n, e => if (slotOf ps n).2 then allocGo l ps f (n + 1) e else if (slotOf ps n).1 < l then (n, (slotOf ps n).1 + 1, 0) else allocGo l ps f (n + 1) 5
def allocM (n l : Nat) (ps : List Pt) : Nat × Nat × Int := allocGo l ps n 1 3
def putM (n l : Nat) (ps : List Pt) (d : RecD) : List Pt := if (allocM n l ps).2.2 = 0 then ps ++ [⟨(allocM n l ps).1, (allocM n l ps).2.1, d, true⟩] else ps
def isAt (x y : Int) (p : Pt) : Bool := (p.slot : Int) == x && (p.gen : Int) == y && p.live
def findM (ps : List Pt) (x y : Int) : Option Nat := ps.findIdx? (isAt x y)
def codeM (n : Nat) (ps : List Pt) (x y : Int) : Int := if x < 1 ∨ (n : Int) < x then 1 else if (findM ps x y).isNone then 4 else 0
def loadM (n : Nat) (ps : List Pt) (x y : Int) : RecD := if codeM n ps x y = 0 then (match (findM ps x y).bind (ps[·]?) with | some p => p.rcd | none => RecD.zero) else RecD.zero
def freeM (n : Nat) (ps : List Pt) (x y : Int) : List Pt := if codeM n ps x y = 0 then (match findM ps x y with | some i => ps.modify i (fun p => { p with live := false }) | none => ps) else ps
def liveM (n : Nat) (ps : List Pt) : List Rf := ((List.range n).filter fun i => (slotOf ps (i + 1)).2).map fun i => (((i + 1 : Nat) : Int), ((slotOf ps (i + 1)).1 : Int))
def leftM (n l : Nat) (ps : List Pt) : Nat := ((List.range n).filter fun i => !(slotOf ps (i + 1)).2 && decide ((slotOf ps (i + 1)).1 < l)).length
def okN (n l : Int) : Bool := decide (1 ≤ n) && decide (n ≤ 4096) && decide (1 ≤ l) && decide (l ≤ 1099511627776)
/-! ### awake -/
open Go.RowKit
structure XB (n : Nat) (x y : Int) (w : World) : Prop where
 c0 : w.cell? ⟨n, 0, none⟩ = some (.int .i64 x)
 c1 : w.cell? ⟨n, 1, none⟩ = some (.int .i64 y)
theorem XB.step {n : Nat} {x y : Int} {w w' : World} (h : XB n x y w) (hs : Below w.heap.size w w') : XB n x y w' := ⟨cell_step h.c0 hs, cell_step h.c1 hs⟩
theorem XB.new (x y : Int) (w : World) (t : TypeId) : XB w.heap.size x y (w.alloc (.cells #[.int .i64 x, .int .i64 y] t)) := ⟨by rw [World.cell?_alloc_at _ _ _ _ rfl]; rfl, by rw [World.cell?_alloc_at _ _ _ _ rfl]; rfl⟩
open Go.RowKit
variable {α : Type}
end Go.Proofs.YtejmdmaebkdjoaaGreatDoor
