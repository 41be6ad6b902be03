/- Writing into slices of a call's own: one element after the other. -/
import Derived.Test.YtaiaaljahnackaaMm
import Derived.Test.YtaiaaljahnackaaMv
import Derived.Deep.LoopGhost
import Derived.Deep.QuietTactic
import Derived.BigQuiet
import Derived.WalkSmall
import Derived.RegionTactic
import Derived.Deep.RegionHeld3
import Derived.WalkSpells
import Derived.Test.YtaiaaljahnackaaErrIs
import Derived.Defers
import Derived.Recover
namespace Go.Proofs.Ytaiaaljahnackaa
open Go.RowKit

abbrev Rw := ByteArray × ByteArray
abbrev En := ByteArray × Int
def lRow : Lay Rw := ⟨98, 2, fun r => [.string r.1, .string r.2], fun _ => rfl, fun x u h => by simp at h; rcases h with rfl | rfl <;> rfl⟩
def lEnt : Lay En := ⟨100, 2, fun r => [.string r.1, .int .i64 r.2], fun _ => rfl, fun x u h => by simp at h; rcases h with rfl | rfl <;> rfl⟩
def lRef : Lay Rf := ⟨34, 2, fun r => [.int .i64 r.1, .int .i64 r.2], fun _ => rfl, fun x u h => by simp at h; rcases h with rfl | rfl <;> rfl⟩
/-- what a record has beside its rows and its entries -/
structure Sc where
  kind : Int
  low : ByteArray
  high : ByteArray
  unb : Bool
  right : Int
  key : ByteArray
  value : ByteArray
  page : Int
  hp : Int
  hl : Int
  hk : ByteArray
  ns : Int
  ng : Int
def Sc.zero : Sc := ⟨0, ⟨#[]⟩, ⟨#[]⟩, false, 0, ⟨#[]⟩, ⟨#[]⟩, 0, 0, 0, ⟨#[]⟩, 0, 0⟩
def recVal (s : Sc) (rv ev : Value) : Value :=
  .agg #[.int .i64 s.kind, .string s.low, .string s.high, .bool s.unb, .int .i64 s.right, rv, ev, .string s.key, .string s.value, .int .i64 s.page, .int .i64 s.hp, .int .i64 s.hl, .string s.hk, .int .i64 s.ns, .int .i64 s.ng]
theorem recInfo : (Try.prog.info? 44).map (fun i => (i.zero, i.size, i.bytes)) = some (some (recVal Sc.zero (.slice none 0 0) (.slice none 0 0)), 15, 192) := by kernel_rfl
theorem rowInfo : (Try.prog.info? 98).map (fun i => (i.zero, i.size, i.bytes)) = some (some (.agg #[.string ⟨#[]⟩, .string ⟨#[]⟩]), 2, 32) := by kernel_rfl
theorem entInfo : (Try.prog.info? 100).map (fun i => (i.zero, i.size, i.bytes)) = some (some (.agg #[.string ⟨#[]⟩, .int .i64 0]), 2, 24) := by kernel_rfl
theorem refInfo : (Try.prog.info? 34).map (fun i => (i.zero, i.size, i.bytes)) = some (some (.agg #[.int .i64 0, .int .i64 0]), 2, 16) := by kernel_rfl
theorem lRow_known : lRow.known 32 := known_of rowInfo rfl rfl
theorem lEnt_known : lEnt.known 24 := known_of entInfo rfl rfl
theorem lRef_known : lRef.known 16 := known_of refInfo rfl rfl
/-- what a record reads as -/
structure RecD where
  sc : Sc
  rows : List Rw
  ents : List En
def RecV (w : World) (v : Value) (d : RecD) : Prop := ∃ rv ev, v = recVal d.sc rv ev ∧ SV lRow w rv d.rows ∧ SV lEnt w ev d.ents
theorem RecV.below {w w' : World} {v : Value} {d : RecD} (h : RecV w v d) (hb : Below w.heap.size w w') : RecV w' v d := by
  obtain ⟨rv, ev, h1, h2, h3⟩ := h
  exact ⟨rv, ev, h1, h2.below hb, h3.below hb⟩
def RecD.zero : RecD := ⟨Sc.zero, [], []⟩
theorem RecV.zero (w : World) : RecV w (recVal Sc.zero (.slice none 0 0) (.slice none 0 0)) RecD.zero := ⟨_, _, rfl, SV.nil _ _, SV.nil _ _⟩

open Go.RowKit

theorem retB {a b : Bool} (h : a = b) : Ending.returned (.bool a) = .returned (.bool b) := by rw [h]
theorem retI {k : IntKind} {a b : Int} (h : a = b) : Ending.returned (.int k a) = .returned (.int k b) := by rw [h]
def recObj (s : Sc) (rv ev : Value) : Obj := .cells #[.int .i64 s.kind, .string s.low, .string s.high, .bool s.unb, .int .i64 s.right, rv, ev, .string s.key, .string s.value, .int .i64 s.page, .int .i64 s.hp, .int .i64 s.hl, .string s.hk, .int .i64 s.ns, .int .i64 s.ng] 44
structure RB (n : Nat) (s : Sc) (rv ev : Value) (w : World) : Prop where
  c0 : w.cell? ⟨n, 0, none⟩ = some (.int .i64 s.kind)
  c1 : w.cell? ⟨n, 1, none⟩ = some (.string s.low)
  c2 : w.cell? ⟨n, 2, none⟩ = some (.string s.high)
  c3 : w.cell? ⟨n, 3, none⟩ = some (.bool s.unb)
  c4 : w.cell? ⟨n, 4, none⟩ = some (.int .i64 s.right)
  c5 : w.cell? ⟨n, 5, none⟩ = some rv
  c6 : w.cell? ⟨n, 6, none⟩ = some ev
  c7 : w.cell? ⟨n, 7, none⟩ = some (.string s.key)
  c8 : w.cell? ⟨n, 8, none⟩ = some (.string s.value)
  c9 : w.cell? ⟨n, 9, none⟩ = some (.int .i64 s.page)
  c10 : w.cell? ⟨n, 10, none⟩ = some (.int .i64 s.hp)
  c11 : w.cell? ⟨n, 11, none⟩ = some (.int .i64 s.hl)
  c12 : w.cell? ⟨n, 12, none⟩ = some (.string s.hk)
  c13 : w.cell? ⟨n, 13, none⟩ = some (.int .i64 s.ns)
  c14 : w.cell? ⟨n, 14, none⟩ = some (.int .i64 s.ng)
theorem RB.step {n : Nat} {s : Sc} {rv ev : Value} {w w' : World} (h : RB n s rv ev w) (hs : Below w.heap.size w w') : RB n s rv ev w' :=
  ⟨cell_step h.c0 hs, cell_step h.c1 hs, cell_step h.c2 hs, cell_step h.c3 hs, cell_step h.c4 hs, cell_step h.c5 hs, cell_step h.c6 hs, cell_step h.c7 hs, cell_step h.c8 hs, cell_step h.c9 hs, cell_step h.c10 hs, cell_step h.c11 hs, cell_step h.c12 hs, cell_step h.c13 hs, cell_step h.c14 hs⟩
theorem RB.kept {S : Nat → Prop} {n : Nat} {s : Sc} {rv ev : Value} {w w' : World} (h : RB n s rv ev w) (hk : Kept S w w') (hn : ¬ S n) : RB n s rv ev w' :=
  ⟨hk.cell hn h.c0, hk.cell hn h.c1, hk.cell hn h.c2, hk.cell hn h.c3, hk.cell hn h.c4, hk.cell hn h.c5, hk.cell hn h.c6, hk.cell hn h.c7, hk.cell hn h.c8, hk.cell hn h.c9, hk.cell hn h.c10, hk.cell hn h.c11, hk.cell hn h.c12, hk.cell hn h.c13, hk.cell hn h.c14⟩
theorem RB.new (s : Sc) (rv ev : Value) (w : World) : RB w.heap.size s rv ev (w.alloc (recObj s rv ev)) :=
  ⟨by rw [recObj, World.cell?_alloc_at _ _ _ _ rfl]; rfl, by rw [recObj, World.cell?_alloc_at _ _ _ _ rfl]; rfl, by rw [recObj, World.cell?_alloc_at _ _ _ _ rfl]; rfl, by rw [recObj, World.cell?_alloc_at _ _ _ _ rfl]; rfl, by rw [recObj, World.cell?_alloc_at _ _ _ _ rfl]; rfl, by rw [recObj, World.cell?_alloc_at _ _ _ _ rfl]; rfl, by rw [recObj, World.cell?_alloc_at _ _ _ _ rfl]; rfl, by rw [recObj, World.cell?_alloc_at _ _ _ _ rfl]; rfl, by rw [recObj, World.cell?_alloc_at _ _ _ _ rfl]; rfl, by rw [recObj, World.cell?_alloc_at _ _ _ _ rfl]; rfl, by rw [recObj, World.cell?_alloc_at _ _ _ _ rfl]; rfl, by rw [recObj, World.cell?_alloc_at _ _ _ _ rfl]; rfl, by rw [recObj, World.cell?_alloc_at _ _ _ _ rfl]; rfl, by rw [recObj, World.cell?_alloc_at _ _ _ _ rfl]; rfl, by rw [recObj, World.cell?_alloc_at _ _ _ _ rfl]; rfl⟩
set_option maxRecDepth 100000 in
set_option maxHeartbeats 8000000 in
theorem same_rec (v u : Value) (d : RecD) (w : World) (hv : RecV w v d) (hu : RecV w u d) (hl1 : d.rows.length ≤ 1000) (hl2 : d.ents.length ≤ 1000) :
    Calls Try.prog 18 #[v, u] w fun ev w' => ev = .returned (.bool true) ∧ Below w.heap.size w w' := by
  obtain ⟨s, rows, ents⟩ := d
  simp only at hl1 hl2
  obtain ⟨rv, ev, rfl, hr, he⟩ := hv
  obtain ⟨rv', ev', rfl, hr', he'⟩ := hu
  simp only at hr he hr' he'
  obtain ⟨a1, c1, rfl, k1, m1⟩ := hr.lenform
  obtain ⟨a2, c2, rfl, k2, m2⟩ := hr'.lenform
  obtain ⟨a3, c3, rfl, k3, m3⟩ := he.lenform
  obtain ⟨a4, c4, rfl, k4, m4⟩ := he'.lenform
  obtain ⟨n, hn⟩ : ∃ n, rows.length = n := ⟨_, rfl⟩
  obtain ⟨m, hm⟩ : ∃ m, ents.length = m := ⟨_, rfl⟩
  rw [hn] at hr hr' hl1 k1 k2 ⊢
  rw [hm] at he he' hl2 k3 k4 ⊢
  obtain ⟨W, hW⟩ : ∃ W, W = (w.alloc (recObj s (.slice a1 n c1) (.slice a3 m c3))).alloc (recObj s (.slice a2 n c2) (.slice a4 m c4)) := ⟨_, rfl⟩
  have b1 := alloc_below0 w (recObj s (.slice a1 n c1) (.slice a3 m c3))
  have b2 := alloc_below0 (w.alloc (recObj s (.slice a1 n c1) (.slice a3 m c3))) (recObj s (.slice a2 n c2) (.slice a4 m c4))
  have z1 : (w.alloc (recObj s (.slice a1 n c1) (.slice a3 m c3))).heap.size = w.heap.size + 1 := by simp
  have BW := Lib.hid (show Below w.heap.size w W by rw [hW]; exact b1.trans (b2.mono b1.size))
  have G := Lib.hid (show RB w.heap.size s (.slice a1 n c1) (.slice a3 m c3) W ∧ RB (w.heap.size + 1) s (.slice a2 n c2) (.slice a4 m c4) W by
    rw [hW]; exact ⟨(RB.new _ _ _ _).step b2, z1 ▸ RB.new _ _ _ _⟩)
  have V := Lib.hid (show SV lRow W (.slice a1 n c1) rows ∧ SV lRow W (.slice a2 n c2) rows ∧ SV lEnt W (.slice a3 m c3) ents ∧ SV lEnt W (.slice a4 m c4) ents from ⟨hr.below BW.out, hr'.below BW.out, he.below BW.out, he'.below BW.out⟩)
  have LN := Lib.hid (show rows.length = n ∧ ents.length = m from ⟨hn, hm⟩)
  have hWW := Lib.hid hW
  unfold maxLen at m1 m2 m3 m4
  clear hr hr' he he' hn hm hW b1 b2 z1
  have t1 : ((n : Int) != (n : Int)) = false := by simp
  have t2 : ((m : Int) != (m : Int)) = false := by simp
  unfold recVal
  unfold recObj at hWW
  go_enter Try.func18, Try.ntmps18
  go_wp2
  go_loopg [5] n (fun r i wr => ∃ k : Nat, k + r = n ∧ i = .int .i64 k ∧ Below W.heap.size W wr)
  case atStart => exact ⟨0, by omega, rfl, by rw [hWW.out]; exact Below.refl _ _⟩
  case round =>
    obtain ⟨k, hk, rfl, hB⟩ := hrel
    have A : Aside (Below W.heap.size W wr ∧ k + gk = n) := ⟨hB, hk⟩
    clear hB
    have f1 := cell_step G.out.1.c5 A.out.1
    have f2 := cell_step G.out.2.c5 A.out.1
    by_cases hlt : k < n
    · obtain ⟨b1, o1, hb1⟩ := V.out.1.addr (by rw [LN.out.1]; omega)
      obtain ⟨b2, o2, hb2⟩ := V.out.2.1.addr (by rw [LN.out.1]; omega)
      subst hb1 hb2
      obtain ⟨x, hx⟩ : ∃ x, rows[k]? = some x := ⟨_, List.getElem?_eq_getElem (by rw [LN.out.1]; exact hlt)⟩
      obtain ⟨p, q⟩ := x
      have x1 := cell_step (V.out.1.cellAt (j := 0) hx rfl) A.out.1
      have x2 := cell_step (V.out.1.cellAt (j := 1) hx rfl) A.out.1
      have y1 := cell_step (V.out.2.1.cellAt (j := 0) hx rfl) A.out.1
      have y2 := cell_step (V.out.2.1.cellAt (j := 1) hx rfl) A.out.1
      simp only [lRow, Nat.add_zero] at x1 x2 y1 y2
      have j1 : (0 : Int) ≤ (k : Int) := by omega
      have j2 : (k : Int) < (n : Int) := by omega
      have e1 : (p.toList == p.toList) = true := by simp
      have e2 : (q.toList == q.toList) = true := by simp
      clear hx
      go_wp2
      go_quiet (fail)
      go_wp2
      go_roundg (n - (k + 1))
      case measure => have := A.out.2; omega
      case rel => exact ⟨k + 1, by omega, by go_num, below_drewN A.out.1 _⟩
    · clear f1 f2
      have f3 := cell_step G.out.1.c6 A.out.1
      have f4 := cell_step G.out.2.c6 A.out.1
      have f1 := cell_step G.out.1.c5 A.out.1
      have AA := Lib.hid A.out.1
      clear A
      go_wp2
      go_loopg [6] m (fun r i wr => ∃ k : Nat, k + r = m ∧ i = .int .i64 k ∧ Below W.heap.size W wr)
      case atStart => exact ⟨0, by omega, rfl, AA.out⟩
      case round =>
        obtain ⟨k, hk, rfl, hB⟩ := hrel
        have A : Aside (Below W.heap.size W wr ∧ k + gk = m) := ⟨hB, hk⟩
        clear hB
        have f1 := cell_step G.out.1.c6 A.out.1
        have f2 := cell_step G.out.2.c6 A.out.1
        by_cases hlt : k < m
        · obtain ⟨b1, o1, hb1⟩ := V.out.2.2.1.addr (by rw [LN.out.2]; omega)
          obtain ⟨b2, o2, hb2⟩ := V.out.2.2.2.addr (by rw [LN.out.2]; omega)
          subst hb1 hb2
          obtain ⟨x, hx⟩ : ∃ x, ents[k]? = some x := ⟨_, List.getElem?_eq_getElem (by rw [LN.out.2]; exact hlt)⟩
          obtain ⟨p, q⟩ := x
          have x1 := cell_step (V.out.2.2.1.cellAt (j := 0) hx rfl) A.out.1
          have x2 := cell_step (V.out.2.2.1.cellAt (j := 1) hx rfl) A.out.1
          have y1 := cell_step (V.out.2.2.2.cellAt (j := 0) hx rfl) A.out.1
          have y2 := cell_step (V.out.2.2.2.cellAt (j := 1) hx rfl) A.out.1
          simp only [lEnt, Nat.add_zero] at x1 x2 y1 y2
          have j1 : (0 : Int) ≤ (k : Int) := by omega
          have j2 : (k : Int) < (m : Int) := by omega
          have e1 : (p.toList == p.toList) = true := by simp
          have e2 : (q == q) = true := by simp
          clear hx
          go_wp2
          go_quiet (fail)
          go_wp2
          go_roundg (m - (k + 1))
          case measure => have := A.out.2; omega
          case rel => exact ⟨k + 1, by omega, by go_num, below_drewN A.out.1 _⟩
        · clear f1 f2
          have g0 := cell_step G.out.1.c0 A.out.1
          have h0 := cell_step G.out.2.c0 A.out.1
          have g1 := cell_step G.out.1.c1 A.out.1
          have h1 := cell_step G.out.2.c1 A.out.1
          have g2 := cell_step G.out.1.c2 A.out.1
          have h2 := cell_step G.out.2.c2 A.out.1
          have g3 := cell_step G.out.1.c3 A.out.1
          have h3 := cell_step G.out.2.c3 A.out.1
          have g4 := cell_step G.out.1.c4 A.out.1
          have h4 := cell_step G.out.2.c4 A.out.1
          have g5 := cell_step G.out.1.c5 A.out.1
          have h5 := cell_step G.out.2.c5 A.out.1
          have g6 := cell_step G.out.1.c6 A.out.1
          have h6 := cell_step G.out.2.c6 A.out.1
          have g7 := cell_step G.out.1.c7 A.out.1
          have h7 := cell_step G.out.2.c7 A.out.1
          have g8 := cell_step G.out.1.c8 A.out.1
          have h8 := cell_step G.out.2.c8 A.out.1
          have g9 := cell_step G.out.1.c9 A.out.1
          have h9 := cell_step G.out.2.c9 A.out.1
          have g10 := cell_step G.out.1.c10 A.out.1
          have h10 := cell_step G.out.2.c10 A.out.1
          have g11 := cell_step G.out.1.c11 A.out.1
          have h11 := cell_step G.out.2.c11 A.out.1
          have g12 := cell_step G.out.1.c12 A.out.1
          have h12 := cell_step G.out.2.c12 A.out.1
          have g13 := cell_step G.out.1.c13 A.out.1
          have h13 := cell_step G.out.2.c13 A.out.1
          have g14 := cell_step G.out.1.c14 A.out.1
          have h14 := cell_step G.out.2.c14 A.out.1
          go_wp2
          go_ret
          exact ⟨retB (by simp), BW.out.trans (A.out.1.mono BW.out.size)⟩

open Go.RowKit Go.Extern.Stop Go.Stop Go.Extern


open Go.RowKit

/-- a record that was put: its slot, its generation, what it reads as, and is it still there? -/
structure Pt where
  slot : Nat
  gen : Nat
  rcd : RecD
  live : Bool
/-- a slot's generation, and is it used? -/
def slotOf (ps : List Pt) (n : Nat) : Nat × Bool := ps.foldl (fun s p => if p.slot = n then (p.gen, p.live) else s) (0, false)
def allocGo (l : Nat) (ps : List Pt) : Nat → Nat → Int → Nat × Nat × Int
  | 0, _, e => (0, 0, e)
  | f + 1, n, e => if (slotOf ps n).2 then allocGo l ps f (n + 1) e else if (slotOf ps n).1 < l then (n, (slotOf ps n).1 + 1, 0) else allocGo l ps f (n + 1) 5
/-- slot, generation and code of what is put next -/
def allocM (n l : Nat) (ps : List Pt) : Nat × Nat × Int := allocGo l ps n 1 3
def putM (n l : Nat) (ps : List Pt) (d : RecD) : List Pt := if (allocM n l ps).2.2 = 0 then ps ++ [⟨(allocM n l ps).1, (allocM n l ps).2.1, d, true⟩] else ps
def isAt (x y : Int) (p : Pt) : Bool := (p.slot : Int) == x && (p.gen : Int) == y && p.live
def findM (ps : List Pt) (x y : Int) : Option Nat := ps.findIdx? (isAt x y)
def codeM (n : Nat) (ps : List Pt) (x y : Int) : Int := if x < 1 ∨ (n : Int) < x then 1 else if (findM ps x y).isNone then 4 else 0
def loadM (n : Nat) (ps : List Pt) (x y : Int) : RecD := if codeM n ps x y = 0 then (match (findM ps x y).bind (ps[·]?) with | some p => p.rcd | none => RecD.zero) else RecD.zero
def freeM (n : Nat) (ps : List Pt) (x y : Int) : List Pt := if codeM n ps x y = 0 then (match findM ps x y with | some i => ps.modify i (fun p => { p with live := false }) | none => ps) else ps
def liveM (n : Nat) (ps : List Pt) : List Rf := ((List.range n).filter fun i => (slotOf ps (i + 1)).2).map fun i => (((i + 1 : Nat) : Int), ((slotOf ps (i + 1)).1 : Int))
def leftM (n l : Nat) (ps : List Pt) : Nat := ((List.range n).filter fun i => !(slotOf ps (i + 1)).2 && decide ((slotOf ps (i + 1)).1 < l)).length
def okN (n l : Int) : Bool := decide (1 ≤ n) && decide (n ≤ 4096) && decide (1 ≤ l) && decide (l ≤ 1099511627776)
structure ArC where
  Inv : World → Addr → (Nat → Prop) → Nat → Nat → List Pt → Prop
  keep : ∀ {w w' : World} {a : Addr} {S : Nat → Prop} {n l : Nat} {ps : List Pt}, Inv w a S n l ps → Kept (fun k => ¬ S k) w w' → Inv w' a S n l ps
  foot : ∀ {w : World} {a : Addr} {S : Nat → Prop} {n l : Nat} {ps : List Pt}, Inv w a S n l ps → ∀ k, S k → k < w.heap.size
  new : ∀ (n l : Nat) (w : World), okN n l = true → Calls Try.prog 26 #[.int .i64 (n : Int), .int .i64 (l : Int)] w fun ev w' => ∃ a S, ev = .returned (.pointer (some a)) ∧ Inv w' a S n l [] ∧ (∀ k, S k → w.heap.size ≤ k) ∧ Below w.heap.size w w'
  newNo : ∀ (n l : Int) (w : World), okN n l = false → Calls Try.prog 26 #[.int .i64 n, .int .i64 l] w fun ev w' => ev = .returned (.pointer none) ∧ Below w.heap.size w w'
  alloc : ∀ (a : Addr) (v : Value) (S : Nat → Prop) (n l : Nat) (ps : List Pt) (d : RecD) (w : World), Inv w a S n l ps → RecV w v d → d.rows.length ≤ 1000 → d.ents.length ≤ 1000 →
    Calls Try.prog 52 #[.pointer (some a), v] w fun ev w' => ∃ S', ev = .returned (.tuple #[refV ((allocM n l ps).1 : Int) ((allocM n l ps).2.1 : Int), errV (allocM n l ps).2.2]) ∧ Inv w' a S' n l (putM n l ps d) ∧ Kept S w w' ∧ (∀ k, S' k → S k ∨ w.heap.size ≤ k)
  load : ∀ (a : Addr) (S : Nat → Prop) (n l : Nat) (ps : List Pt) (x y : Int) (w : World), Inv w a S n l ps →
    Calls Try.prog 46 #[.pointer (some a), refV x y] w fun ev w' => ∃ rv en, ev = .returned (.tuple #[recVal (loadM n ps x y).sc rv en, errV (codeM n ps x y)]) ∧ OwnS lRow w.heap.size w' rv (loadM n ps x y).rows ∧ OwnS lEnt w.heap.size w' en (loadM n ps x y).ents ∧ Below w.heap.size w w'
  free : ∀ (a : Addr) (S : Nat → Prop) (n l : Nat) (ps : List Pt) (x y : Int) (w : World), Inv w a S n l ps →
    Calls Try.prog 64 #[.pointer (some a), refV x y] w fun ev w' => ∃ S', ev = .returned (errV (codeM n ps x y)) ∧ Inv w' a S' n l (freeM n ps x y) ∧ Kept S w w' ∧ (∀ k, S' k → S k ∨ w.heap.size ≤ k)
  live : ∀ (a : Addr) (S : Nat → Prop) (n l : Nat) (ps : List Pt) (w : World), Inv w a S n l ps →
    Calls Try.prog 48 #[.pointer (some a)] w fun ev w' => ∃ v', ev = .returned v' ∧ OwnS lRef w.heap.size w' v' (liveM n ps) ∧ Below w.heap.size w w'
  clone : ∀ (v : Value) (d : RecD) (w : World), RecV w v d → d.rows.length ≤ 1000 → d.ents.length ≤ 1000 →
    Calls Try.prog 36 #[v] w fun ev w' => ∃ rv en, ev = .returned (recVal d.sc rv en) ∧ OwnS lRow w.heap.size w' rv d.rows ∧ OwnS lEnt w.heap.size w' en d.ents ∧ Below w.heap.size w w'
  allocNil : ∀ (v : Value) (d : RecD) (w : World), RecV w v d → d.rows.length ≤ 1000 → d.ents.length ≤ 1000 → Calls Try.prog 52 #[.pointer none, v] w fun ev w' => ev = .returned (.tuple #[refV 0 0, .iface 72 (.int .i64 1)]) ∧ Below w.heap.size w w'
  loadNil : ∀ (x y : Int) (w : World), Calls Try.prog 46 #[.pointer none, refV x y] w fun ev w' => ∃ rv en, ev = .returned (.tuple #[recVal Sc.zero rv en, .iface 72 (.int .i64 1)]) ∧ SV lRow w' rv [] ∧ SV lEnt w' en [] ∧ Below w.heap.size w w'
  freeNil : ∀ (x y : Int) (w : World), Calls Try.prog 64 #[.pointer none, refV x y] w fun ev w' => ev = .returned (.iface 72 (.int .i64 1)) ∧ Below w.heap.size w w'
  liveNil : ∀ (w : World), Calls Try.prog 48 #[.pointer none] w fun ev w' => ∃ v', ev = .returned v' ∧ SV lRef w' v' [] ∧ Below w.heap.size w w'
theorem ArC.step (C : ArC) {w w' : World} {a : Addr} {S : Nat → Prop} {n l : Nat} {ps : List Pt} (h : C.Inv w a S n l ps) (hb : Below w.heap.size w w') : C.Inv w' a S n l ps :=
  C.keep h ⟨hb.os, hb.tape, hb.output, hb.size, fun k hk _ => hb.block k hk⟩

/-! ### awake -/
def rec1 (k : Int) : RecD := ⟨{ Sc.zero with kind := k }, [], []⟩
def rec1V (k : Int) : Value := recVal { Sc.zero with kind := k } (.slice none 0 0) (.slice none 0 0)
theorem rec1_reads (k : Int) (w : World) : RecV w (rec1V k) (rec1 k) := ⟨_, _, rfl, SV.nil _ _, SV.nil _ _⟩
def ps1 : List Pt := [⟨1, 1, rec1 1, true⟩]
def ps2 : List Pt := [⟨1, 1, rec1 1, false⟩]
def ps3 : List Pt := [⟨1, 1, rec1 1, false⟩, ⟨1, 2, rec1 2, true⟩]
theorem a1 : allocM 2 9 [] = (1, 1, 0) := by decide
theorem a2 : putM 2 9 [] (rec1 1) = ps1 := by unfold putM; rw [a1]; rfl
theorem a3 : codeM 2 ps1 1 1 = 0 := by decide
theorem a4 : freeM 2 ps1 1 1 = ps2 := by unfold freeM; rw [a3]; rfl
theorem a5 : allocM 2 9 ps2 = (1, 2, 0) := by decide
theorem a6 : putM 2 9 ps2 (rec1 2) = ps3 := by unfold putM; rw [a5]; rfl
theorem a7 : codeM 2 ps3 1 1 = 4 := by decide
/-- behind a call that changes an arena: what began the law is as it was -/
theorem mut_step {n0 : Nat} {w0 w1 w2 : World} {S S2 : Nat → Prop} (G : ∀ k, S k → n0 ≤ k) (B : Below n0 w0 w1) (hn : n0 ≤ w1.heap.size) (hk : Kept S w1 w2) (hS : ∀ k, S2 k → S k ∨ w1.heap.size ≤ k) :
    Below n0 w0 w2 ∧ (∀ k, S2 k → n0 ≤ k) ∧ n0 ≤ w2.heap.size :=
  ⟨B.trans (hk.below G hn), fun k h => (hS k h).elim (G k) (fun h => Nat.le_trans hn h), Nat.le_trans hn hk.size⟩
theorem off_step {w1 : World} {S S2 : Nat → Prop} {b : Nat} (hb : ¬ S b) (hlt : b < w1.heap.size) (hS : ∀ k, S2 k → S k ∨ w1.heap.size ≤ k) : ¬ S2 b := fun h => (hS b h).elim hb (fun h => Nat.lt_irrefl b (Nat.lt_of_lt_of_le hlt h))
theorem fullE (e : Int) (h : e = 0) : errV e = .nilIface := by unfold errV; rw [if_pos h]
theorem alloc_at (C : ArC) (a : Addr) (v : Value) (S : Nat → Prop) (n l : Nat) (ps : List Pt) (d : RecD) (i g : Nat) (qs : List Pt) (w : World) (h : C.Inv w a S n l ps) (hv : RecV w v d) (h1 : d.rows.length ≤ 1000) (h2 : d.ents.length ≤ 1000) (ha : allocM n l ps = (i, g, 0)) (hq : putM n l ps d = qs) :
    Calls Try.prog 52 #[.pointer (some a), v] w fun ev w' => ∃ S', ev = .returned (.tuple #[.agg #[.int .i64 (i : Int), .int .i64 (g : Int)], .nilIface]) ∧ C.Inv w' a S' n l qs ∧ Kept S w w' ∧ (∀ k, S' k → S k ∨ w.heap.size ≤ k) := by
  have e := C.alloc a v S n l ps d w h hv h1 h2
  rw [ha, hq] at e
  exact e
open Go.RowKit

def ar_doVal (verb : Int) (s : Sc) (rv en : Value) (x y : Int) (last : Bool) (nn : Int) : Value := .agg #[.int .i64 verb, .int .i64 s.kind, .string s.low, .string s.high, .bool s.unb, .int .i64 s.right, rv, en, .string s.key, .string s.value, .int .i64 s.page, .int .i64 s.hp, .int .i64 s.hl, .string s.hk, .int .i64 s.ns, .int .i64 s.ng, .int .i64 x, .int .i64 y, .bool last, .int .u8 nn]
structure DB (n : Nat) (verb : Int) (s : Sc) (rv en : Value) (x y : Int) (last : Bool) (nn : Int) (w : World) : Prop where
  c0 : w.cell? ⟨n, 0, none⟩ = some (.int .i64 verb)
  c1 : w.cell? ⟨n, 1, none⟩ = some (.int .i64 s.kind)
  c2 : w.cell? ⟨n, 2, none⟩ = some (.string s.low)
  c3 : w.cell? ⟨n, 3, none⟩ = some (.string s.high)
  c4 : w.cell? ⟨n, 4, none⟩ = some (.bool s.unb)
  c5 : w.cell? ⟨n, 5, none⟩ = some (.int .i64 s.right)
  c6 : w.cell? ⟨n, 6, none⟩ = some rv
  c7 : w.cell? ⟨n, 7, none⟩ = some en
  c8 : w.cell? ⟨n, 8, none⟩ = some (.string s.key)
  c9 : w.cell? ⟨n, 9, none⟩ = some (.string s.value)
  c10 : w.cell? ⟨n, 10, none⟩ = some (.int .i64 s.page)
  c11 : w.cell? ⟨n, 11, none⟩ = some (.int .i64 s.hp)
  c12 : w.cell? ⟨n, 12, none⟩ = some (.int .i64 s.hl)
  c13 : w.cell? ⟨n, 13, none⟩ = some (.string s.hk)
  c14 : w.cell? ⟨n, 14, none⟩ = some (.int .i64 s.ns)
  c15 : w.cell? ⟨n, 15, none⟩ = some (.int .i64 s.ng)
  c16 : w.cell? ⟨n, 16, none⟩ = some (.int .i64 x)
  c17 : w.cell? ⟨n, 17, none⟩ = some (.int .i64 y)
  c18 : w.cell? ⟨n, 18, none⟩ = some (.bool last)
  c19 : w.cell? ⟨n, 19, none⟩ = some (.int .u8 nn)
theorem DB.step {n : Nat} {verb : Int} {s : Sc} {rv en : Value} {x y : Int} {last : Bool} {nn : Int} {w w' : World} (h : DB n verb s rv en x y last nn w) (hs : Below w.heap.size w w') : DB n verb s rv en x y last nn w' :=
  ⟨cell_step h.c0 hs, cell_step h.c1 hs, cell_step h.c2 hs, cell_step h.c3 hs, cell_step h.c4 hs, cell_step h.c5 hs, cell_step h.c6 hs, cell_step h.c7 hs, cell_step h.c8 hs, cell_step h.c9 hs, cell_step h.c10 hs, cell_step h.c11 hs, cell_step h.c12 hs, cell_step h.c13 hs, cell_step h.c14 hs, cell_step h.c15 hs, cell_step h.c16 hs, cell_step h.c17 hs, cell_step h.c18 hs, cell_step h.c19 hs⟩
theorem DB.kept {n : Nat} {verb : Int} {s : Sc} {rv en : Value} {x y : Int} {last : Bool} {nn : Int} {S : Nat → Prop} {w w' : World} (h : DB n verb s rv en x y last nn w) (hk : Kept S w w') (hn : ¬ S n) : DB n verb s rv en x y last nn w' :=
  ⟨hk.cell hn h.c0, hk.cell hn h.c1, hk.cell hn h.c2, hk.cell hn h.c3, hk.cell hn h.c4, hk.cell hn h.c5, hk.cell hn h.c6, hk.cell hn h.c7, hk.cell hn h.c8, hk.cell hn h.c9, hk.cell hn h.c10, hk.cell hn h.c11, hk.cell hn h.c12, hk.cell hn h.c13, hk.cell hn h.c14, hk.cell hn h.c15, hk.cell hn h.c16, hk.cell hn h.c17, hk.cell hn h.c18, hk.cell hn h.c19⟩
/-- a block of two numbers -/
structure XB (n : Nat) (x y : Int) (w : World) : Prop where
  c0 : w.cell? ⟨n, 0, none⟩ = some (.int .i64 x)
  c1 : w.cell? ⟨n, 1, none⟩ = some (.int .i64 y)
theorem XB.step {n : Nat} {x y : Int} {w w' : World} (h : XB n x y w) (hs : Below w.heap.size w w') : XB n x y w' := ⟨cell_step h.c0 hs, cell_step h.c1 hs⟩
theorem XB.kept {S : Nat → Prop} {n : Nat} {x y : Int} {w w' : World} (h : XB n x y w) (hk : Kept S w w') (hn : ¬ S n) : XB n x y w' := ⟨hk.cell hn h.c0, hk.cell hn h.c1⟩
theorem XB.new (x y : Int) (w : World) (t : TypeId) : XB w.heap.size x y (w.alloc (.cells #[.int .i64 x, .int .i64 y] t)) := ⟨by rw [World.cell?_alloc_at _ _ _ _ rfl]; rfl, by rw [World.cell?_alloc_at _ _ _ _ rfl]; rfl⟩

open Go.RowKit
variable {α : Type}

end Go.Proofs.Ytaiaaljahnackaa
