/- Layer 9's laws' own 'few', the document's Right, by contracts; steps that came in. -/
import Derived.Test.YtkkmfacngmginaaDoorMmChain
import Derived.Test.YtkkmfacngmginaaDoorArFew
import Derived.Test.YtkkmfacngmginaaDoorMmOps
namespace Go.Proofs.YtkkmfacngmginaaDoor
open Go.RowKit

set_option maxRecDepth 100000 in
set_option maxHeartbeats 4000000 in
theorem count_any (w : World) (m : MB) (S : Nat → Prop) (l : LimN) (k : Int) (ps : List Pt) (L : List Pg) (c : Ck) (h : MemAt w m S l k ps L c) :
    Calls Tryd.prog 50 #[.pointer (some ⟨m.mb, 0, none⟩)] w fun ev w' => ev = .returned (.int .i64 k) ∧ Below w.heap.size w w' := by
  have x0 := h.cN
  go_enter Tryd.func50, Tryd.ntmps50
  go_wp2
  go_ret
  exact ⟨rfl, Below.refl _ _⟩
def limA : LimN := ⟨9, 3, 2, 4, 4, 99⟩
theorem limA_ok : limA.ok := by constructor <;> decide
theorem codeB {n : Nat} (h : 1 ≤ n) : codeM n psB 1 1 = 0 := by
  unfold codeM
  rw [if_neg (by omega), if_neg (by decide)]
theorem loadB {n : Nat} (h : 1 ≤ n) : loadM n psB 1 1 = baseD := by
  unfold loadM
  rw [if_pos (codeB h)]
  rfl
theorem chainB {n p : Nat} (h : 1 ≤ n) : chM n psB (pgs1 p) 0 = ([(baseD.sc, (1, 1))], 0) := by
  unfold chM pgs1
  rw [code0, if_neg (by decide), show headT (some (1, 1) :: pages0 (p - 1)) 0 = (1, 1) from headT_at (i := 0) rfl]
  obtain ⟨k, rfl⟩ : ∃ k, n = k + 1 := ⟨n - 1, by omega⟩
  rw [chGo, if_neg (by decide), if_neg (by rw [codeB (by omega)]; decide), loadB (by omega)]
  rw [show baseD.sc.ns = 0 from rfl, show baseD.sc.ng = 0 from rfl, chGo_end]
  rfl
theorem chainA : chM limA.s psB (pgs1 limA.p) 0 = ([(baseD.sc, (1, 1))], 0) := chainB (by decide)
theorem one_of {α β : Type} {f : α → β} {ds : List α} {y : β} (h : ds.map f = [y]) : ∃ d, ds = [d] ∧ f d = y := by
  cases ds with
  | nil => cases h
  | cons d t =>
    simp only [List.map_cons, List.cons.injEq, List.map_eq_nil_iff] at h
    exact ⟨d, by rw [h.2], h.1⟩
set_option maxRecDepth 100000 in
set_option maxHeartbeats 4000000 in
theorem awakeMm (w : World) : Calls Tryd.prog 28 #[] w fun ev w' => ev = .returned (.bool true) ∧ Below w.heap.size w w' := by
  have fn := fun w => mem_new limA limA_ok w
  unfold limV limA LimN.z at fn
  go_enter Tryd.func28, Tryd.ntmps28
  go_wp2_with fail
  refine (fn _).mono ?_
  rintro ev w1 ⟨m, S, rfl, hM, hF, hs⟩
  have M1 := Lib.hid (show MemAt w1 m S limA 0 psB (pgs1 limA.p) (Ck.new limA.t limA.c) from hM)
  have B1 := Lib.hid hs
  clear hM hF hs fn
  go_wp2_with fail
  refine (chain_any _ m S limA 0 _ _ _ 0 M1.out).mono ?_
  rw [chainA]
  rintro ev w2 ⟨v1, v2, v3, ds, rfl, hm, o1, o2, he, hs⟩
  obtain ⟨d, rfl, hd⟩ := one_of hm
  obtain rfl : v3 = .nilIface := by
    rcases he with ⟨-, h⟩ | ⟨h, -⟩
    · exact h
    · exact absurd rfl h
  obtain ⟨a1, c1, rfl, -, -⟩ := o1.sv.lenform
  obtain ⟨a2, c2, rfl, -, -⟩ := o2.sv.lenform
  obtain ⟨b1, f1, rfl⟩ := o1.sv.addr (by simp)
  obtain ⟨b2, f2, rfl⟩ := o2.sv.addr (by simp)
  have y0 := o1.sv.cellAt (i := 0) (j := 0) (x := d) rfl rfl
  have y3 := o1.sv.cellAt (i := 0) (j := 3) (x := d) rfl rfl
  have z0 := o2.sv.cellAt (i := 0) (j := 0) (x := ((1, 1) : Rf)) rfl rfl
  have z1 := o2.sv.cellAt (i := 0) (j := 1) (x := ((1, 1) : Rf)) rfl rfl
  rw [hd] at y0 y3
  simp only [lRec, lRef, baseD, Nat.zero_mul, Nat.add_zero] at y0 y3 z0 z1
  have M2 := Lib.hid (M1.out.low hs)
  have B2 := Lib.hid (B1.out.trans (hs.mono B1.out.size))
  clear hs hm o1 o2 he hd
  go_wp2_with fail
  refine (count_any _ m S limA 0 _ _ _ M2.out).mono ?_
  rintro ev w3 ⟨rfl, hs⟩
  have B3 := Lib.hid (B2.out.trans (hs.mono B2.out.size))
  clear hs y0 y3 z0 z1
  go_wp2
  go_ret
  exact ⟨rfl, B3.out⟩

open Go.RowKit

structure DM where
  verb : Int
  n : Int
  at_ : Int
  right : Bool
  xs : Int
  xg : Int
  ys : Int
  yg : Int
  r : RcL
def DM.cells (d : DM) : List Value := .int .i64 d.verb :: .int .i64 d.n :: .int .i64 d.at_ :: .bool d.right :: .int .i64 d.xs :: .int .i64 d.xg :: .int .i64 d.ys :: .int .i64 d.yg :: d.r.cells
def dmVal (d : DM) : Value := .agg #[.int .i64 d.verb, .int .i64 d.n, .int .i64 d.at_, .bool d.right, .int .i64 d.xs, .int .i64 d.xg, .int .i64 d.ys, .int .i64 d.yg, .int .i64 d.r.sc.kind, .string d.r.sc.low, .string d.r.sc.high, .bool d.r.sc.unb, .int .i64 d.r.sc.right, .slice d.r.ra d.r.rn d.r.rc, .slice d.r.ea d.r.en d.r.ec, .string d.r.sc.key, .string d.r.sc.value, .int .i64 d.r.sc.page, .int .i64 d.r.sc.hp, .int .i64 d.r.sc.hl, .string d.r.sc.hk, .int .i64 d.r.sc.ns, .int .i64 d.r.sc.ng]
def dmObj (d : DM) : Obj := .cells #[.int .i64 d.verb, .int .i64 d.n, .int .i64 d.at_, .bool d.right, .int .i64 d.xs, .int .i64 d.xg, .int .i64 d.ys, .int .i64 d.yg, .int .i64 d.r.sc.kind, .string d.r.sc.low, .string d.r.sc.high, .bool d.r.sc.unb, .int .i64 d.r.sc.right, .slice d.r.ra d.r.rn d.r.rc, .slice d.r.ea d.r.en d.r.ec, .string d.r.sc.key, .string d.r.sc.value, .int .i64 d.r.sc.page, .int .i64 d.r.sc.hp, .int .i64 d.r.sc.hl, .string d.r.sc.hk, .int .i64 d.r.sc.ns, .int .i64 d.r.sc.ng] 120
/-- a step in a block -/
structure DmAt (w : World) (b : Nat) (d : DM) : Prop where
  blk : w.heap[b]? = some (dmObj d)
theorem DmAt.step {w w' : World} {b : Nat} {d : DM} (h : DmAt w b d) (hs : Below w.heap.size w w') : DmAt w' b d := ⟨blk_step h.blk hs⟩
theorem DmAt.new (d : DM) (w : World) : DmAt (w.alloc (dmObj d)) w.heap.size d := ⟨blk_new w _⟩
theorem DmAt.lt {w : World} {b : Nat} {d : DM} (h : DmAt w b d) : b < w.heap.size := (Array.getElem?_eq_some_iff.1 h.blk).1
theorem DmAt.keep {w w' : World} {b : Nat} {d : DM} (h : DmAt w b d) {S : Nat → Prop} (hk : Kept S w w') (hn : ¬ S b) : DmAt w' b d := ⟨(hk.block b h.lt hn).trans h.blk⟩
theorem DmAt.c0 {w : World} {b : Nat} {d : DM} (h : DmAt w b d) : w.cell? ⟨b, 0, none⟩ = some (.int .i64 d.verb) := blk_cell h.blk 0
theorem DmAt.c1 {w : World} {b : Nat} {d : DM} (h : DmAt w b d) : w.cell? ⟨b, 1, none⟩ = some (.int .i64 d.n) := blk_cell h.blk 1
theorem DmAt.c2 {w : World} {b : Nat} {d : DM} (h : DmAt w b d) : w.cell? ⟨b, 2, none⟩ = some (.int .i64 d.at_) := blk_cell h.blk 2
theorem DmAt.c4 {w : World} {b : Nat} {d : DM} (h : DmAt w b d) : w.cell? ⟨b, 4, none⟩ = some (.int .i64 d.xs) := blk_cell h.blk 4
theorem DmAt.c5 {w : World} {b : Nat} {d : DM} (h : DmAt w b d) : w.cell? ⟨b, 5, none⟩ = some (.int .i64 d.xg) := blk_cell h.blk 5
theorem DmAt.c6 {w : World} {b : Nat} {d : DM} (h : DmAt w b d) : w.cell? ⟨b, 6, none⟩ = some (.int .i64 d.ys) := blk_cell h.blk 6
theorem DmAt.c7 {w : World} {b : Nat} {d : DM} (h : DmAt w b d) : w.cell? ⟨b, 7, none⟩ = some (.int .i64 d.yg) := blk_cell h.blk 7
theorem DmAt.c13 {w : World} {b : Nat} {d : DM} (h : DmAt w b d) : w.cell? ⟨b, 13, none⟩ = some (.slice d.r.ra d.r.rn d.r.rc) := blk_cell h.blk 13
theorem DmAt.c14 {w : World} {b : Nat} {d : DM} (h : DmAt w b d) : w.cell? ⟨b, 14, none⟩ = some (.slice d.r.ea d.r.en d.r.ec) := blk_cell h.blk 14
theorem DmAt.rng {w : World} {b : Nat} {d : DM} (h : DmAt w b d) : w.rangeAt b 8 [.int .i64 d.r.sc.kind, .string d.r.sc.low, .string d.r.sc.high, .bool d.r.sc.unb, .int .i64 d.r.sc.right, .slice d.r.ra d.r.rn d.r.rc, .slice d.r.ea d.r.en d.r.ec, .string d.r.sc.key, .string d.r.sc.value, .int .i64 d.r.sc.page, .int .i64 d.r.sc.hp, .int .i64 d.r.sc.hl, .string d.r.sc.hk, .int .i64 d.r.sc.ns, .int .i64 d.r.sc.ng] := fun j u hj => by
  rw [blk_cell h.blk]
  rw [← hj]
  rcases j with _ | _ | _ | _ | _ | _ | _ | _ | _ | _ | _ | _ | _ | _ | _ | j
  all_goals first | rfl | simp at hj

open Go.RowKit

theorem DM.cells_one (d : DM) : ∀ u ∈ d.cells, u.oneCell' = true := fun u h => by
  simp only [DM.cells, List.mem_cons] at h
  rcases h with h | h | h | h | h | h | h | h | h
  iterate 8 (first | (subst h; rfl) | skip)
  all_goals first | exact d.r.cells_one u h | (subst h; rfl)
def lDm : Lay DM := ⟨120, 23, DM.cells, fun _ => rfl, DM.cells_one⟩
theorem okB_no {l : Lim} (h : l.s < 4 ∨ 4096 < l.s ∨ l.p < 3 ∨ 256 < l.p ∨ l.t < 1 ∨ 64 < l.t ∨ l.r < 2 ∨ 64 < l.r ∨ l.h < 2 ∨ 64 < l.h ∨ l.c < 8 ∨ 1099511627776 < l.c) : false = l.okB := by
  symm
  rw [Bool.eq_false_iff]
  intro e
  unfold Lim.okB inB at e
  simp only [Bool.and_eq_true, decide_eq_true_eq] at e
  omega
theorem okB_last {l : Lim} (h1 : 4 ≤ l.s) (h2 : l.s ≤ 4096) (h3 : 3 ≤ l.p) (h4 : l.p ≤ 256) (h5 : 1 ≤ l.t) (h6 : l.t ≤ 64) (h7 : 2 ≤ l.r) (h8 : l.r ≤ 64) (h9 : 2 ≤ l.h) (h10 : l.h ≤ 64) (h11 : 8 ≤ l.c) : decide (l.c ≤ 1099511627776) = l.okB := by
  unfold Lim.okB inB
  rw [decide_eq_true h1, decide_eq_true h2, decide_eq_true h3, decide_eq_true h4, decide_eq_true h5, decide_eq_true h6, decide_eq_true h7, decide_eq_true h8, decide_eq_true h9, decide_eq_true h10, decide_eq_true h11]
  rfl
/-- it answers some bool -/
def SomeB (w : World) (e : Ending) (w' : World) : Prop := ∃ b : Bool, e = .returned (.bool b) ∧ Below w.heap.size w w'
theorem SomeB.of {w w' : World} {b : Bool} (h : Below w.heap.size w w') : SomeB w (.returned (.bool b)) w' := ⟨b, rfl, h⟩
set_option maxRecDepth 100000 in
set_option maxHeartbeats 4000000 in
theorem rRight_any (l : Lim) (w : World) : Calls Tryd.prog 27 #[limV l] w fun ev w' => ev = .returned (.bool l.okB) ∧ Below w.heap.size w w' := by
  have B0 := Lib.hid (alloc_below0 w (limObj l))
  have L0 := Lib.hid (LimAt.new w l)
  have x0 := L0.out.c0
  have x1 := L0.out.c1
  have x2 := L0.out.c2
  have x3 := L0.out.c3
  have x4 := L0.out.c4
  have x5 := L0.out.c5
  unfold limV
  unfold limObj at B0 L0 x0 x1 x2 x3 x4 x5
  go_enter Tryd.func27, Tryd.ntmps27
  go_wp2
  all_goals (go_ret; refine ⟨congrArg (fun b => Ending.returned (Value.bool b)) ?_, B0.out⟩; first | exact okB_no (by omega) | exact okB_last (by omega) (by omega) (by omega) (by omega) (by omega) (by omega) (by omega) (by omega) (by omega) (by omega) (by omega))
theorem dm_obj (d : DM) : dmObj d = .cells d.cells.toArray 120 := rfl
/-- a step laid into a new block -/
theorem dm_put (w : World) (zs : Array Value) (d : DM) (hz : zs.size = d.cells.length) :
    Below w.heap.size w ((w.alloc (.cells zs 120)).setCells w.heap.size 0 d.cells) ∧ ((w.alloc (.cells zs 120)).setCells w.heap.size 0 d.cells).heap[w.heap.size]? = some (dmObj d) :=
  ⟨(put_new w zs 120 d.cells hz).1, by rw [dm_obj]; exact list_laid d.cells (blk_new w (.cells zs 120)) hz⟩
set_option maxRecDepth 100000 in
set_option maxHeartbeats 4000000 in
theorem few_any (l : Lim) (v : Value) (ds : List DM) (w : World) (hv : SV lDm w v ds) : Calls Tryd.prog 26 #[limV l, v] w (SomeB w) := by
  have V := Lib.hid (hv.below (alloc_below0 w (limObj l)))
  have B0 := Lib.hid (alloc_below0 w (limObj l))
  have L0 := Lib.hid (LimAt.new w l)
  have fr := fun w => rRight_any l w
  obtain ⟨a, c, rfl, hlc, hcm⟩ := hv.lenform
  obtain ⟨n, hn⟩ : ∃ n, ds.length = n := ⟨_, rfl⟩
  have LN := Lib.hid hn
  rw [hn] at V hlc ⊢
  unfold maxLen at hcm
  clear hv hn
  unfold limV at fr ⊢
  unfold limObj at B0 L0 V
  go_enter Tryd.func26, Tryd.ntmps26
  go_wp2
  go_loopg [9] n (fun r i wz => ∃ k : Nat, k + r = n ∧ i = .int .i64 k ∧ Below (w.heap.size + 1) (w.alloc (.cells #[.int .i64 l.s, .int .i64 l.p, .int .i64 l.t, .int .i64 l.r, .int .i64 l.h, .int .i64 l.c] 70)) wz)
  case atStart => exact ⟨0, by omega, rfl, Below.refl _ _⟩
  case round =>
    obtain ⟨k, hk, rfl, hB⟩ := hrel
    have A := Lib.hid (show Below (w.heap.size + 1) (w.alloc (.cells #[.int .i64 l.s, .int .i64 l.p, .int .i64 l.t, .int .i64 l.r, .int .i64 l.h, .int .i64 l.c] 70)) wr ∧ k + gk = n from ⟨hB, hk⟩)
    have BA := Lib.hid (B0.out.trans (hB.mono (by omega)))
    have sz : (w.alloc (.cells #[.int .i64 l.s, .int .i64 l.p, .int .i64 l.t, .int .i64 l.r, .int .i64 l.h, .int .i64 l.c] 70)).heap.size = w.heap.size + 1 := by simp
    have VA := Lib.hid (V.out.below (hB.mono (by omega)))
    have LA := Lib.hid (L0.out.step (hB.mono (by omega)))
    clear hB sz
    by_cases hlt : k < n
    · obtain ⟨b, off, ha⟩ := VA.out.addr (by rw [LN.out]; omega)
      subst ha
      obtain ⟨d, hx⟩ : ∃ d, ds[k]? = some d := ⟨_, List.getElem?_eq_getElem (by rw [LN.out]; exact hlt)⟩
      have hrng : wr.rangeAt b (off + k * 23) d.cells := fun j v hj => VA.out.cellAt (j := j) hx hj
      have i1 : IntKind.i64.wrap ((k : Int) + 1) = (k : Int) + 1 := Go.IntWalk.i64_in _ (by omega)
      clear hx
      go_wp2_with (first
        | (refine wpList_load_mid rfl 120 (.tmp 11) rfl b (off + k * 23) rfl d.cells _ hrng Tryd.underlying120 rfl (by kernel_rfl) ?_)
        | (refine wpList_store_mid rfl 120 (.tmp 6) (.tmp 12) rfl wr.heap.size 0 d.cells.toArray rfl rfl (there_new wr _ _) (by kernel_rfl) (all_oneCell_toArray d.cells_one) ?_
           generalize hw2 : World.setCells _ _ _ _ = w2
           have hq := Lib.hid (show Below wr.heap.size wr w2 ∧ w2.rangeAt wr.heap.size 0 d.cells by rw [← hw2]; exact put_new wr _ _ d.cells rfl)
           have z6 : w2.cell? ⟨wr.heap.size, 13, none⟩ = some (.slice d.r.ra d.r.rn d.r.rc) := hq.out.2 13 _ rfl
           have z7 : w2.cell? ⟨wr.heap.size, 14, none⟩ = some (.slice d.r.ea d.r.en d.r.ec) := hq.out.2 14 _ rfl
           have BB := Lib.hid (A.out.1.trans (hq.out.1.mono (by have := A.out.1.size; simpa using this)))
           have BC := Lib.hid (BA.out.trans (hq.out.1.mono BA.out.size))
           clear hw2))
      all_goals first
        | (go_roundg (n - (k + 1))
           case measure => have := A.out.2; omega
           case rel => exact ⟨k + 1, by omega, by go_num, BB.out⟩)
        | (go_ret
           exact SomeB.of BC.out)
    · have x0 := LA.out.c0
      have x1 := LA.out.c1
      have x2 := LA.out.c2
      have x3 := LA.out.c3
      have x4 := LA.out.c4
      have x5 := LA.out.c5
      go_wp2_with (go_at_call 27; refine (fr _).mono ?_; rintro ev wq ⟨rfl, hq⟩)
      all_goals (go_ret; first | exact SomeB.of BA.out | exact SomeB.of (BA.out.trans (hq.mono BA.out.size)))
end Go.Proofs.YtkkmfacngmginaaDoor
