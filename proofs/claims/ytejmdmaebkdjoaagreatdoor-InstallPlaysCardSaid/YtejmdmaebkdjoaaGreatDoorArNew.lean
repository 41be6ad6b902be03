/- Package arena's New, by contracts. -/
import Derived.Test.YtejmdmaebkdjoaaGreatDoorMm
import Derived.Test.YtejmdmaebkdjoaaGreatDoorArMod
import Derived.Laws.MakeOwn
import Derived.Laws.CopyRow
import Derived.Deep.MidRow
import Derived.Lib.LazyBuf
import Derived.Test.YtejmdmaebkdjoaaGreatDoorArVal
namespace Go.Proofs.YtejmdmaebkdjoaaGreatDoor
set_option linter.unusedVariables false
set_option linter.unusedSimpArgs false
set_option maxRecDepth 100000
set_option maxHeartbeats 4000000
open Go.RowKit
variable {α : Type}
/-! ### fresh -/
theorem fresh_rows (v : Value) (xs : List Rw) (w : World) (hv : SV lRow w v xs) (hl : xs.length ≤ 1000) :
  Calls Tryz.prog 76 #[v] w fun ev w' => ∃ v', ev = .returned v' ∧ OwnS lRow w.heap.size w' v' xs ∧ Below w.heap.size w w' := by
 obtain ⟨a, cap, rfl, hlc, hcm⟩ := hv.lenform
 cases a with
 | none =>
  have hx : xs = [] := by
   obtain ⟨a', cap', h1, h2, h3, h4, -⟩ := hv
   obtain ⟨rfl, -, rfl⟩ := Value.slice.inj h1
   have := h4 rfl
   exact List.eq_nil_of_length_eq_zero (by omega)
  subst hx
  obtain rfl : cap = 0 := by
   obtain ⟨a', cap', h1, h2, h3, h4, -⟩ := hv
   obtain ⟨-, -, rfl⟩ := Value.slice.inj h1
   exact h4 (Value.slice.inj h1).1.symm
  have hq : ∀ w : World, (Go.binOp BinOp.eql 50 (.slice none 0 0) (.slice none 0 0)).run Tryz.prog w = .ok (.bool true) w := fun _ => rfl
  go_enter Tryz.func76, Tryz.ntmps76
  go_wp2
  go_ret
  exact ⟨_, rfl, OwnS.nil lRow _ _, Below.refl _ _⟩
 | some y =>
  obtain ⟨n, hn⟩ : ∃ n, xs.length = n := ⟨_, rfl⟩
  obtain ⟨zs, hz, hmk⟩ := run_makeS lRow 50 Tryz.underlying50 lRow_known (by decide) n (by omega)
  have hb := alloc_below0 w (.cells zs lRow.ty)
  have hcp := fun ty => run_copyS lRow 50 Tryz.underlying50 lRow_known w ty w.heap.size n n zs _ xs rfl hz (hv.below hb) hn (fun c e => by cases e)
  rw [hn] at hcp ⊢
  simp only [lRow] at hmk hcp
  have hq : ∀ w : World, (Go.binOp BinOp.eql 50 (.slice (some y) n cap) (.slice none 0 0)).run Tryz.prog w = .ok (.bool false) w := fun _ => rfl
  have R := Lib.hid (show OwnS lRow w.heap.size (w.alloc (.cells (lRow.flat xs).toArray lRow.ty)) (.slice (some ⟨w.heap.size, 0, none⟩) n n) xs by
   have h := OwnS.lit lRow w.heap.size w w.heap.size rfl xs (Nat.le_refl _) (by simp [maxLen]; omega)
   rw [hn] at h; exact h)
  have B := Lib.hid (alloc_below0 w (.cells (lRow.flat xs).toArray lRow.ty))
  clear hv hl hb
  go_enter Tryz.func76, Tryz.ntmps76
  go_wp2
  go_ret
  exact ⟨_, rfl, R.out, B.out⟩
theorem fresh_ents (v : Value) (xs : List En) (w : World) (hv : SV lEnt w v xs) (hl : xs.length ≤ 1000) :
  Calls Tryz.prog 77 #[v] w fun ev w' => ∃ v', ev = .returned v' ∧ OwnS lEnt w.heap.size w' v' xs ∧ Below w.heap.size w w' := by
 obtain ⟨a, cap, rfl, hlc, hcm⟩ := hv.lenform
 cases a with
 | none =>
  have hx : xs = [] := by
   obtain ⟨a', cap', h1, h2, h3, h4, -⟩ := hv
   obtain ⟨rfl, -, rfl⟩ := Value.slice.inj h1
   have := h4 rfl
   exact List.eq_nil_of_length_eq_zero (by omega)
  subst hx
  obtain rfl : cap = 0 := by
   obtain ⟨a', cap', h1, h2, h3, h4, -⟩ := hv
   obtain ⟨-, -, rfl⟩ := Value.slice.inj h1
   exact h4 (Value.slice.inj h1).1.symm
  have hq : ∀ w : World, (Go.binOp BinOp.eql 51 (.slice none 0 0) (.slice none 0 0)).run Tryz.prog w = .ok (.bool true) w := fun _ => rfl
  go_enter Tryz.func77, Tryz.ntmps77
  go_wp2
  go_ret
  exact ⟨_, rfl, OwnS.nil lEnt _ _, Below.refl _ _⟩
 | some y =>
  obtain ⟨n, hn⟩ : ∃ n, xs.length = n := ⟨_, rfl⟩
  obtain ⟨zs, hz, hmk⟩ := run_makeS lEnt 51 Tryz.underlying51 lEnt_known (by decide) n (by omega)
  have hb := alloc_below0 w (.cells zs lEnt.ty)
  have hcp := fun ty => run_copyS lEnt 51 Tryz.underlying51 lEnt_known w ty w.heap.size n n zs _ xs rfl hz (hv.below hb) hn (fun c e => by cases e)
  rw [hn] at hcp ⊢
  simp only [lEnt] at hmk hcp
  have hq : ∀ w : World, (Go.binOp BinOp.eql 51 (.slice (some y) n cap) (.slice none 0 0)).run Tryz.prog w = .ok (.bool false) w := fun _ => rfl
  have R := Lib.hid (show OwnS lEnt w.heap.size (w.alloc (.cells (lEnt.flat xs).toArray lEnt.ty)) (.slice (some ⟨w.heap.size, 0, none⟩) n n) xs by
   have h := OwnS.lit lEnt w.heap.size w w.heap.size rfl xs (Nat.le_refl _) (by simp [maxLen]; omega)
   rw [hn] at h; exact h)
  have B := Lib.hid (alloc_below0 w (.cells (lEnt.flat xs).toArray lEnt.ty))
  clear hv hl hb
  go_enter Tryz.func77, Tryz.ntmps77
  go_wp2
  go_ret
  exact ⟨_, rfl, R.out, B.out⟩
theorem recInfoS : (Tryz.prog.info? 55).map (·.size) = some 15 := by kernel_rfl
def recCells (s : Sc) (rv ev : Value) : List Value := [.int .i64 s.kind, .string s.low, .string s.high, .bool s.unb, .int .i64 s.right, rv, ev, .string s.key, .string s.value, .int .i64 s.page, .int .i64 s.hp, .int .i64 s.hl, .string s.hk, .int .i64 s.ns, .int .i64 s.ng]
theorem rec_range {w : World} {b : Nat} {s : Sc} {rv ev : Value} (h : w.heap[b]? = some (recObj s rv ev)) : w.rangeAt b 0 (recCells s rv ev) := fun j u hj => by
 rw [Nat.zero_add, blk_cell h]
 rw [← hj, ← Array.getElem?_toList]; rfl
theorem rec_one (s : Sc) (a1 : Option Addr) (n c1 : Nat) (a2 : Option Addr) (m c2 : Nat) : (recCells s (.slice a1 n c1) (.slice a2 m c2)).toArray.all (fun x => x.oneCell') = true :=
 all_oneCell_toArray fun u h => by
  simp only [recCells, List.mem_cons, List.not_mem_nil, or_false] at h
  rcases h with h | h | h | h | h | h | h | h | h | h | h | h | h | h | h <;> subst h <;> rfl
theorem ar_clone_any (v : Value) (d : RecD) (w : World) (hv : RecV w v d) (h1 : d.rows.length ≤ 1000) (h2 : d.ents.length ≤ 1000) :
  Calls Tryz.prog 38 #[v] w fun ev w' => ∃ rv en, ev = .returned (recVal d.sc rv en) ∧ OwnS lRow w.heap.size w' rv d.rows ∧ OwnS lEnt w.heap.size w' en d.ents ∧ Below w.heap.size w w' := by
 obtain ⟨s, rows, ents⟩ := d
 obtain ⟨rv, en, rfl, hr, he⟩ := hv
 simp only at hr he h1 h2
 have L := Lib.hid (show rows.length ≤ 1000 ∧ ents.length ≤ 1000 from ⟨h1, h2⟩)
 obtain ⟨W, hW⟩ : ∃ W, W = (w.alloc (recObj s rv en)).alloc (recObj Sc.zero (.slice none 0 0) (.slice none 0 0)) := ⟨_, rfl⟩
 have z1 : (w.alloc (recObj s rv en)).heap.size = w.heap.size + 1 := by simp
 have z2 : W.heap.size = w.heap.size + 2 := by rw [hW]; simp
 have b1 := alloc_below0 w (recObj s rv en)
 have b2 := alloc_below0 (w.alloc (recObj s rv en)) (recObj Sc.zero (.slice none 0 0) (.slice none 0 0))
 have B := Lib.hid (show Below w.heap.size w W by rw [hW]; exact b1.trans (b2.mono b1.size))
 have K0 := Lib.hid (show W.heap[w.heap.size]? = some (recObj s rv en) by rw [hW]; exact blk_step (blk_new _ _) b2)
 have K1 := Lib.hid (show W.heap[w.heap.size + 1]? = some (recObj Sc.zero (.slice none 0 0) (.slice none 0 0)) by rw [hW, ← z1]; exact blk_new _ _)
 have R := Lib.hid (hr.below B.out)
 have E := Lib.hid he
 have Z := Lib.hid (show W.heap.size = w.heap.size + 2 from z2)
 clear hr he b1 b2 z1 z2 h1 h2
 unfold recVal
 simp only [recObj, Sc.zero] at hW
 go_enter Tryz.func38, Tryz.ntmps38
 go_wp2_with fail
 rw [← hW]
 refine (fresh_rows _ _ _ R.out L.out.1).mono ?_
 rintro ev w1 ⟨rv1, rfl, ho, hs⟩
 obtain ⟨a1, q1, rfl, -, -⟩ := ho.sv.lenform
 obtain ⟨n, hn⟩ : ∃ n, rows.length = n := ⟨_, rfl⟩
 rw [hn] at ho ⊢
 clear hn
 have B1 := Lib.hid (B.out.trans (hs.mono B.out.size))
 have G1 := Lib.hid (blk_step K0.out hs)
 have G2 := Lib.hid (blk_step K1.out hs)
 have O1 := Lib.hid (ho.setOther (b := w.heap.size) (o := 5) (x := (.slice a1 n q1)) (fun k hk => by have := (ho.bounds k hk).1; have := Z.out; omega))
 have B2 := Lib.hid (below_set B1.out (Nat.le_refl _) 5 (.slice a1 n q1))
 have H1 := Lib.hid (blk_set G1.out 5 (.slice a1 n q1))
 have H2 := Lib.hid (show (w1.setCell ⟨w.heap.size, 5, none⟩ (.slice a1 n q1)).heap[w.heap.size + 1]? = _ from (Below.heap_setCell _ _ _ _ (by simp)).trans G2.out)
 have Z1 := Lib.hid hs.size
 have c5 : w1.cell? ⟨w.heap.size, 5, none⟩ = some rv := blk_cell G1.out 5
 have f5 := blk_free G1.out 5
 have c6 : w1.cell? ⟨w.heap.size, 6, none⟩ = some en := blk_cell G1.out 6
 clear ho hs hW
 go_wp2_with fail
 refine (fresh_ents _ _ _ (E.out.below B2.out) L.out.2).mono ?_
 rintro ev w2 ⟨en1, rfl, ho, hs⟩
 obtain ⟨a2, q2, rfl, -, -⟩ := ho.sv.lenform
 obtain ⟨m, hm⟩ : ∃ m, ents.length = m := ⟨_, rfl⟩
 rw [hm] at ho ⊢
 clear hm c5 f5 c6
 have B3 := Lib.hid (B2.out.trans (hs.mono B2.out.size))
 have H3 := Lib.hid (blk_step H1.out hs)
 have H4 := Lib.hid (blk_step H2.out hs)
 have sz1 : (w1.setCell ⟨w.heap.size, 5, none⟩ (.slice a1 n q1)).heap.size = w1.heap.size := by simp [World.setCell]
 have O2 := Lib.hid (O1.out.below hs)
 have P2 := Lib.hid (show ∀ k, (Value.slice a2 m q2).ownBlock = some k → w.heap.size + 2 ≤ k from fun k hk => by have := (ho.bounds k hk).1; rw [sz1] at this; have := Z1.out; have := Z.out; omega)
 have P1 := Lib.hid (show ∀ k, (Value.slice a1 n q1).ownBlock = some k → w.heap.size + 2 ≤ k from fun k hk => by have := (O1.out.bounds k hk).1; have := Z.out; omega)
 have Q2 := Lib.hid ho
 have f6 := blk_free H3.out 6
 have c6 : w2.cell? ⟨w.heap.size, 6, none⟩ = some en := blk_cell H3.out 6
 have X1 := Lib.hid (blk_set H3.out 6 (.slice a2 m q2))
 have X2 := Lib.hid (show (w2.setCell ⟨w.heap.size, 6, none⟩ (.slice a2 m q2)).heap[w.heap.size + 1]? = _ from (Below.heap_setCell _ _ _ _ (by simp)).trans H4.out)
 have B4 := Lib.hid (below_set B3.out (Nat.le_refl _) 6 (.slice a2 m q2))
 have O3 := Lib.hid (O2.out.setOther (b := w.heap.size) (o := 6) (x := .slice a2 m q2) (fun k hk => by have := P1.out k hk; omega))
 have Q3 := Lib.hid (Q2.out.setOther (b := w.heap.size) (o := 6) (x := .slice a2 m q2) (fun k hk => by have := P2.out k hk; omega))
 have hrng : (w2.setCell ⟨w.heap.size, 6, none⟩ (.slice a2 m q2)).rangeAt w.heap.size 0 (recCells s (.slice a1 n q1) (.slice a2 m q2)) := fun j u hj => by
  rw [Nat.zero_add, blk_cell X1.out]
  rw [← hj, ← Array.getElem?_toList]; rfl
 clear ho hs sz1
 go_wp2_with (first
    | (refine wpList_load_mid rfl 55 (.tmp 1) rfl w.heap.size 0 rfl (recCells s (.slice a1 n q1) (.slice a2 m q2)) _ hrng Tryz.underlying55 rfl (by kernel_rfl) ?_)
    | (refine wpList_store_mid rfl 55 (.tmp 2) (.tmp 11) rfl (w.heap.size + 1) 0 (recCells s (.slice a1 n q1) (.slice a2 m q2)).toArray rfl rfl (blk_there X2.out 15 (Nat.le_refl _)) (by kernel_rfl) (rec_one ..) ?_))
 generalize hw3 : World.setCells _ _ _ _ = w3
 have kp := Kept.setCells (b := w.heap.size + 1) (recCells s (.slice a1 n q1) (.slice a2 m q2)) 0 _ (Kept.refl _ (w2.setCell ⟨w.heap.size, 6, none⟩ (.slice a2 m q2)))
 rw [hw3] at kp
 have Y1 := OwnS.kept O3.out kp (fun a k c hv hs => by have := P1.out a.block (by rw [hv]; rfl); omega)
 have Y2 := OwnS.kept Q3.out kp (fun a k c hv hs => by have := P2.out a.block (by rw [hv]; rfl); omega)
 have rg := World.rangeAt_setCells_same (w2.setCell ⟨w.heap.size, 6, none⟩ (.slice a2 m q2)) (w.heap.size + 1) 0 (recCells s (.slice a1 n q1) (.slice a2 m q2)) (blk_there X2.out 15 (Nat.le_refl _))
 rw [hw3] at rg
 have B5 := B4.out.trans (kp.below (n := w.heap.size) (fun k h => by omega) B4.out.size)
 refine bodyPost_ret (v := .agg (recCells s (.slice a1 n q1) (.slice a2 m q2)).toArray) (results_cell1 rfl _ _ (w.heap.size + 1) _ _ rfl rg Tryz.underlying55 rfl (by kernel_rfl)) rfl ⟨_, _, rfl, Y1.mono ?_, Y2.mono ?_, B5⟩
 ·have := Z.out; omega
 ·simp only [World.setCell, Array.size_modify]; have := Z1.out; have := Z.out; omega
open Go.RowKit
def stOf (ps : List Pt) (m : Nat) : Nat × Option RecD := ps.foldl (fun s p => if p.slot = m then (p.gen, if p.live then some p.rcd else none) else s) (0, none)
theorem stOf_snoc (ps : List Pt) (p : Pt) (m : Nat) : stOf (ps ++ [p]) m = if p.slot = m then (p.gen, if p.live then some p.rcd else none) else stOf ps m := by unfold stOf; rw [List.foldl_append]; rfl
theorem snoc_ind {P : List Pt → Prop} (h0 : P []) (h1 : ∀ ps p, P ps → P (ps ++ [p])) (ps : List Pt) : P ps := by
 have h : ∀ l : List Pt, P l.reverse := fun l => by
  induction l with
  | nil => exact h0
  | cons p l ih => rw [List.reverse_cons]; exact h1 _ _ ih
 have := h ps.reverse
 rwa [List.reverse_reverse] at this
theorem slot_st (m : Nat) (ps : List Pt) : slotOf ps m = ((stOf ps m).1, (stOf ps m).2.isSome) := by
 induction ps using snoc_ind with
 | h0 => rfl
 | h1 ps p ih =>
  rw [slotOf_snoc, stOf_snoc]
  split
  ·cases p.live <;> rfl
  ·exact ih
theorem st_some {m : Nat} {d : RecD} (ps : List Pt) (h : (stOf ps m).2 = some d) : ∃ l1 p l2, ps = l1 ++ p :: l2 ∧ p.slot = m ∧ p.gen = (stOf ps m).1 ∧ p.live = true ∧ p.rcd = d := by
 induction ps using snoc_ind with
 | h0 => cases h
 | h1 ps p ih =>
  rw [stOf_snoc] at h ⊢
  by_cases hp : p.slot = m
  ·rw [if_pos hp] at h ⊢
   cases hl : p.live with
   | false => rw [hl] at h; cases h
   | true =>
    rw [hl] at h
    exact ⟨ps, p, [], rfl, hp, rfl, hl, Option.some.inj h⟩
  ·rw [if_neg hp] at h ⊢
   obtain ⟨l1, q, l2, e, r⟩ := ih h
   exact ⟨l1, q, l2 ++ [p], by rw [e]; simp, r⟩
theorem stOf_app : ∀ (l2 l1 : List Pt) (m : Nat), (∀ q ∈ l2, q.slot ≠ m) → stOf (l1 ++ l2) m = stOf l1 m
 | [], l1, m, _ => by rw [List.append_nil]
 | q :: l2, l1, m, h => by
  rw [show l1 ++ q :: l2 = (l1 ++ [q]) ++ l2 by simp, stOf_app l2 (l1 ++ [q]) m (fun r hr => h r (List.mem_cons_of_mem _ hr)), stOf_snoc, if_neg (h q (List.mem_cons_self ..))]
theorem stOf_mid {l1 l2 : List Pt} {p : Pt} (h : ∀ q ∈ l2, q.slot ≠ p.slot) : stOf (l1 ++ p :: l2) p.slot = (p.gen, if p.live then some p.rcd else none) := by
 rw [show l1 ++ p :: l2 = (l1 ++ [p]) ++ l2 by simp, stOf_app l2 _ _ h, stOf_snoc, if_pos rfl]
theorem stOf_swap {l1 l2 : List Pt} {p q : Pt} (hs : q.slot = p.slot) {m : Nat} (hm : m ≠ p.slot) : stOf (l1 ++ q :: l2) m = stOf (l1 ++ p :: l2) m := by
 unfold stOf
 rw [List.foldl_append, List.foldl_append, List.foldl_cons, List.foldl_cons, if_neg (by rw [hs]; exact fun e => hm e.symm), if_neg (fun e => hm e.symm)]
theorem find_st {n : Nat} {ps : List Pt} (h : Valid n ps) (i : Nat) (y : Int) :
  (∃ d j p, (stOf ps i).2 = some d ∧ ((stOf ps i).1 : Int) = y ∧ findM ps (i : Int) y = some j ∧ ps[j]? = some p ∧ p.rcd = d ∧ ∀ m, stOf (ps.modify j (fun p => { p with live := false })) m = if m = i then ((stOf ps i).1, none) else stOf ps m)
  ∨ (((stOf ps i).2 = none ∨ ((stOf ps i).1 : Int) ≠ y) ∧ findM ps (i : Int) y = none) := by
 cases hf : findM ps (i : Int) y with
 | some j =>
  left
  obtain ⟨l1, p, l2, he, hj, hx, hy, hl⟩ := findM_some hf
  have hi : p.slot = i := by omega
  subst hi
  have e : stOf ps p.slot = (p.gen, some p.rcd) := by rw [he, stOf_mid (h.last he hl), hl]; rfl
  refine ⟨p.rcd, j, p, by rw [e], by rw [e]; exact hy, rfl, by rw [he, ← hj]; simp, rfl, fun m => ?_⟩
  rw [e, he, ← hj, modify_mid]
  by_cases hm : m = p.slot
  ·rw [if_pos hm, hm]
   exact stOf_mid (l1 := l1) (l2 := l2) (p := ({ p with live := false } : Pt)) (show ∀ q ∈ l2, q.slot ≠ p.slot from h.last he hl)
  ·rw [if_neg hm]
   exact stOf_swap (l1 := l1) (l2 := l2) (p := p) (q := ({ p with live := false } : Pt)) rfl hm
 | none =>
  right
  refine ⟨?_, rfl⟩
  cases hs : (stOf ps i).2 with
  | none => exact .inl rfl
  | some d =>
   right
   intro hy
   obtain ⟨l1, p, l2, he, h1, h2, h3, h4⟩ := st_some ps hs
   have hmem : p ∈ ps := by rw [he]; simp
   have hn := findM_none hf p hmem
   unfold isAt at hn
   rw [h1, h2, h3, hy] at hn
   simp at hn
def GenLe (l : Nat) (ps : List Pt) : Prop := ∀ m, (stOf ps m).1 ≤ l
theorem GenLe.nil (l : Nat) : GenLe l [] := fun _ => Nat.zero_le _
open Go.RowKit
def RecAt (w : World) (g : Nat) (base : Nat) (d : RecD) : Prop := ∃ rv en, w.heap[g]? = some (recObj d.sc rv en) ∧ OwnS lRow base w rv d.rows ∧ OwnS lEnt base w en d.ents
theorem rec_arr (s : Sc) (rv ev : Value) : recObj s rv ev = .cells (recCells s rv ev).toArray 55 (0, 0) := rfl
theorem rec_laid {w : World} {b : Nat} {cs : Array Value} {s : Sc} {rv ev : Value} (h : w.heap[b]? = some (.cells cs 55 (0, 0))) (hn : cs.size = 15) : (w.setCells b 0 (recCells s rv ev)).heap[b]? = some (recObj s rv ev) := by
 rw [rec_arr]; exact list_laid _ h hn
theorem own_any (v : Value) (d : RecD) (w : World) (hv : RecV w v d) (h1 : d.rows.length ≤ 1000) (h2 : d.ents.length ≤ 1000) :
  Calls Tryz.prog 106 #[v] w fun ev w' => ∃ g, ev = .returned (.pointer (some ⟨g, 0, none⟩)) ∧ w.heap.size ≤ g ∧ RecAt w' g w.heap.size d ∧ Below w.heap.size w w' := by
 obtain ⟨s, rows, ents⟩ := d
 obtain ⟨rv, en, rfl, hr, he⟩ := hv
 simp only at hr he h1 h2
 have L := Lib.hid (show rows.length ≤ 1000 ∧ ents.length ≤ 1000 from ⟨h1, h2⟩)
 obtain ⟨W, hW⟩ : ∃ W, W = w.alloc (recObj s rv en) := ⟨_, rfl⟩
 have B := Lib.hid (show Below w.heap.size w W by rw [hW]; exact alloc_below0 w _)
 have K0 := Lib.hid (show W.heap[w.heap.size]? = some (recObj s rv en) by rw [hW]; exact blk_new _ _)
 have R := Lib.hid (hr.below B.out)
 have E := Lib.hid (he.below B.out)
 have Z := Lib.hid (show W.heap.size = w.heap.size + 1 by rw [hW]; simp)
 have hrng : W.rangeAt w.heap.size 0 (recCells s rv en) := rec_range K0.out
 clear hr he h1 h2
 unfold recVal
 unfold recObj at hW
 go_enter Tryz.func106, Tryz.ntmps106
 go_wp2_with (refine wpList_load_mid rfl 55 (.tmp 1) rfl w.heap.size 0 rfl (recCells s rv en) _ (by rw [← hW]; exact hrng) Tryz.underlying55 rfl (by kernel_rfl) ?_)
 rw [← hW]
 refine (ar_clone_any (.agg (recCells s rv en).toArray) ⟨s, rows, ents⟩ _ ⟨rv, en, rfl, R.out, E.out⟩ L.out.1 L.out.2).mono ?_
 rintro ev w1 ⟨rv1, en1, rfl, o1, o2, hs⟩
 obtain ⟨a1, q1, rfl, -, -⟩ := o1.sv.lenform
 obtain ⟨a2, q2, rfl, -, -⟩ := o2.sv.lenform
 obtain ⟨n, hn⟩ : ∃ n, rows.length = n := ⟨_, rfl⟩
 obtain ⟨m, hm⟩ : ∃ m, ents.length = m := ⟨_, rfl⟩
 simp only at o1 o2
 rw [hn] at o1 ⊢
 rw [hm] at o2 ⊢
 have B1 := Lib.hid (B.out.trans (hs.mono B.out.size))
 have K1 := Lib.hid (blk_step K0.out hs)
 have P1 := Lib.hid (show ∀ k, (Value.slice a1 n q1).ownBlock = some k → w.heap.size + 1 ≤ k from fun k hk => by have := (o1.bounds k hk).1; have := Z.out; omega)
 have P2 := Lib.hid (show ∀ k, (Value.slice a2 m q2).ownBlock = some k → w.heap.size + 1 ≤ k from fun k hk => by have := (o2.bounds k hk).1; have := Z.out; omega)
 have O1 := Lib.hid o1
 have O2 := Lib.hid o2
 clear hs hW hn hm o1 o2 hrng
 unfold recVal
 go_wp2_with (refine wpList_store_mid rfl 55 (.tmp 1) (.tmp 4) rfl w.heap.size 0 (recCells s (.slice a1 n q1) (.slice a2 m q2)).toArray rfl rfl (blk_there K1.out 15 (Nat.le_refl _)) (by kernel_rfl) (rec_one ..) ?_)
 have kp := Kept.setCells (b := w.heap.size) (recCells s (.slice a1 n q1) (.slice a2 m q2)) 0 _ (Kept.refl _ w1)
 have Y1 := OwnS.kept O1.out kp (fun a k c hv hs => by have := P1.out a.block (by rw [hv]; rfl); omega)
 have Y2 := OwnS.kept O2.out kp (fun a k c hv hs => by have := P2.out a.block (by rw [hv]; rfl); omega)
 have B5 := B1.out.trans (kp.below (n := w.heap.size) (fun k h => by omega) B1.out.size)
 have X := rec_laid (s := s) (rv := .slice a1 n q1) (ev := .slice a2 m q2) K1.out rfl
 go_ret
 exact ⟨_, rfl, Nat.le_refl _, ⟨_, _, X, Y1.mono (by have := Z.out; omega), Y2.mono (by have := Z.out; omega)⟩, B5⟩
open Go.RowKit
abbrev Sl := Int × Int × Option Addr
def lSlot : Lay Sl := ⟨144, 3, fun r => [.int .i64 r.1, .int .i64 r.2.1, .pointer r.2.2], fun _ => rfl, fun x u h => by simp at h; rcases h with rfl | rfl | rfl <;> rfl⟩
theorem slotInfo : (Tryz.prog.info? 144).map (fun i => (i.zero, i.size, i.bytes)) = some (some (.agg #[.int .i64 0, .int .i64 0, .pointer none]), 3, 24) := by kernel_rfl
structure RecS (w : World) (S : Nat → Prop) (g : Nat) (d : RecD) : Prop where
 here : S g
 len1 : d.rows.length ≤ 1000
 len2 : d.ents.length ≤ 1000
 mem : ∃ rv en, w.heap[g]? = some (recObj d.sc rv en) ∧ OwnS lRow 0 w rv d.rows ∧ OwnS lEnt 0 w en d.ents ∧ (∀ k, rv.ownBlock = some k → S k) ∧ (∀ k, en.ownBlock = some k → S k)
def PtrAt (w : World) (S : Nat → Prop) (p : Option Addr) : Option RecD → Prop
 | none => p = none
 | some d => ∃ g, p = some ⟨g, 0, none⟩ ∧ RecS w S g d
structure InvAt (w : World) (ab sb : Nat) (ss : List Sl) (S : Nat → Prop) (n l : Nat) (ps : List Pt) : Prop where
 ok : okN n l = true
 val : Valid n ps
 gen : GenLe l ps
 foot : ∀ k, S k → k < w.heap.size
 sA : S ab
 sB : S sb
 blkA : w.heap[ab]? = some (.cells #[.slice (some ⟨sb, 0, none⟩) n n, .int .i64 l] 141)
 own : OwnS lSlot 0 w (.slice (some ⟨sb, 0, none⟩) n n) ss
 len : ss.length = n
 each : ∀ i, i < n → ∃ p, ss[i]? = some (((i + 1 : Nat) : Int), ((stOf ps (i + 1)).1 : Int), p) ∧ PtrAt w S p (stOf ps (i + 1)).2
def ArInv (w : World) (a : Addr) (S : Nat → Prop) (n l : Nat) (ps : List Pt) : Prop := ∃ ab sb ss, a = ⟨ab, 0, none⟩ ∧ InvAt w ab sb ss S n l ps
theorem okN_of {n l : Nat} (h : okN n l = true) : 1 ≤ n ∧ n ≤ 4096 ∧ 1 ≤ l ∧ l ≤ 1099511627776 := by
 unfold okN at h
 simp only [Bool.and_eq_true, decide_eq_true_eq] at h
 omega
theorem RecS.keep {w w' : World} {S : Nat → Prop} {g : Nat} {d : RecD} (h : RecS w S g d) {T : Nat → Prop} (hk : Kept T w w') (hT : ∀ k, S k → ¬ T k ∨ ∃ cs U, w.heap[k]? = some (.cells cs U (0, 0)) ∧ U ≠ 55 ∧ U ≠ 165 ∧ U ≠ 168) : RecS w' S g d := by
 obtain ⟨rv, en, h1, h2, h3, h4, h5⟩ := h.mem
 refine ⟨h.here, h.len1, h.len2, rv, en, ?_, ?_, ?_, h4, h5⟩
 ·rw [← h1]
  refine hk.block g (Array.getElem?_eq_some_iff.1 h1).1 ?_
  rcases hT g h.here with hn | ⟨cs, U, hc, n1, -⟩
  ·exact hn
  ·rw [h1] at hc
   simp only [recObj, Option.some.injEq, Obj.cells.injEq] at hc
   exact absurd hc.2.1.symm n1
 ·refine OwnS.kept h2 hk fun a m c hv => ?_
  rcases hT a.block (h4 a.block (by rw [hv]; rfl)) with hn | ⟨cs, U, hc, -, n2, -⟩
  ·exact hn
  ·obtain ⟨-, h2⟩ := h2
   rcases h2 with ⟨e, -⟩ | ⟨g2, c2, u2, e, -, hg, -⟩
   ·rw [hv] at e; cases e
   ·rw [hv] at e
    obtain ⟨e, -, -⟩ := Value.slice.inj e
    obtain rfl := Option.some.inj e
    rw [hc] at hg
    simp only [Option.some.injEq, Obj.cells.injEq] at hg
    exact absurd hg.2.1 n2
 ·refine OwnS.kept h3 hk fun a m c hv => ?_
  rcases hT a.block (h5 a.block (by rw [hv]; rfl)) with hn | ⟨cs, U, hc, -, -, n3⟩
  ·exact hn
  ·obtain ⟨-, h3⟩ := h3
   rcases h3 with ⟨e, -⟩ | ⟨g2, c2, u2, e, -, hg, -⟩
   ·rw [hv] at e; cases e
   ·rw [hv] at e
    obtain ⟨e, -, -⟩ := Value.slice.inj e
    obtain rfl := Option.some.inj e
    rw [hc] at hg
    simp only [Option.some.injEq, Obj.cells.injEq] at hg
    exact absurd hg.2.1 n3
theorem RecS.mono {w : World} {S S' : Nat → Prop} {g : Nat} {d : RecD} (h : RecS w S g d) (hs : ∀ k, S k → S' k) : RecS w S' g d := by
 obtain ⟨rv, en, h1, h2, h3, h4, h5⟩ := h.mem
 exact ⟨hs _ h.here, h.len1, h.len2, rv, en, h1, h2, h3, fun k hk => hs k (h4 k hk), fun k hk => hs k (h5 k hk)⟩
theorem PtrAt.keep {w w' : World} {S : Nat → Prop} {p : Option Addr} {o : Option RecD} (h : PtrAt w S p o) {T : Nat → Prop} (hk : Kept T w w') (hT : ∀ k, S k → ¬ T k ∨ ∃ cs U, w.heap[k]? = some (.cells cs U (0, 0)) ∧ U ≠ 55 ∧ U ≠ 165 ∧ U ≠ 168) : PtrAt w' S p o := by
 cases o with
 | none => exact h
 | some d => obtain ⟨g, e, r⟩ := h; exact ⟨g, e, r.keep hk hT⟩
theorem PtrAt.mono {w : World} {S S' : Nat → Prop} {p : Option Addr} {o : Option RecD} (h : PtrAt w S p o) (hs : ∀ k, S k → S' k) : PtrAt w S' p o := by
 cases o with
 | none => exact h
 | some d => obtain ⟨g, e, r⟩ := h; exact ⟨g, e, r.mono hs⟩
theorem InvAt.keep {w w' : World} {ab sb : Nat} {ss : List Sl} {S : Nat → Prop} {n l : Nat} {ps : List Pt} (h : InvAt w ab sb ss S n l ps) (hk : Kept (fun k => ¬ S k) w w') : InvAt w' ab sb ss S n l ps :=
 ⟨h.ok, h.val, h.gen, fun k hs => Nat.lt_of_lt_of_le (h.foot k hs) hk.size, h.sA, h.sB, (hk.block ab (h.foot _ h.sA) (fun hn => hn h.sA)).trans h.blkA,
  OwnS.kept h.own hk (fun a m c hv => by obtain ⟨e, -, -⟩ := Value.slice.inj hv; obtain rfl := Option.some.inj e; exact fun hn => hn h.sB), h.len,
  fun i hi => by obtain ⟨p, h1, h2⟩ := h.each i hi; exact ⟨p, h1, h2.keep hk (fun k hs => .inl (fun hn => hn hs))⟩⟩
theorem InvAt.low {w w' : World} {ab sb : Nat} {ss : List Sl} {S : Nat → Prop} {n l : Nat} {ps : List Pt} (h : InvAt w ab sb ss S n l ps) (hb : Below w.heap.size w w') : InvAt w' ab sb ss S n l ps :=
 h.keep ⟨hb.os, hb.tape, hb.output, hb.size, fun k hk _ => hb.block k hk⟩
structure SlAt (w : World) (ab sb n i : Nat) (l g : Int) (p : Option Addr) : Prop where
 a0 : w.cell? ⟨ab, 0, none⟩ = some (.slice (some ⟨sb, 0, none⟩) n n)
 a1 : w.cell? ⟨ab, 1, none⟩ = some (.int .i64 l)
 c0 : w.cell? ⟨sb, i * 3, none⟩ = some (.int .i64 ((i : Int) + 1))
 c1 : w.cell? ⟨sb, i * 3 + 1, none⟩ = some (.int .i64 g)
 c2 : w.cell? ⟨sb, i * 3 + 2, none⟩ = some (.pointer p)
theorem SlAt.step {w w' : World} {ab sb n i : Nat} {l g : Int} {p : Option Addr} (h : SlAt w ab sb n i l g p) (hs : Below w.heap.size w w') : SlAt w' ab sb n i l g p :=
 ⟨cell_step h.a0 hs, cell_step h.a1 hs, cell_step h.c0 hs, cell_step h.c1 hs, cell_step h.c2 hs⟩
theorem InvAt.slot {w : World} {ab sb : Nat} {ss : List Sl} {S : Nat → Prop} {n l : Nat} {ps : List Pt} (h : InvAt w ab sb ss S n l ps) {i : Nat} (hi : i < n) : ∃ p, ss[i]? = some (((i + 1 : Nat) : Int), ((stOf ps (i + 1)).1 : Int), p) ∧ PtrAt w S p (stOf ps (i + 1)).2 ∧ SlAt w ab sb n i l (stOf ps (i + 1)).1 p := by
 obtain ⟨p, h1, h2⟩ := h.each i hi
 have sv := h.own.sv
 have x0 := sv.cellAt (j := 0) h1 rfl
 have x1 := sv.cellAt (j := 1) h1 rfl
 have x2 := sv.cellAt (j := 2) h1 rfl
 simp only [lSlot, Nat.zero_add, Nat.add_zero, Int.natCast_add] at x0 x1 x2
 exact ⟨p, h1, h2, blk_cell h.blkA 0, blk_cell h.blkA 1, x0, x1, x2⟩
open Go.RowKit
theorem ar_find_out (w : World) (ab sb n : Nat) (x y : Int) (ha0 : w.cell? ⟨ab, 0, none⟩ = some (.slice (some ⟨sb, 0, none⟩) n n)) (h : x < 1 ∨ (n : Int) < x) :
  Calls Tryz.prog 98 #[.pointer (some ⟨ab, 0, none⟩), refV x y] w fun ev w' => ev = .returned (.tuple #[.pointer none, .iface 65 (.int .i64 1)]) ∧ Below w.heap.size w w' := by
 have b1 := alloc_below0 w (.cells #[.int .i64 x, .int .i64 y] 48)
 have c0 := cell_step ha0 b1
 have B := Lib.hid b1
 clear ha0 b1
 unfold refV
 by_cases hx : x < 1
 ·clear h
  go_enter Tryz.func98, Tryz.ntmps98
  go_wp2
  go_quiet (fail)
  go_wp2
  go_ret2
  exact ⟨rfl, below_drewN B.out _⟩
 ·have hx2 : (n : Int) < x := by omega
  clear h
  go_enter Tryz.func98, Tryz.ntmps98
  go_wp2
  go_quiet (fail)
  go_wp2
  go_ret2
  exact ⟨rfl, below_drewN B.out _⟩
theorem ar_find_free (w : World) (ab sb n i : Nat) (l g y : Int) (hi : i < n) (hn : n ≤ 4096) (h : SlAt w ab sb n i l g none) :
  Calls Tryz.prog 98 #[.pointer (some ⟨ab, 0, none⟩), refV ((i : Int) + 1) y] w fun ev w' => ev = .returned (.tuple #[.pointer none, .iface 65 (.int .i64 4)]) ∧ Below w.heap.size w w' := by
 have b1 := alloc_below0 w (.cells #[.int .i64 ((i : Int) + 1), .int .i64 y] 48)
 have H := h.step b1
 have c0 := H.a0
 have c2 := H.c2
 have B := Lib.hid b1
 clear h b1 H
 unfold refV
 have i0 : IntKind.i64.wrap ((i : Int) + 1 - 1) = (i : Int) := by rw [show (i : Int) + 1 - 1 = i by omega]; exact Go.IntWalk.i64_in _ (by omega)
 have j1 : ¬ (i : Int) + 1 < 1 := by omega
 have j2 : ¬ (n : Int) < (i : Int) + 1 := by omega
 have j3 : (0 : Int) ≤ (i : Int) := by omega
 have j4 : (i : Int) < (n : Int) := by omega
 go_enter Tryz.func98, Tryz.ntmps98
 go_wp2
 go_quiet (fail)
 go_wp2
 go_quiet (fail)
 go_wp2
 go_quiet (fail)
 go_wp2
 go_ret2
 exact ⟨rfl, below_drewN B.out _⟩
theorem ar_find_hit (w : World) (ab sb n i q : Nat) (l g : Int) (hi : i < n) (hn : n ≤ 4096) (h : SlAt w ab sb n i l g (some ⟨q, 0, none⟩)) :
  Calls Tryz.prog 98 #[.pointer (some ⟨ab, 0, none⟩), refV ((i : Int) + 1) g] w fun ev w' => ev = .returned (.tuple #[.pointer (some ⟨sb, i * 3, none⟩), .nilIface]) ∧ Below w.heap.size w w' := by
 have b1 := alloc_below0 w (.cells #[.int .i64 ((i : Int) + 1), .int .i64 g] 48)
 have H := h.step b1
 have c0 := H.a0
 have c2 := H.c2
 have c3 := H.c0
 have c4 := H.c1
 have B := Lib.hid b1
 clear h b1 H
 unfold refV
 have i0 : IntKind.i64.wrap ((i : Int) + 1 - 1) = (i : Int) := by rw [show (i : Int) + 1 - 1 = i by omega]; exact Go.IntWalk.i64_in _ (by omega)
 have j1 : ¬ (i : Int) + 1 < 1 := by omega
 have j2 : ¬ (n : Int) < (i : Int) + 1 := by omega
 have j3 : (0 : Int) ≤ (i : Int) := by omega
 have j4 : (i : Int) < (n : Int) := by omega
 have e1 : ((i : Int) + 1 == (i : Int) + 1) = true := by simp
 have e2 : (g == g) = true := by simp
 go_enter Tryz.func98, Tryz.ntmps98
 go_wp2
 go_quiet (fail)
 go_wp2
 go_quiet (fail)
 go_wp2
 go_quiet (fail)
 go_wp2
 go_ret2
 exact ⟨rfl, below_drewN (below_drewN (below_drewN B.out _) _) _⟩
theorem find_gone (w : World) (ab sb n i q : Nat) (l g y : Int) (hi : i < n) (hn : n ≤ 4096) (h : SlAt w ab sb n i l g (some ⟨q, 0, none⟩)) (hy : g ≠ y) :
  Calls Tryz.prog 98 #[.pointer (some ⟨ab, 0, none⟩), refV ((i : Int) + 1) y] w fun ev w' => ev = .returned (.tuple #[.pointer none, .iface 65 (.int .i64 4)]) ∧ Below w.heap.size w w' := by
 have b1 := alloc_below0 w (.cells #[.int .i64 ((i : Int) + 1), .int .i64 y] 48)
 have H := h.step b1
 have c0 := H.a0
 have c2 := H.c2
 have c3 := H.c0
 have c4 := H.c1
 have B := Lib.hid b1
 clear h b1 H
 unfold refV
 have i0 : IntKind.i64.wrap ((i : Int) + 1 - 1) = (i : Int) := by rw [show (i : Int) + 1 - 1 = i by omega]; exact Go.IntWalk.i64_in _ (by omega)
 have j1 : ¬ (i : Int) + 1 < 1 := by omega
 have j2 : ¬ (n : Int) < (i : Int) + 1 := by omega
 have j3 : (0 : Int) ≤ (i : Int) := by omega
 have j4 : (i : Int) < (n : Int) := by omega
 have e1 : ((i : Int) + 1 == (i : Int) + 1) = true := by simp
 have e2 : (g == y) = false := by simp [hy]
 go_enter Tryz.func98, Tryz.ntmps98
 go_wp2
 go_quiet (fail)
 go_wp2
 go_quiet (fail)
 go_wp2
 go_quiet (fail)
 go_wp2
 go_ret2
 exact ⟨rfl, below_drewN B.out _⟩
theorem ar_find_cases {w : World} {ab sb : Nat} {ss : List Sl} {S : Nat → Prop} {n l : Nat} {ps : List Pt} (I : InvAt w ab sb ss S n l ps) (x y : Int) :
  (∃ i q d j p, i < n ∧ x = (i : Int) + 1 ∧ y = ((stOf ps (i + 1)).1 : Int) ∧ (stOf ps (i + 1)).2 = some d ∧ codeM n ps x y = 0 ∧ findM ps x y = some j ∧ ps[j]? = some p ∧ p.rcd = d ∧ RecS w S q d ∧ SlAt w ab sb n i l y (some ⟨q, 0, none⟩) ∧ ss[i]? = some ((i : Int) + 1, y, some ⟨q, 0, none⟩)
   ∧ (∀ m, stOf (freeM n ps x y) m = if m = i + 1 then ((stOf ps (i + 1)).1, none) else stOf ps m)
   ∧ Calls Tryz.prog 98 #[.pointer (some ⟨ab, 0, none⟩), refV x y] w fun ev w' => ev = .returned (.tuple #[.pointer (some ⟨sb, i * 3, none⟩), .nilIface]) ∧ Below w.heap.size w w')
  ∨ (∃ e : Int, (e = 1 ∨ e = 4) ∧ codeM n ps x y = e ∧ Calls Tryz.prog 98 #[.pointer (some ⟨ab, 0, none⟩), refV x y] w fun ev w' => ev = .returned (.tuple #[.pointer none, .iface 65 (.int .i64 e)]) ∧ Below w.heap.size w w') := by
 have hn := okN_of I.ok
 by_cases hx : x < 1 ∨ (n : Int) < x
 ·right
  refine ⟨1, .inl rfl, by unfold codeM; rw [if_pos hx], ?_⟩
  exact ar_find_out w ab sb n x y (blk_cell I.blkA 0) hx
 ·obtain ⟨i, rfl⟩ : ∃ i : Nat, x = (i : Int) + 1 := ⟨(x - 1).toNat, by omega⟩
  have hi : i < n := by omega
  obtain ⟨p, h1, h2, h3⟩ := I.slot hi
  have hc : (((i + 1 : Nat) : Int)) = (i : Int) + 1 := by omega
  rw [hc] at h1
  rcases find_st I.val (i + 1) y with ⟨d, j, q, a1, a2, a3, a4, a5, a6⟩ | ⟨b1, b2⟩
  ·left
   rw [a1] at h2
   obtain ⟨g, rfl, hr⟩ := h2
   rw [hc] at a3
   have hcode : codeM n ps ((i : Int) + 1) y = 0 := by unfold codeM; rw [if_neg hx, a3]; rfl
   have hfree : freeM n ps ((i : Int) + 1) y = ps.modify j (fun p => { p with live := false }) := by unfold freeM; rw [if_pos hcode, a3]
   rw [a2] at h1 h3
   exact ⟨i, g, d, j, q, hi, rfl, a2.symm, a1, hcode, a3, a4, a5, hr, h3, h1, by rw [hfree]; exact a6, ar_find_hit w ab sb n i g l y hi hn.2.1 h3⟩
  ·right
   rw [hc] at b2
   refine ⟨4, .inr rfl, by unfold codeM; rw [if_neg hx, b2]; rfl, ?_⟩
   cases hs : (stOf ps (i + 1)).2 with
   | none =>
    rw [hs] at h2
    cases h2
    exact ar_find_free w ab sb n i l _ y hi hn.2.1 h3
   | some d =>
    rw [hs] at h2 b1
    obtain ⟨g, rfl, -⟩ := h2
    exact find_gone w ab sb n i g l _ y hi hn.2.1 h3 (b1.resolve_left (by simp))
open Go.RowKit
theorem worn_any (w : World) (ab : Nat) (l x g : Int) (p : Option Addr) (ha1 : w.cell? ⟨ab, 1, none⟩ = some (.int .i64 l)) :
  Calls Tryz.prog 100 #[.pointer (some ⟨ab, 0, none⟩), .agg #[.int .i64 x, .int .i64 g, .pointer p]] w fun ev w' => ev = .returned (.bool (decide (l ≤ g))) ∧ Below w.heap.size w w' := by
 have b1 := alloc_below0 w (.cells #[.int .i64 x, .int .i64 g, .pointer p] 144)
 have c1 := cell_step ha1 b1
 have B := Lib.hid b1
 clear ha1 b1
 go_enter Tryz.func100, Tryz.ntmps100
 go_wp2
 go_quiet (fail)
 go_wp2
 go_ret
 exact ⟨rfl, below_drewN B.out _⟩
theorem RecAt.other {w w' : World} {q base : Nat} {d : RecD} (h : RecAt w q base d) {T : Nat → Prop} (hk : Kept T w w') (hT : ∀ k, T k → k < base) (hq : base ≤ q) : RecAt w' q base d := by
 obtain ⟨rv, en, h1, h2, h3⟩ := h
 exact ⟨rv, en, (hk.block q (Array.getElem?_eq_some_iff.1 h1).1 (fun ht => by have := hT q ht; omega)).trans h1, h2.kept hk (h2.out hT), h3.kept hk (h3.out hT)⟩
theorem RecAt.mono {w : World} {q base b' : Nat} {d : RecD} (h : RecAt w q base d) (hb : b' ≤ base) : RecAt w q b' d := by
 obtain ⟨rv, en, h1, h2, h3⟩ := h
 exact ⟨rv, en, h1, h2.mono hb, h3.mono hb⟩
theorem put_any (w : World) (ab sb n i : Nat) (l g : Int) (ss : List Sl) (v : Value) (d : RecD) (hv : RecV w v d) (h1 : d.rows.length ≤ 1000) (h2 : d.ents.length ≤ 1000) (hi : ss[i]? = some ((i : Int) + 1, g, none)) (hg : 0 ≤ g ∧ g < 1099511627776)
  (h : SlAt w ab sb n i l g none) (ho : OwnS lSlot 0 w (.slice (some ⟨sb, 0, none⟩) n n) ss) :
  Calls Tryz.prog 101 #[.pointer (some ⟨sb, i * 3, none⟩), v] w fun ev w' => ∃ q, ev = .returned (refV ((i : Int) + 1) (g + 1)) ∧ w.heap.size ≤ q ∧ RecAt w' q w.heap.size d ∧
   OwnS lSlot 0 w' (.slice (some ⟨sb, 0, none⟩) n n) (ss.set i ((i : Int) + 1, g + 1, some ⟨q, 0, none⟩)) ∧ Kept (fun k => k = sb) w w' := by
 obtain ⟨sc, rows, ents⟩ := d
 obtain ⟨rv, en, rfl, hr, he⟩ := hv
 simp only at hr he h1 h2
 have L := Lib.hid (show rows.length ≤ 1000 ∧ ents.length ≤ 1000 from ⟨h1, h2⟩)
 obtain ⟨W, hW⟩ : ∃ W, W = (w.alloc (recObj sc rv en)).alloc (.cells #[.int .i64 0, .int .i64 0] 48) := ⟨_, rfl⟩
 have z1 : (w.alloc (recObj sc rv en)).heap.size = w.heap.size + 1 := by simp
 have b1 := alloc_below0 w (recObj sc rv en)
 have b2 := alloc_below0 (w.alloc (recObj sc rv en)) (.cells #[.int .i64 0, .int .i64 0] 48)
 have B := Lib.hid (show Below w.heap.size w W by rw [hW]; exact b1.trans (b2.mono b1.size))
 have Z := Lib.hid (show W.heap.size = w.heap.size + 2 by rw [hW]; simp)
 have K0 := blk_step (blk_new w (recObj sc rv en)) b2
 have K1 := Lib.hid (show W.heap[w.heap.size + 1]? = some (.cells #[.int .i64 0, .int .i64 0] 48 (0, 0)) by rw [hW, ← z1]; exact blk_new _ _)
 rw [← hW] at K0
 have R := Lib.hid (hr.below B.out)
 have E := Lib.hid (he.below B.out)
 have O := Lib.hid (ho.below B.out)
 have H := Lib.hid (h.step B.out)
 have SL := Lib.hid (show sb < w.heap.size from lt_of_cell h.c0)
 have HI := Lib.hid hi
 have hrng : W.rangeAt w.heap.size 0 (recCells sc rv en) := rec_range K0
 clear hr he h1 h2 b1 b2 z1 K0 ho h hi
 unfold recVal
 unfold recObj at hW
 go_enter Tryz.func101, Tryz.ntmps101
 go_wp2_with (refine wpList_load_mid rfl 55 (.tmp 3) rfl w.heap.size 0 rfl (recCells sc rv en) _ (by rw [← hW]; exact hrng) Tryz.underlying55 rfl (by kernel_rfl) ?_)
 rw [← hW]
 refine (own_any (.agg (recCells sc rv en).toArray) ⟨sc, rows, ents⟩ _ ⟨rv, en, rfl, R.out, E.out⟩ L.out.1 L.out.2).mono ?_
 rintro ev w1 ⟨q, rfl, hq, hrec, hs⟩
 have B1 := Lib.hid (B.out.trans (hs.mono B.out.size))
 have K2 := Lib.hid (blk_step K1.out hs)
 have O1 := Lib.hid (O.out.below hs)
 have H1 := Lib.hid (H.out.step hs)
 have QQ := Lib.hid (show w.heap.size + 2 ≤ q from Z.out ▸ hq)
 have RQ := Lib.hid hrec
 clear hs hW hrng hq hrec
 have c0 := H1.out.c0
 have c1 := H1.out.c1
 have c2 := H1.out.c2
 have f2 := O1.out.free (i * 3 + 2)
 have f1 := O1.out.free (i * 3 + 1)
 have k1 := blk_cell K2.out 0
 have k2 := blk_cell K2.out 1
 have k3 := blk_free K2.out 0
 have k4 := blk_free K2.out 1
 have i1 : IntKind.i64.wrap (g + 1) = g + 1 := Go.IntWalk.i64_in _ (by omega)
 have n1 : ¬ sb = w.heap.size + 1 := by have := SL.out; omega
 have n2 : ¬ w.heap.size + 1 = sb := by have := SL.out; omega
 go_wp2_with fail
 have k0 : Kept (fun k => k = sb ∨ k = w.heap.size + 1) w1 ((((w1.setCell ⟨sb, i * 3 + 2, none⟩ (.pointer (some ⟨q, 0, none⟩))).setCell ⟨sb, i * 3 + 1, none⟩ (.int .i64 (g + 1))).setCell ⟨w.heap.size + 1, 0, none⟩ (.int .i64 ((i : Int) + 1))).setCell ⟨w.heap.size + 1, 1, none⟩ (.int .i64 (g + 1))) :=
  ((((Kept.refl _ w1).setCell (i * 3 + 2) _).setCell (i * 3 + 1) _).trans2 (((Kept.refl _ _).setCell 0 _).setCell 1 _) (fun _ h => .inl h) (fun _ h => .inr h))
 have kk := ((((Kept.of_below (S := fun k => k = sb) (B1.out)).setCell (i * 3 + 2) (.pointer (some ⟨q, 0, none⟩))).setCell (i * 3 + 1) (.int .i64 (g + 1))).setNew (b := w.heap.size + 1) (by omega) 0 (.int .i64 ((i : Int) + 1))).setNew (b := w.heap.size + 1) (by omega) 1 (.int .i64 (g + 1))
 have s1 := O1.out.set (y := ((i : Int) + 1, g, some ⟨q, 0, none⟩)) (u := .pointer (some ⟨q, 0, none⟩)) HI.out (j := 2) (by decide) rfl
 have hlt : i < ss.length := (List.getElem?_eq_some_iff.1 HI.out).1
 have s2 := s1.set (x := ((i : Int) + 1, g, some ⟨q, 0, none⟩)) (y := ((i : Int) + 1, g + 1, some ⟨q, 0, none⟩)) (u := .int .i64 (g + 1)) (i := i) (by simp [hlt]) (j := 1) (by decide) rfl
 rw [List.set_set] at s2
 have s3 := (s2.setOther (b := w.heap.size + 1) (o := 0) (x := .int .i64 ((i : Int) + 1)) (fun k hk => by obtain rfl := Option.some.inj hk; exact n1)).setOther (b := w.heap.size + 1) (o := 1) (x := .int .i64 (g + 1)) (fun k hk => by obtain rfl := Option.some.inj hk; exact n1)
 have t1 := blk_set (blk_set (blk_off (blk_off K2.out n2 (i * 3 + 2) (.pointer (some ⟨q, 0, none⟩))) n2 (i * 3 + 1) (.int .i64 (g + 1))) 0 (.int .i64 ((i : Int) + 1))) 1 (.int .i64 (g + 1))
 have rq := RecAt.other RQ.out k0 (fun k hk => by have := Z.out; have := SL.out; omega) (by have := Z.out; have := QQ.out; omega)
 refine bodyPost_ret (v := .agg #[.int .i64 ((i : Int) + 1), .int .i64 (g + 1)]) (results_cell1 rfl _ _ (w.heap.size + 1) [.int .i64 ((i : Int) + 1), .int .i64 (g + 1)] _ rfl (fun j u hj => ?_) Tryz.underlying48 rfl (by kernel_rfl)) rfl ⟨q, rfl, by have := QQ.out; omega, rq.mono (by have := Z.out; omega), s3, kk⟩
 rw [Nat.zero_add, blk_cell t1, ← hj, ← Array.getElem?_toList]
 rfl
open Go.RowKit
theorem ar_new_no (n l : Int) (w : World) (h : okN n l = false) : Calls Tryz.prog 25 #[.int .i64 n, .int .i64 l] w fun ev w' => ev = .returned (.pointer none) ∧ Below w.heap.size w w' := by
 unfold okN at h
 by_cases h1 : n < 1
 ·clear h
  go_enter Tryz.func25, Tryz.ntmps25
  go_wp2
  go_ret
  exact ⟨rfl, Below.refl _ _⟩
 ·by_cases h2 : 4096 < n
  ·clear h
   go_enter Tryz.func25, Tryz.ntmps25
   go_wp2
   go_ret
   exact ⟨rfl, Below.refl _ _⟩
  ·by_cases h3 : l < 1
   ·clear h
    go_enter Tryz.func25, Tryz.ntmps25
    go_wp2
    go_ret
    exact ⟨rfl, Below.refl _ _⟩
   ·have h4 : 1099511627776 < l := by
     rw [decide_eq_true (show 1 ≤ n by omega), decide_eq_true (show n ≤ 4096 by omega), decide_eq_true (show 1 ≤ l by omega)] at h
     simp at h
     omega
    clear h
    go_enter Tryz.func25, Tryz.ntmps25
    go_wp2
    go_ret
    exact ⟨rfl, Below.refl _ _⟩
def fresh0 (n k : Nat) : List Sl := (List.range n).map fun i => (if i < k then ((i : Int) + 1) else 0, 0, none)
theorem fresh0_at {n k i : Nat} (h : i < n) : (fresh0 n k)[i]? = some (if i < k then ((i : Int) + 1) else 0, 0, none) := by
 unfold fresh0
 rw [List.getElem?_map, List.getElem?_range h]; rfl
theorem fresh0_len (n k : Nat) : (fresh0 n k).length = n := by simp [fresh0]
theorem fresh0_set {n k : Nat} (h : k < n) : fresh0 n (k + 1) = (fresh0 n k).set k ((k : Int) + 1, 0, none) := by
 apply List.ext_getElem?
 intro i
 by_cases hi : i < n
 ·rw [fresh0_at hi, List.getElem?_set, fresh0_len, fresh0_at hi]
  by_cases e : k = i
  ·subst e; simp [h]
  ·rw [if_neg e]
   congr 3
   simp only [eq_iff_iff]
   omega
 ·rw [List.getElem?_eq_none (by rw [fresh0_len]; omega), List.getElem?_eq_none (by rw [List.length_set, fresh0_len]; omega)]
theorem made_slots (n : Nat) : madeCells #[.int .i64 0, .int .i64 0, .pointer none] (n * 3) = (lSlot.flat (fresh0 n 0)).toArray := by
 apply Array.ext_getElem?
 intro i
 by_cases hi : i < n * 3
 ·have hq : i / 3 < n := by omega
  have e := lSlot.flat_at (fresh0 n 0) (i / 3) (i % 3) _ (fresh0_at hq) (Nat.mod_lt _ (by decide))
  rw [show i / 3 * lSlot.sz + i % 3 = i from Nat.div_add_mod' i 3] at e
  rw [show (lSlot.flat (fresh0 n 0)).toArray[i]? = (lSlot.flat (fresh0 n 0))[i]? by simp, e]
  have h3 : i % 3 = 0 ∨ i % 3 = 1 ∨ i % 3 = 2 := by omega
  unfold madeCells
  rw [Array.getElem?_map, Array.getElem?_range, if_pos hi]
  rcases h3 with h | h | h <;> simp [h, lSlot]
 ·rw [Array.getElem?_eq_none (by rw [size_madeCells]; omega), Array.getElem?_eq_none (by simp [Lay.flat_len, fresh0_len, lSlot]; omega)]
theorem run_makeSl (n : Nat) (hn : n ≤ 100000) (w : World) : (Instr.makeSlice 139 (.int .i64 (n : Int)) (.int .i64 (n : Int))).run Tryz.prog w = .ok (.slice (some ⟨w.heap.size, 0, none⟩) n n) (w.alloc (.cells (lSlot.flat (fresh0 n 0)).toArray 144)) := by
 obtain ⟨i, hi, hzz⟩ := Option.map_eq_some_iff.1 slotInfo
 simp only [Prod.mk.injEq] at hzz
 obtain ⟨hz, hs, hb⟩ := hzz
 have h := run_make (P := Tryz.prog) w 139 144 i _ Tryz.underlying139 hi hz .i64 .i64 n n (by omega) (Int.le_refl _) (by rw [hb]; omega) (by omega)
 simp only [Int.toNat_natCast, hs] at h
 rw [← made_slots]
 exact h
theorem ar_new_any (n l : Nat) (w : World) (h : okN n l = true) : Calls Tryz.prog 25 #[.int .i64 (n : Int), .int .i64 (l : Int)] w fun ev w' => ∃ a S, ev = .returned (.pointer (some a)) ∧ ArInv w' a S n l [] ∧ (∀ k, S k → w.heap.size ≤ k) ∧ Below w.heap.size w w' := by
 obtain ⟨g1, g2, g3, g4⟩ := okN_of h
 have OK := Lib.hid h
 have h1 : ¬ (n : Int) < 1 := by omega
 have h2 : ¬ (4096 : Int) < n := by omega
 have h3 : ¬ (l : Int) < 1 := by omega
 have h4 : ¬ (1099511627776 : Int) < l := by omega
 have hmk := run_makeSl n (by omega)
 clear h
 go_enter Tryz.func25, Tryz.ntmps25
 go_wp2
 go_loopg [27] n (fun r i wr => ∃ k : Nat, k + r = n ∧ i = .int .i64 k ∧ OwnS lSlot w.heap.size wr (.slice (some ⟨w.heap.size, 0, none⟩) n n) (fresh0 n k) ∧ wr.heap[w.heap.size + 1]? = some (.cells #[.slice (some ⟨w.heap.size, 0, none⟩) n n, .int .i64 (l : Int)] 141 (0, 0)) ∧ Below w.heap.size w wr)
 case atStart =>
  refine ⟨0, by omega, rfl, ?_, ?_, ?_⟩
  ·have h := OwnS.lit lSlot w.heap.size w w.heap.size rfl (fresh0 n 0) (Nat.le_refl _) (by rw [fresh0_len]; simp [maxLen]; omega)
   rw [fresh0_len] at h
   exact h.below (alloc_below0 _ _)
  ·have h := blk_new (w.alloc (.cells (lSlot.flat (fresh0 n 0)).toArray 144)) (.cells #[.slice (some ⟨w.heap.size, 0, none⟩) n n, .int .i64 (l : Int)] 141)
   rw [show (w.alloc (.cells (lSlot.flat (fresh0 n 0)).toArray 144)).heap.size = w.heap.size + 1 by simp] at h
   exact h
  ·exact ((alloc_below0 w _).trans ((alloc_below0 _ _).mono (alloc_below0 w _).size))
 case round =>
  obtain ⟨k, hk, rfl, hO, hA, hB⟩ := hrel
  have A := Lib.hid (show _ ∧ _ ∧ _ ∧ k + gk = n from ⟨hO, hA, hB, hk⟩)
  have c0 : wr.cell? ⟨w.heap.size + 1, 0, none⟩ = some (.slice (some ⟨w.heap.size, 0, none⟩) n n) := blk_cell hA 0
  clear hA hB hO
  by_cases hlt : k < n
  ·have i1 : IntKind.i64.wrap ((k : Int) + 1) = (k : Int) + 1 := Go.IntWalk.i64_in _ (by omega)
   have i2 : (0 : Int) ≤ (k : Int) := by omega
   have i3 : (k : Int) < (n : Int) := by omega
   have e0 := A.out.1.sv.cellAt (i := k) (j := 0) (fresh0_at hlt) rfl
   have f0 := A.out.1.free (k * 3)
   simp only [lSlot, Nat.zero_add, Nat.add_zero] at e0
   go_wp2
   go_roundg (n - (k + 1))
   case measure => have := A.out.2.2.2; omega
   case rel =>
    refine ⟨k + 1, by omega, by go_num, ?_, blk_off A.out.2.1 (by omega) _ _, below_set A.out.2.2.1 (Nat.le_refl _) _ _⟩
    rw [fresh0_set hlt]
    exact A.out.1.set (j := 0) (fresh0_at hlt) (by decide) (by simp [lSlot])
  ·obtain rfl : k = n := by omega
   go_wp2
   go_ret
   refine ⟨_, fun j => j = w.heap.size ∨ j = w.heap.size + 1, rfl, ⟨_, w.heap.size, _, rfl, OK.out, Valid.nil k, GenLe.nil l, ?_, .inr rfl, .inl rfl, A.out.2.1, A.out.1.mono (Nat.zero_le _), fresh0_len k k, fun i hi => ⟨none, ?_, rfl⟩⟩, fun j hj => by omega, A.out.2.2.1⟩
   ·have := (Array.getElem?_eq_some_iff.1 A.out.2.1).1
    intro j hj
    omega
   ·rw [fresh0_at hi, if_pos hi]; rfl
end Go.Proofs.YtejmdmaebkdjoaaGreatDoor
