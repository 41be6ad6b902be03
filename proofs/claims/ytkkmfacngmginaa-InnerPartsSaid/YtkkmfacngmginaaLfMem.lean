/- Making and copying slices of any element type; package arena's own fresh, Clone and own, by contracts. -/
import Derived.Test.YtkkmfacngmginaaLfMod
import Derived.Laws.MakeOwn
import Derived.Laws.CopyRow
import Derived.Deep.MidRow
import Derived.Lib.LazyBuf
namespace Go.Proofs.Ytkkmfacngmginaa
open Go.RowKit
variable {α : Type}

theorem run_makeS (E : Lay α) (T : TypeId) (hT : Try.prog.underlying T = some (.slice E.ty)) {by_ : Nat} (hk : E.known by_) (n : Nat) (hn : n ≤ maxLen) (hb48 : by_ * n ≤ 281474976710656) :
    ∃ zs : Array Value, zs.size = n * E.sz ∧ ∀ w : World, (Instr.makeSlice T (.int .i64 (n : Int)) (.int .i64 (n : Int))).run Try.prog w = .ok (.slice (some ⟨w.heap.size, 0, none⟩) n n) (w.alloc (.cells zs E.ty)) := by
  obtain ⟨i, z, hi, hz, hsz, hb, hzs⟩ := hk
  refine ⟨madeCells z.cells (n * E.sz), size_madeCells _ _, fun w => ?_⟩
  unfold maxLen at hn
  have h := run_make (P := Try.prog) w T E.ty i z hT hi hz .i64 .i64 n n (by omega) (Int.le_refl _) (by rw [hb, ← Int.natCast_mul]; omega) (by omega)
  simp only [Int.toNat_natCast, hsz] at h
  exact h
theorem setRow_new (w : World) (zs cs : Array Value) (T : TypeId) (g : Nat) (hg : w.heap.size = g) : (w.alloc (.cells zs T)).setRow g cs = w.alloc (.cells cs T) := by
  subst hg
  unfold World.setRow World.alloc
  congr 1
  simp only
  apply Array.ext_getElem?
  intro i
  rw [Array.getElem?_modify]
  by_cases h : w.heap.size = i
  · subst h; simp
  · rw [if_neg h, Array.getElem?_push, Array.getElem?_push, if_neg (fun e => h e.symm), if_neg (fun e => h e.symm)]
theorem run_copyS (E : Lay α) (T : TypeId) (hT : Try.prog.underlying T = some (.slice E.ty)) {by_ : Nat} (hk : E.known by_) (w : World) (ty : TypeId) (g n dc : Nat) (zs : Array Value) (x : Value) (xs : List α)
    (hg : w.heap.size = g) (hz : zs.size = n * E.sz) (hx : SV E (w.alloc (.cells zs E.ty)) x xs) (hn : xs.length = n) (hne : ∀ c, x ≠ .slice none n c) :
    (Builtin.copy_ #[T, T] ty #[.slice (some ⟨g, 0, none⟩) n dc, x]).run Try.prog (w.alloc (.cells zs E.ty)) = .ok (goInt n) (w.alloc (.cells (E.flat xs).toArray E.ty)) := by
  obtain ⟨i, z, hi, hzz, hsz, hb, hzs⟩ := hk
  obtain ⟨a, cap, rfl, e2, e3, e4, b, off, h5, h6⟩ := hx
  subst hn
  cases a with
  | none => exact absurd rfl (hne cap)
  | some y =>
    have hl := run_loadCells_list (P := Try.prog) (w.alloc (.cells zs E.ty)) y (E.flat xs) (fun j u hu => by
      obtain rfl := h5 (fun h0 => by rw [List.eq_nil_of_length_eq_zero h0] at hu; simp [Lay.flat] at hu) y rfl
      rw [Addr.add_mid]; exact h6 j u hu)
    have hgg : (w.alloc (.cells zs E.ty)).heap[g]? = some (.cells zs E.ty (0, 0)) := by subst hg; exact heap_alloc_new w _
    have hst := run_storeCells_at Try.prog g 0 E.ty (E.flat xs) 0 zs (w.alloc (.cells zs E.ty)) hgg (by rw [E.flat_len, hz]; omega) (E.flat_one xs)
    have hd : zs.toList.drop (0 + 0 + (E.flat xs).length) = [] := List.drop_eq_nil_of_le (by rw [E.flat_len]; simp [hz])
    rw [hd, List.append_nil, show zs.toList.take (0 + 0) = [] from rfl, List.nil_append, setRow_new w zs _ E.ty g hg] at hst
    rw [E.flat_len] at hl
    simp [Builtin.copy_, run_underlying hT, Builtin.lenOf, Builtin.firstCells, sizeOf, typeInfo, hi, hsz, hl, hst]

/-! ### fresh -/
set_option maxRecDepth 100000 in
theorem fresh_rows (v : Value) (xs : List Rw) (w : World) (hv : SV lRow w v xs) (hl : 32 * xs.length ≤ 281474976710656) :
    Calls Try.prog 86 #[v] w fun ev w' => ∃ v', ev = .returned v' ∧ OwnS lRow w.heap.size w' v' xs ∧ Below w.heap.size w w' := by
  obtain ⟨a, cap, rfl, hlc, hcm⟩ := hv.lenform
  cases a with
  | none =>
    have hx : xs = [] := by
      obtain ⟨a', cap', h1, h2, h3, h4, -⟩ := hv
      obtain ⟨rfl, -, rfl⟩ := Value.slice.inj h1
      have := h4 rfl
      exact List.eq_nil_of_length_eq_zero (by omega)
    subst hx
    obtain rfl : cap = 0 := by
      obtain ⟨a', cap', h1, h2, h3, h4, -⟩ := hv
      obtain ⟨-, -, rfl⟩ := Value.slice.inj h1
      exact h4 (Value.slice.inj h1).1.symm
    have hq : ∀ w : World, (Go.binOp BinOp.eql 35 (.slice none 0 0) (.slice none 0 0)).run Try.prog w = .ok (.bool true) w := fun _ => rfl
    go_enter Try.func86, Try.ntmps86
    go_wp2
    go_ret
    exact ⟨_, rfl, OwnS.nil lRow _ _, Below.refl _ _⟩
  | some y =>
    obtain ⟨n, hn⟩ : ∃ n, xs.length = n := ⟨_, rfl⟩
    obtain ⟨zs, hz, hmk⟩ := run_makeS lRow 35 Try.underlying35 lRow_known n (by omega) (by omega)
    have hb := alloc_below0 w (.cells zs lRow.ty)
    have hcp := fun ty => run_copyS lRow 35 Try.underlying35 lRow_known w ty w.heap.size n n zs _ xs rfl hz (hv.below hb) hn (fun c e => by cases e)
    rw [hn] at hcp ⊢
    simp only [lRow] at hmk hcp
    have hq : ∀ w : World, (Go.binOp BinOp.eql 35 (.slice (some y) n cap) (.slice none 0 0)).run Try.prog w = .ok (.bool false) w := fun _ => rfl
    have R := Lib.hid (show OwnS lRow w.heap.size (w.alloc (.cells (lRow.flat xs).toArray lRow.ty)) (.slice (some ⟨w.heap.size, 0, none⟩) n n) xs by
      have h := OwnS.lit lRow w.heap.size w w.heap.size rfl xs (Nat.le_refl _) (by omega)
      rw [hn] at h; exact h)
    have B := Lib.hid (alloc_below0 w (.cells (lRow.flat xs).toArray lRow.ty))
    clear hv hl hb
    go_enter Try.func86, Try.ntmps86
    go_wp2
    go_ret
    exact ⟨_, rfl, R.out, B.out⟩
set_option maxRecDepth 100000 in
theorem fresh_ents (v : Value) (xs : List En) (w : World) (hv : SV lEnt w v xs) (hl : 24 * xs.length ≤ 281474976710656) :
    Calls Try.prog 87 #[v] w fun ev w' => ∃ v', ev = .returned v' ∧ OwnS lEnt w.heap.size w' v' xs ∧ Below w.heap.size w w' := by
  obtain ⟨a, cap, rfl, hlc, hcm⟩ := hv.lenform
  cases a with
  | none =>
    have hx : xs = [] := by
      obtain ⟨a', cap', h1, h2, h3, h4, -⟩ := hv
      obtain ⟨rfl, -, rfl⟩ := Value.slice.inj h1
      have := h4 rfl
      exact List.eq_nil_of_length_eq_zero (by omega)
    subst hx
    obtain rfl : cap = 0 := by
      obtain ⟨a', cap', h1, h2, h3, h4, -⟩ := hv
      obtain ⟨-, -, rfl⟩ := Value.slice.inj h1
      exact h4 (Value.slice.inj h1).1.symm
    have hq : ∀ w : World, (Go.binOp BinOp.eql 25 (.slice none 0 0) (.slice none 0 0)).run Try.prog w = .ok (.bool true) w := fun _ => rfl
    go_enter Try.func87, Try.ntmps87
    go_wp2
    go_ret
    exact ⟨_, rfl, OwnS.nil lEnt _ _, Below.refl _ _⟩
  | some y =>
    obtain ⟨n, hn⟩ : ∃ n, xs.length = n := ⟨_, rfl⟩
    obtain ⟨zs, hz, hmk⟩ := run_makeS lEnt 25 Try.underlying25 lEnt_known n (by omega) (by omega)
    have hb := alloc_below0 w (.cells zs lEnt.ty)
    have hcp := fun ty => run_copyS lEnt 25 Try.underlying25 lEnt_known w ty w.heap.size n n zs _ xs rfl hz (hv.below hb) hn (fun c e => by cases e)
    rw [hn] at hcp ⊢
    simp only [lEnt] at hmk hcp
    have hq : ∀ w : World, (Go.binOp BinOp.eql 25 (.slice (some y) n cap) (.slice none 0 0)).run Try.prog w = .ok (.bool false) w := fun _ => rfl
    have R := Lib.hid (show OwnS lEnt w.heap.size (w.alloc (.cells (lEnt.flat xs).toArray lEnt.ty)) (.slice (some ⟨w.heap.size, 0, none⟩) n n) xs by
      have h := OwnS.lit lEnt w.heap.size w w.heap.size rfl xs (Nat.le_refl _) (by omega)
      rw [hn] at h; exact h)
    have B := Lib.hid (alloc_below0 w (.cells (lEnt.flat xs).toArray lEnt.ty))
    clear hv hl hb
    go_enter Try.func87, Try.ntmps87
    go_wp2
    go_ret
    exact ⟨_, rfl, R.out, B.out⟩

/-! ### Clone and own -/
theorem blk_cell {w : World} {b : Nat} {cs : Array Value} {T : TypeId} (h : w.heap[b]? = some (.cells cs T (0, 0))) (o : Nat) : w.cell? ⟨b, o, none⟩ = cs[o]? := by simp [World.cell?, h]
theorem blk_free {w : World} {b : Nat} {cs : Array Value} {T : TypeId} (h : w.heap[b]? = some (.cells cs T (0, 0))) (o : Nat) : w.frozen? ⟨b, o, none⟩ = false := by simp [World.frozen?, h]
theorem blk_set {w : World} {b : Nat} {cs : Array Value} {T : TypeId} (h : w.heap[b]? = some (.cells cs T (0, 0))) (o : Nat) (x : Value) : (w.setCell ⟨b, o, none⟩ x).heap[b]? = some (.cells (cs.setIfInBounds o x) T (0, 0)) := by
  simp [World.setCell, Array.getElem?_modify, h]
theorem blk_step {w w' : World} {b : Nat} {o : Obj} (h : w.heap[b]? = some o) (hs : Below w.heap.size w w') : w'.heap[b]? = some o := (hs.block b (Array.getElem?_eq_some_iff.1 h).1).trans h
theorem blk_new (w : World) (o : Obj) : (w.alloc o).heap[w.heap.size]? = some o := heap_alloc_new w o
theorem below_set {n : Nat} {w0 w : World} (h : Below n w0 w) {b : Nat} (hb : n ≤ b) (o : Nat) (x : Value) : Below n w0 (w.setCell ⟨b, o, none⟩ x) :=
  ⟨h.os, h.tape, h.output, by have := h.size; simp [World.setCell]; exact this, fun k hk => by
    rw [← h.block k hk]
    exact Below.heap_setCell _ _ _ _ (show k ≠ b by omega)⟩
theorem OwnS.setOther {E : Lay α} {base : Nat} {w : World} {v : Value} {xs : List α} (h : OwnS E base w v xs) {b o : Nat} {x : Value} (hb : ∀ k, v.ownBlock = some k → k ≠ b) : OwnS E base (w.setCell ⟨b, o, none⟩ x) v xs :=
  h.kept (S := fun k => k = b) ((Kept.refl _ w).setCell o x) (fun a n c hv hs => hb a.block (by rw [hv]; rfl) hs)
theorem recInfoS : (Try.prog.info? 39).map (·.size) = some 15 := by kernel_rfl
def recCells (s : Sc) (rv ev : Value) : List Value := [.int .i64 s.kind, .string s.low, .string s.high, .bool s.unb, .int .i64 s.right, rv, ev, .string s.key, .string s.value, .int .i64 s.page, .int .i64 s.hp, .int .i64 s.hl, .string s.hk, .int .i64 s.ns, .int .i64 s.ng]
theorem rec_range {w : World} {b : Nat} {s : Sc} {rv ev : Value} (h : w.heap[b]? = some (recObj s rv ev)) : w.rangeAt b 0 (recCells s rv ev) := fun j u hj => by
  rw [Nat.zero_add, blk_cell h]
  rw [← hj, ← Array.getElem?_toList]; rfl
theorem rec_one (s : Sc) (a1 : Option Addr) (n c1 : Nat) (a2 : Option Addr) (m c2 : Nat) : (recCells s (.slice a1 n c1) (.slice a2 m c2)).toArray.all (fun x => x.oneCell') = true :=
  all_oneCell_toArray fun u h => by
    simp only [recCells, List.mem_cons, List.not_mem_nil, or_false] at h
    rcases h with h | h | h | h | h | h | h | h | h | h | h | h | h | h | h <;> subst h <;> rfl
theorem blk_there {w : World} {b : Nat} {cs : Array Value} {T : TypeId} (h : w.heap[b]? = some (.cells cs T (0, 0))) (n : Nat) (hn : n ≤ cs.size) : w.there b 0 n := fun j hj => by
  refine ⟨?_, blk_free h _⟩
  rw [Nat.zero_add, blk_cell h, Array.getElem?_eq_getElem (by omega)]
  rfl
theorem Kept.setCells {w : World} {b : Nat} : ∀ (vs : List Value) (o : Nat) (w' : World), Kept (fun k => k = b) w w' → Kept (fun k => k = b) w (w'.setCells b o vs)
  | [], _, _, h => h
  | v :: vs, o, _, h => Kept.setCells vs (o + 1) _ (h.setCell o v)
theorem results_cell1 {fn : Func} {p : Tmp} {ty : TypeId} (h : fn.results = #[.cell p ty]) (tmps : Array Value) (w : World) (b : Nat) (cs : List Value) (d : TypeDesc) (hp : tmps.getD p undef = .pointer (some ⟨b, 0, none⟩)) (hc : w.rangeAt b 0 cs)
    (hu : Try.prog.underlying ty = some d) (hd : d.isRow = true) (hi : (Try.prog.info? ty).map (·.size) = some cs.length) : (results fn tmps).run Try.prog w = .ok (.agg cs.toArray) w := by
  simp only [results, h]
  have hl := run_loadVar_mid w b 0 ty cs d hc hu hd hi
  have hp' : tmps[p]?.getD undef = .pointer (some ⟨b, 0, none⟩) := by simpa using hp
  simp [hp', asAddr, hl]
set_option maxRecDepth 100000 in
set_option maxHeartbeats 4000000 in
theorem clone_any (v : Value) (d : RecD) (w : World) (hv : RecV w v d) (h1 : 32 * d.rows.length ≤ 281474976710656) (h2 : 24 * d.ents.length ≤ 281474976710656) :
    Calls Try.prog 47 #[v] w fun ev w' => ∃ rv en, ev = .returned (recVal d.sc rv en) ∧ OwnS lRow w.heap.size w' rv d.rows ∧ OwnS lEnt w.heap.size w' en d.ents ∧ Below w.heap.size w w' := by
  obtain ⟨s, rows, ents⟩ := d
  obtain ⟨rv, en, rfl, hr, he⟩ := hv
  simp only at hr he h1 h2
  have L := Lib.hid (show 32 * rows.length ≤ 281474976710656 ∧ 24 * ents.length ≤ 281474976710656 from ⟨h1, h2⟩)
  obtain ⟨W, hW⟩ : ∃ W, W = (w.alloc (recObj s rv en)).alloc (recObj Sc.zero (.slice none 0 0) (.slice none 0 0)) := ⟨_, rfl⟩
  have z1 : (w.alloc (recObj s rv en)).heap.size = w.heap.size + 1 := by simp
  have z2 : W.heap.size = w.heap.size + 2 := by rw [hW]; simp
  have b1 := alloc_below0 w (recObj s rv en)
  have b2 := alloc_below0 (w.alloc (recObj s rv en)) (recObj Sc.zero (.slice none 0 0) (.slice none 0 0))
  have B := Lib.hid (show Below w.heap.size w W by rw [hW]; exact b1.trans (b2.mono b1.size))
  have K0 := Lib.hid (show W.heap[w.heap.size]? = some (recObj s rv en) by rw [hW]; exact blk_step (blk_new _ _) b2)
  have K1 := Lib.hid (show W.heap[w.heap.size + 1]? = some (recObj Sc.zero (.slice none 0 0) (.slice none 0 0)) by rw [hW, ← z1]; exact blk_new _ _)
  have R := Lib.hid (hr.below B.out)
  have E := Lib.hid he
  have Z := Lib.hid (show W.heap.size = w.heap.size + 2 from z2)
  clear hr he b1 b2 z1 z2 h1 h2
  unfold recVal
  simp only [recObj, Sc.zero] at hW
  go_enter Try.func47, Try.ntmps47
  go_wp2_with fail
  rw [← hW]
  refine (fresh_rows _ _ _ R.out L.out.1).mono ?_
  rintro ev w1 ⟨rv1, rfl, ho, hs⟩
  obtain ⟨a1, q1, rfl, -, -⟩ := ho.sv.lenform
  obtain ⟨n, hn⟩ : ∃ n, rows.length = n := ⟨_, rfl⟩
  rw [hn] at ho ⊢
  clear hn
  have B1 := Lib.hid (B.out.trans (hs.mono B.out.size))
  have G1 := Lib.hid (blk_step K0.out hs)
  have G2 := Lib.hid (blk_step K1.out hs)
  have O1 := Lib.hid (ho.setOther (b := w.heap.size) (o := 5) (x := (.slice a1 n q1)) (fun k hk => by have := (ho.bounds k hk).1; have := Z.out; omega))
  have B2 := Lib.hid (below_set B1.out (Nat.le_refl _) 5 (.slice a1 n q1))
  have H1 := Lib.hid (blk_set G1.out 5 (.slice a1 n q1))
  have H2 := Lib.hid (show (w1.setCell ⟨w.heap.size, 5, none⟩ (.slice a1 n q1)).heap[w.heap.size + 1]? = _ from (Below.heap_setCell _ _ _ _ (by simp)).trans G2.out)
  have Z1 := Lib.hid hs.size
  have c5 : w1.cell? ⟨w.heap.size, 5, none⟩ = some rv := blk_cell G1.out 5
  have f5 := blk_free G1.out 5
  have c6 : w1.cell? ⟨w.heap.size, 6, none⟩ = some en := blk_cell G1.out 6
  clear ho hs hW
  go_wp2_with fail
  refine (fresh_ents _ _ _ (E.out.below B2.out) L.out.2).mono ?_
  rintro ev w2 ⟨en1, rfl, ho, hs⟩
  obtain ⟨a2, q2, rfl, -, -⟩ := ho.sv.lenform
  obtain ⟨m, hm⟩ : ∃ m, ents.length = m := ⟨_, rfl⟩
  rw [hm] at ho ⊢
  clear hm c5 f5 c6
  have B3 := Lib.hid (B2.out.trans (hs.mono B2.out.size))
  have H3 := Lib.hid (blk_step H1.out hs)
  have H4 := Lib.hid (blk_step H2.out hs)
  have sz1 : (w1.setCell ⟨w.heap.size, 5, none⟩ (.slice a1 n q1)).heap.size = w1.heap.size := by simp [World.setCell]
  have O2 := Lib.hid (O1.out.below hs)
  have P2 := Lib.hid (show ∀ k, (Value.slice a2 m q2).ownBlock = some k → w.heap.size + 2 ≤ k from fun k hk => by have := (ho.bounds k hk).1; rw [sz1] at this; have := Z1.out; have := Z.out; omega)
  have P1 := Lib.hid (show ∀ k, (Value.slice a1 n q1).ownBlock = some k → w.heap.size + 2 ≤ k from fun k hk => by have := (O1.out.bounds k hk).1; have := Z.out; omega)
  have Q2 := Lib.hid ho
  have f6 := blk_free H3.out 6
  have c6 : w2.cell? ⟨w.heap.size, 6, none⟩ = some en := blk_cell H3.out 6
  have X1 := Lib.hid (blk_set H3.out 6 (.slice a2 m q2))
  have X2 := Lib.hid (show (w2.setCell ⟨w.heap.size, 6, none⟩ (.slice a2 m q2)).heap[w.heap.size + 1]? = _ from (Below.heap_setCell _ _ _ _ (by simp)).trans H4.out)
  have B4 := Lib.hid (below_set B3.out (Nat.le_refl _) 6 (.slice a2 m q2))
  have O3 := Lib.hid (O2.out.setOther (b := w.heap.size) (o := 6) (x := .slice a2 m q2) (fun k hk => by have := P1.out k hk; omega))
  have Q3 := Lib.hid (Q2.out.setOther (b := w.heap.size) (o := 6) (x := .slice a2 m q2) (fun k hk => by have := P2.out k hk; omega))
  have hrng : (w2.setCell ⟨w.heap.size, 6, none⟩ (.slice a2 m q2)).rangeAt w.heap.size 0 (recCells s (.slice a1 n q1) (.slice a2 m q2)) := fun j u hj => by
    rw [Nat.zero_add, blk_cell X1.out]
    rw [← hj, ← Array.getElem?_toList]; rfl
  clear ho hs sz1
  go_wp2_with (first
        | (refine wpList_load_mid rfl 39 (.tmp 1) rfl w.heap.size 0 rfl (recCells s (.slice a1 n q1) (.slice a2 m q2)) _ hrng Try.underlying39 rfl (by kernel_rfl) ?_)
        | (refine wpList_store_mid rfl 39 (.tmp 2) (.tmp 11) rfl (w.heap.size + 1) 0 (recCells s (.slice a1 n q1) (.slice a2 m q2)).toArray rfl rfl (blk_there X2.out 15 (Nat.le_refl _)) (by kernel_rfl) (rec_one ..) ?_))
  generalize hw3 : World.setCells _ _ _ _ = w3
  have kp := Kept.setCells (b := w.heap.size + 1) (recCells s (.slice a1 n q1) (.slice a2 m q2)) 0 _ (Kept.refl _ (w2.setCell ⟨w.heap.size, 6, none⟩ (.slice a2 m q2)))
  rw [hw3] at kp
  have Y1 := OwnS.kept O3.out kp (fun a k c hv hs => by have := P1.out a.block (by rw [hv]; rfl); omega)
  have Y2 := OwnS.kept Q3.out kp (fun a k c hv hs => by have := P2.out a.block (by rw [hv]; rfl); omega)
  have rg := World.rangeAt_setCells_same (w2.setCell ⟨w.heap.size, 6, none⟩ (.slice a2 m q2)) (w.heap.size + 1) 0 (recCells s (.slice a1 n q1) (.slice a2 m q2)) (blk_there X2.out 15 (Nat.le_refl _))
  rw [hw3] at rg
  have B5 := B4.out.trans (kp.below (n := w.heap.size) (fun k h => by omega) B4.out.size)
  refine bodyPost_ret (v := .agg (recCells s (.slice a1 n q1) (.slice a2 m q2)).toArray) (results_cell1 rfl _ _ (w.heap.size + 1) _ _ rfl rg Try.underlying39 rfl (by kernel_rfl)) rfl ⟨_, _, rfl, Y1.mono ?_, Y2.mono ?_, B5⟩
  · have := Z.out; omega
  · simp only [World.setCell, Array.size_modify]; have := Z1.out; have := Z.out; omega
end Go.Proofs.Ytkkmfacngmginaa
