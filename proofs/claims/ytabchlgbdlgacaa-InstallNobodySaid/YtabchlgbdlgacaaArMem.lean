/- Making and copying slices of any element type; package arena's own fresh, Clone and own, by contracts. -/
import Derived.Test.YtabchlgbdlgacaaMm
import Derived.Test.YtabchlgbdlgacaaArMod
import Derived.Laws.MakeOwn
import Derived.Laws.CopyRow
import Derived.Deep.MidRow
import Derived.Lib.LazyBuf
namespace Go.Proofs.Ytabchlgbdlgacaa
open Go.RowKit
variable {α : Type}

/-! ### fresh -/
set_option maxRecDepth 100000 in
theorem fresh_rows (v : Value) (xs : List Rw) (w : World) (hv : SV lRow w v xs) (hl : xs.length ≤ 1000) :
    Calls Try.prog 60 #[v] w fun ev w' => ∃ v', ev = .returned v' ∧ OwnS lRow w.heap.size w' v' xs ∧ Below w.heap.size w w' := by
  obtain ⟨a, cap, rfl, hlc, hcm⟩ := hv.lenform
  cases a with
  | none =>
    have hx : xs = [] := by
      obtain ⟨a', cap', h1, h2, h3, h4, -⟩ := hv
      obtain ⟨rfl, -, rfl⟩ := Value.slice.inj h1
      have := h4 rfl
      exact List.eq_nil_of_length_eq_zero (by omega)
    subst hx
    obtain rfl : cap = 0 := by
      obtain ⟨a', cap', h1, h2, h3, h4, -⟩ := hv
      obtain ⟨-, -, rfl⟩ := Value.slice.inj h1
      exact h4 (Value.slice.inj h1).1.symm
    have hq : ∀ w : World, (Go.binOp BinOp.eql 39 (.slice none 0 0) (.slice none 0 0)).run Try.prog w = .ok (.bool true) w := fun _ => rfl
    go_enter Try.func60, Try.ntmps60
    go_wp2
    go_ret
    exact ⟨_, rfl, OwnS.nil lRow _ _, Below.refl _ _⟩
  | some y =>
    obtain ⟨n, hn⟩ : ∃ n, xs.length = n := ⟨_, rfl⟩
    obtain ⟨zs, hz, hmk⟩ := run_makeS lRow 39 Try.underlying39 lRow_known (by decide) n (by omega)
    have hb := alloc_below0 w (.cells zs lRow.ty)
    have hcp := fun ty => run_copyS lRow 39 Try.underlying39 lRow_known w ty w.heap.size n n zs _ xs rfl hz (hv.below hb) hn (fun c e => by cases e)
    rw [hn] at hcp ⊢
    simp only [lRow] at hmk hcp
    have hq : ∀ w : World, (Go.binOp BinOp.eql 39 (.slice (some y) n cap) (.slice none 0 0)).run Try.prog w = .ok (.bool false) w := fun _ => rfl
    have R := Lib.hid (show OwnS lRow w.heap.size (w.alloc (.cells (lRow.flat xs).toArray lRow.ty)) (.slice (some ⟨w.heap.size, 0, none⟩) n n) xs by
      have h := OwnS.lit lRow w.heap.size w w.heap.size rfl xs (Nat.le_refl _) (by simp [maxLen]; omega)
      rw [hn] at h; exact h)
    have B := Lib.hid (alloc_below0 w (.cells (lRow.flat xs).toArray lRow.ty))
    clear hv hl hb
    go_enter Try.func60, Try.ntmps60
    go_wp2
    go_ret
    exact ⟨_, rfl, R.out, B.out⟩
set_option maxRecDepth 100000 in
theorem fresh_ents (v : Value) (xs : List En) (w : World) (hv : SV lEnt w v xs) (hl : xs.length ≤ 1000) :
    Calls Try.prog 61 #[v] w fun ev w' => ∃ v', ev = .returned v' ∧ OwnS lEnt w.heap.size w' v' xs ∧ Below w.heap.size w w' := by
  obtain ⟨a, cap, rfl, hlc, hcm⟩ := hv.lenform
  cases a with
  | none =>
    have hx : xs = [] := by
      obtain ⟨a', cap', h1, h2, h3, h4, -⟩ := hv
      obtain ⟨rfl, -, rfl⟩ := Value.slice.inj h1
      have := h4 rfl
      exact List.eq_nil_of_length_eq_zero (by omega)
    subst hx
    obtain rfl : cap = 0 := by
      obtain ⟨a', cap', h1, h2, h3, h4, -⟩ := hv
      obtain ⟨-, -, rfl⟩ := Value.slice.inj h1
      exact h4 (Value.slice.inj h1).1.symm
    have hq : ∀ w : World, (Go.binOp BinOp.eql 40 (.slice none 0 0) (.slice none 0 0)).run Try.prog w = .ok (.bool true) w := fun _ => rfl
    go_enter Try.func61, Try.ntmps61
    go_wp2
    go_ret
    exact ⟨_, rfl, OwnS.nil lEnt _ _, Below.refl _ _⟩
  | some y =>
    obtain ⟨n, hn⟩ : ∃ n, xs.length = n := ⟨_, rfl⟩
    obtain ⟨zs, hz, hmk⟩ := run_makeS lEnt 40 Try.underlying40 lEnt_known (by decide) n (by omega)
    have hb := alloc_below0 w (.cells zs lEnt.ty)
    have hcp := fun ty => run_copyS lEnt 40 Try.underlying40 lEnt_known w ty w.heap.size n n zs _ xs rfl hz (hv.below hb) hn (fun c e => by cases e)
    rw [hn] at hcp ⊢
    simp only [lEnt] at hmk hcp
    have hq : ∀ w : World, (Go.binOp BinOp.eql 40 (.slice (some y) n cap) (.slice none 0 0)).run Try.prog w = .ok (.bool false) w := fun _ => rfl
    have R := Lib.hid (show OwnS lEnt w.heap.size (w.alloc (.cells (lEnt.flat xs).toArray lEnt.ty)) (.slice (some ⟨w.heap.size, 0, none⟩) n n) xs by
      have h := OwnS.lit lEnt w.heap.size w w.heap.size rfl xs (Nat.le_refl _) (by simp [maxLen]; omega)
      rw [hn] at h; exact h)
    have B := Lib.hid (alloc_below0 w (.cells (lEnt.flat xs).toArray lEnt.ty))
    clear hv hl hb
    go_enter Try.func61, Try.ntmps61
    go_wp2
    go_ret
    exact ⟨_, rfl, R.out, B.out⟩

theorem recInfoS : (Try.prog.info? 44).map (·.size) = some 15 := by kernel_rfl
def recCells (s : Sc) (rv ev : Value) : List Value := [.int .i64 s.kind, .string s.low, .string s.high, .bool s.unb, .int .i64 s.right, rv, ev, .string s.key, .string s.value, .int .i64 s.page, .int .i64 s.hp, .int .i64 s.hl, .string s.hk, .int .i64 s.ns, .int .i64 s.ng]
theorem rec_range {w : World} {b : Nat} {s : Sc} {rv ev : Value} (h : w.heap[b]? = some (recObj s rv ev)) : w.rangeAt b 0 (recCells s rv ev) := fun j u hj => by
  rw [Nat.zero_add, blk_cell h]
  rw [← hj, ← Array.getElem?_toList]; rfl
theorem rec_one (s : Sc) (a1 : Option Addr) (n c1 : Nat) (a2 : Option Addr) (m c2 : Nat) : (recCells s (.slice a1 n c1) (.slice a2 m c2)).toArray.all (fun x => x.oneCell') = true :=
  all_oneCell_toArray fun u h => by
    simp only [recCells, List.mem_cons, List.not_mem_nil, or_false] at h
    rcases h with h | h | h | h | h | h | h | h | h | h | h | h | h | h | h <;> subst h <;> rfl
set_option maxRecDepth 100000 in
set_option maxHeartbeats 4000000 in
theorem ar_clone_any (v : Value) (d : RecD) (w : World) (hv : RecV w v d) (h1 : d.rows.length ≤ 1000) (h2 : d.ents.length ≤ 1000) :
    Calls Try.prog 40 #[v] w fun ev w' => ∃ rv en, ev = .returned (recVal d.sc rv en) ∧ OwnS lRow w.heap.size w' rv d.rows ∧ OwnS lEnt w.heap.size w' en d.ents ∧ Below w.heap.size w w' := by
  obtain ⟨s, rows, ents⟩ := d
  obtain ⟨rv, en, rfl, hr, he⟩ := hv
  simp only at hr he h1 h2
  have L := Lib.hid (show rows.length ≤ 1000 ∧ ents.length ≤ 1000 from ⟨h1, h2⟩)
  obtain ⟨W, hW⟩ : ∃ W, W = (w.alloc (recObj s rv en)).alloc (recObj Sc.zero (.slice none 0 0) (.slice none 0 0)) := ⟨_, rfl⟩
  have z1 : (w.alloc (recObj s rv en)).heap.size = w.heap.size + 1 := by simp
  have z2 : W.heap.size = w.heap.size + 2 := by rw [hW]; simp
  have b1 := alloc_below0 w (recObj s rv en)
  have b2 := alloc_below0 (w.alloc (recObj s rv en)) (recObj Sc.zero (.slice none 0 0) (.slice none 0 0))
  have B := Lib.hid (show Below w.heap.size w W by rw [hW]; exact b1.trans (b2.mono b1.size))
  have K0 := Lib.hid (show W.heap[w.heap.size]? = some (recObj s rv en) by rw [hW]; exact blk_step (blk_new _ _) b2)
  have K1 := Lib.hid (show W.heap[w.heap.size + 1]? = some (recObj Sc.zero (.slice none 0 0) (.slice none 0 0)) by rw [hW, ← z1]; exact blk_new _ _)
  have R := Lib.hid (hr.below B.out)
  have E := Lib.hid he
  have Z := Lib.hid (show W.heap.size = w.heap.size + 2 from z2)
  clear hr he b1 b2 z1 z2 h1 h2
  unfold recVal
  simp only [recObj, Sc.zero] at hW
  go_enter Try.func40, Try.ntmps40
  go_wp2_with fail
  rw [← hW]
  refine (fresh_rows _ _ _ R.out L.out.1).mono ?_
  rintro ev w1 ⟨rv1, rfl, ho, hs⟩
  obtain ⟨a1, q1, rfl, -, -⟩ := ho.sv.lenform
  obtain ⟨n, hn⟩ : ∃ n, rows.length = n := ⟨_, rfl⟩
  rw [hn] at ho ⊢
  clear hn
  have B1 := Lib.hid (B.out.trans (hs.mono B.out.size))
  have G1 := Lib.hid (blk_step K0.out hs)
  have G2 := Lib.hid (blk_step K1.out hs)
  have O1 := Lib.hid (ho.setOther (b := w.heap.size) (o := 5) (x := (.slice a1 n q1)) (fun k hk => by have := (ho.bounds k hk).1; have := Z.out; omega))
  have B2 := Lib.hid (below_set B1.out (Nat.le_refl _) 5 (.slice a1 n q1))
  have H1 := Lib.hid (blk_set G1.out 5 (.slice a1 n q1))
  have H2 := Lib.hid (show (w1.setCell ⟨w.heap.size, 5, none⟩ (.slice a1 n q1)).heap[w.heap.size + 1]? = _ from (Below.heap_setCell _ _ _ _ (by simp)).trans G2.out)
  have Z1 := Lib.hid hs.size
  have c5 : w1.cell? ⟨w.heap.size, 5, none⟩ = some rv := blk_cell G1.out 5
  have f5 := blk_free G1.out 5
  have c6 : w1.cell? ⟨w.heap.size, 6, none⟩ = some en := blk_cell G1.out 6
  clear ho hs hW
  go_wp2_with fail
  refine (fresh_ents _ _ _ (E.out.below B2.out) L.out.2).mono ?_
  rintro ev w2 ⟨en1, rfl, ho, hs⟩
  obtain ⟨a2, q2, rfl, -, -⟩ := ho.sv.lenform
  obtain ⟨m, hm⟩ : ∃ m, ents.length = m := ⟨_, rfl⟩
  rw [hm] at ho ⊢
  clear hm c5 f5 c6
  have B3 := Lib.hid (B2.out.trans (hs.mono B2.out.size))
  have H3 := Lib.hid (blk_step H1.out hs)
  have H4 := Lib.hid (blk_step H2.out hs)
  have sz1 : (w1.setCell ⟨w.heap.size, 5, none⟩ (.slice a1 n q1)).heap.size = w1.heap.size := by simp [World.setCell]
  have O2 := Lib.hid (O1.out.below hs)
  have P2 := Lib.hid (show ∀ k, (Value.slice a2 m q2).ownBlock = some k → w.heap.size + 2 ≤ k from fun k hk => by have := (ho.bounds k hk).1; rw [sz1] at this; have := Z1.out; have := Z.out; omega)
  have P1 := Lib.hid (show ∀ k, (Value.slice a1 n q1).ownBlock = some k → w.heap.size + 2 ≤ k from fun k hk => by have := (O1.out.bounds k hk).1; have := Z.out; omega)
  have Q2 := Lib.hid ho
  have f6 := blk_free H3.out 6
  have c6 : w2.cell? ⟨w.heap.size, 6, none⟩ = some en := blk_cell H3.out 6
  have X1 := Lib.hid (blk_set H3.out 6 (.slice a2 m q2))
  have X2 := Lib.hid (show (w2.setCell ⟨w.heap.size, 6, none⟩ (.slice a2 m q2)).heap[w.heap.size + 1]? = _ from (Below.heap_setCell _ _ _ _ (by simp)).trans H4.out)
  have B4 := Lib.hid (below_set B3.out (Nat.le_refl _) 6 (.slice a2 m q2))
  have O3 := Lib.hid (O2.out.setOther (b := w.heap.size) (o := 6) (x := .slice a2 m q2) (fun k hk => by have := P1.out k hk; omega))
  have Q3 := Lib.hid (Q2.out.setOther (b := w.heap.size) (o := 6) (x := .slice a2 m q2) (fun k hk => by have := P2.out k hk; omega))
  have hrng : (w2.setCell ⟨w.heap.size, 6, none⟩ (.slice a2 m q2)).rangeAt w.heap.size 0 (recCells s (.slice a1 n q1) (.slice a2 m q2)) := fun j u hj => by
    rw [Nat.zero_add, blk_cell X1.out]
    rw [← hj, ← Array.getElem?_toList]; rfl
  clear ho hs sz1
  go_wp2_with (first
        | (refine wpList_load_mid rfl 44 (.tmp 1) rfl w.heap.size 0 rfl (recCells s (.slice a1 n q1) (.slice a2 m q2)) _ hrng Try.underlying44 rfl (by kernel_rfl) ?_)
        | (refine wpList_store_mid rfl 44 (.tmp 2) (.tmp 11) rfl (w.heap.size + 1) 0 (recCells s (.slice a1 n q1) (.slice a2 m q2)).toArray rfl rfl (blk_there X2.out 15 (Nat.le_refl _)) (by kernel_rfl) (rec_one ..) ?_))
  generalize hw3 : World.setCells _ _ _ _ = w3
  have kp := Kept.setCells (b := w.heap.size + 1) (recCells s (.slice a1 n q1) (.slice a2 m q2)) 0 _ (Kept.refl _ (w2.setCell ⟨w.heap.size, 6, none⟩ (.slice a2 m q2)))
  rw [hw3] at kp
  have Y1 := OwnS.kept O3.out kp (fun a k c hv hs => by have := P1.out a.block (by rw [hv]; rfl); omega)
  have Y2 := OwnS.kept Q3.out kp (fun a k c hv hs => by have := P2.out a.block (by rw [hv]; rfl); omega)
  have rg := World.rangeAt_setCells_same (w2.setCell ⟨w.heap.size, 6, none⟩ (.slice a2 m q2)) (w.heap.size + 1) 0 (recCells s (.slice a1 n q1) (.slice a2 m q2)) (blk_there X2.out 15 (Nat.le_refl _))
  rw [hw3] at rg
  have B5 := B4.out.trans (kp.below (n := w.heap.size) (fun k h => by omega) B4.out.size)
  refine bodyPost_ret (v := .agg (recCells s (.slice a1 n q1) (.slice a2 m q2)).toArray) (results_cell1 rfl _ _ (w.heap.size + 1) _ _ rfl rg Try.underlying44 rfl (by kernel_rfl)) rfl ⟨_, _, rfl, Y1.mono ?_, Y2.mono ?_, B5⟩
  · have := Z.out; omega
  · simp only [World.setCell, Array.size_modify]; have := Z1.out; have := Z.out; omega
end Go.Proofs.Ytabchlgbdlgacaa
