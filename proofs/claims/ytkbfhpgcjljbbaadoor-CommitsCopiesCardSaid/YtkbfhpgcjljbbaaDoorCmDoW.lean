/- A step done in the program's table and in the document's own: what holds between its calls (layer 16). -/
import Derived.Test.YtkbfhpgcjljbbaaDoorCmRt5
import Derived.Test.YtkbfhpgcjljbbaaDoorCmMem
import Derived.Test.YtkbfhpgcjljbbaaDoorErrAs
import Derived.Test.YtkbfhpgcjljbbaaDoorCmAny
namespace Go.Proofs.YtkbfhpgcjljbbaaDoor
set_option linter.unusedVariables false
set_option linter.unusedSimpArgs false
open Go.RowKit

/-- what New makes ahead of the marks -/
def rtN (l : Int) (vm : Value) : List Value := [.int .i64 l, .int .i64 0, .slice none 0 0, .slice none 0 0, vm, .int .i64 (-1)]
theorem rtN_one (l : Int) (a : Option Addr) (n c : Nat) : (rtN l (.slice a n c)).toArray.all (fun x => x.oneCell') = true :=
  all_oneCell_toArray (fun u hu => by simp [rtN] at hu; rcases hu with rfl | rfl | rfl | rfl | rfl <;> rfl)
theorem RtW.stepLow {w W W' : World} {L R : List Value} (h : RtW w W L R) (hs : Below (w.heap.size + 2) W W') : RtW w W' L R :=
  ⟨h.low.trans (hs.mono (by omega)), Nat.le_trans h.size hs.size, (hs.block _ (by omega)).trans h.own, (hs.block _ (by omega)).trans h.ans⟩
theorem RtW.fieldA {w W : World} {L R : List Value} (h : RtW w W L R) (i : Nat) (v : Value) : RtW w (W.setCell ⟨w.heap.size + 1, i, none⟩ v) L (R.set i v) := by
  have e := blk_set h.ans i v
  have e2 : R.toArray.setIfInBounds i v = (R.set i v).toArray := by simp
  rw [e2] at e
  exact ⟨below_set h.low (by omega) i v, by simpa using h.size, blk_off h.own (by omega) i v, e⟩
theorem RtW.putO {w W : World} {L R : List Value} (h : RtW w W L R) {n : Nat} (hn : L.length = n) (vs : List Value) (hv : vs.length = n) : RtW w (W.setCells w.heap.size 0 vs) vs R := by
  have e := list_laid vs h.own (by simp [hn, hv])
  have k := (Kept.setCells (w := W) (b := w.heap.size) vs 0 W (Kept.refl _ _))
  have hlt : w.heap.size + 1 < W.heap.size := by have := h.size; omega
  exact ⟨h.low.trans (k.below (fun k hk => by omega) h.low.size), Nat.le_trans h.size k.size, e, (k.block _ hlt (by omega)).trans h.ans⟩
theorem keptO (W : World) (b : Nat) (vs : List Value) : Kept (rtK b) W (W.setCells b 0 vs) := (Kept.setCells vs 0 W (Kept.refl (fun k => k = b) W)).wide (fun _ _ h => .inl h)
set_option maxRecDepth 100000 in
set_option maxHeartbeats 4000000 in
theorem rf_newNo (n l : Int) (w : World) (h : okT n l = false) :
    Calls Tryd.prog 9 #[.int .i64 n, .int .i64 l] w fun ev w' => ev = .returned (.tuple #[.agg (rtN l (.slice none 0 0)).toArray, .bool false]) ∧ Below w.heap.size w w' := by
  have BB := Lib.hid (RtW.both w (rtN l (.slice none 0 0)) (rtN l (.slice none 0 0)))
  have H := Lib.hid h
  clear h
  have hend : ∀ (W : World), RtW w W (rtN l (.slice none 0 0)) (rtN l (.slice none 0 0)) → True := fun _ _ => trivial
  clear hend
  by_cases h1 : n < 1
  · go_enter Tryd.func9, Tryd.ntmps9
    go_wp2
    exact bodyPost_ret (v := .tuple #[.agg (rtN l (.slice none 0 0)).toArray, .bool false]) (results_cellT rfl _ _ w.heap.size _ _ (.bool false) rfl rfl (rangeOf BB.out.own) Tryd.underlying31 rfl rtInfo) rfl ⟨rfl, BB.out.low⟩
  · by_cases h2 : 64 < n
    · go_enter Tryd.func9, Tryd.ntmps9
      go_wp2
      exact bodyPost_ret (v := .tuple #[.agg (rtN l (.slice none 0 0)).toArray, .bool false]) (results_cellT rfl _ _ w.heap.size _ _ (.bool false) rfl rfl (rangeOf BB.out.own) Tryd.underlying31 rfl rtInfo) rfl ⟨rfl, BB.out.low⟩
    · by_cases h3 : l < 1
      · go_enter Tryd.func9, Tryd.ntmps9
        go_wp2
        exact bodyPost_ret (v := .tuple #[.agg (rtN l (.slice none 0 0)).toArray, .bool false]) (results_cellT rfl _ _ w.heap.size _ _ (.bool false) rfl rfl (rangeOf BB.out.own) Tryd.underlying31 rfl rtInfo) rfl ⟨rfl, BB.out.low⟩
      · by_cases h4 : 1099511627776 < l
        · go_enter Tryd.func9, Tryd.ntmps9
          go_wp2
          exact bodyPost_ret (v := .tuple #[.agg (rtN l (.slice none 0 0)).toArray, .bool false]) (results_cellT rfl _ _ w.heap.size _ _ (.bool false) rfl rfl (rangeOf BB.out.own) Tryd.underlying31 rfl rtInfo) rfl ⟨rfl, BB.out.low⟩
        · exact absurd H.out (by unfold okT; simp; omega)
set_option maxRecDepth 100000 in
set_option maxHeartbeats 4000000 in
theorem rf_newYes (n l : Int) (w : World) (h : okT n l = true) :
    Calls Tryd.prog 9 #[.int .i64 n, .int .i64 l] w fun ev w' => ∃ vm, ev = .returned (.tuple #[rtV (Tb.new n.toNat l) (.slice none 0 0) (.slice none 0 0) vm, .bool true]) ∧ OwnS lInt w.heap.size w' vm (List.replicate n.toNat (-1)) ∧ Below w.heap.size w w' := by
  have hh := h
  unfold okT at hh
  simp only [Bool.and_eq_true, decide_eq_true_eq] at hh
  obtain ⟨⟨⟨h1, h2⟩, h3⟩, h4⟩ := hh
  obtain ⟨N, rfl⟩ : ∃ N : Nat, n = N := ⟨n.toNat, by omega⟩
  rw [Int.toNat_natCast]
  have R0 := Lib.hid (RtW.both w rtZ (rtN l (.slice none 0 0)))
  obtain ⟨W, hW⟩ : ∃ W, W = (w.alloc (.cells rtZ.toArray 31)).alloc (.cells (rtN l (.slice none 0 0)).toArray 31) := ⟨_, rfl⟩
  rw [← hW] at R0
  unfold rtN rtZ at hW
  have HW := Lib.hid hW
  clear h hW
  go_enter Tryd.func9, Tryd.ntmps9
  go_wp2
  rw [← HW.out]
  clear HW
  go_loopg [7] N (fun c i wr => ∃ (k : Nat) (a : Option Addr) (c' : Nat), k + c = N ∧ i = .int .i64 k ∧ RtW w wr rtZ (rtN l (.slice a k c')) ∧ OwnS lInt (w.heap.size + 2) wr (.slice a k c') (List.replicate k (-1)))
  case atStart => exact ⟨0, none, 0, by omega, rfl, R0.out, OwnS.nil _ _ _⟩
  case round =>
    obtain ⟨k, a, c', hk, rfl, hR, hO⟩ := hrel
    have A := Lib.hid (show k + gk = N from hk)
    have R1 := Lib.hid hR
    have O1 := Lib.hid hO
    clear hR hO
    by_cases hlt : k < N
    · have ba := alloc_below0 wr (.cells #[.int .i64 (-1)] 3)
      have R2 := Lib.hid (R1.out.step ba)
      have O2 := Lib.hid (O1.out.below ba)
      have c4 := (show wr.cell? ⟨w.heap.size + 1, 4, none⟩ = some (Value.slice a k c') from blk_cell R1.out.ans 4)
      have SR := Lib.hid (OwnS.lit lInt 0 wr wr.heap.size rfl [-1] (Nat.zero_le _) (by simp [maxLen])).sv
      have BE := Lib.hid ba
      clear ba
      go_wp2_with (refine wpList_appS lInt 29 Tryd.underlying29 lInt_known (by decide) (by decide) rfl (.tmp 31) (.tmp 32) rfl (w.heap.size + 2) rfl rfl O2.out SR.out (by simp; omega) R2.out.size ?_
                   intro v3 w3 ho3 hg3
                   have e3 : List.replicate k (-1 : Int) ++ [-1] = List.replicate (k + 1) (-1) := by rw [List.replicate_succ']
                   rw [e3] at ho3
                   obtain ⟨a3, c3, rfl, -, -⟩ := ho3.lenN (n := k + 1) (by simp)
                   have B3 := Lib.hid ((Kept.of_grown hg3).below (n := w.heap.size + 2) (fun j hj => (O2.out.bounds j hj.symm).1) R2.out.size)
                   have R3 := Lib.hid (R2.out.stepLow B3.out)
                   have d4 := (show w3.cell? ⟨w.heap.size + 1, 4, none⟩ = some (Value.slice a k c') from blk_cell R3.out.ans 4)
                   have f4 := blk_free R3.out.ans 4
                   have O3 := Lib.hid (show OwnS lInt (w.heap.size + 2) (w3.setCell ⟨w.heap.size + 1, 4, none⟩ (.slice a3 (k + 1) c3)) (.slice a3 (k + 1) c3) (List.replicate (k + 1) (-1)) from ho3.setOther (fun j hj => by
                     have := (ho3.bounds j hj).1
                     omega))
                   have R4 := Lib.hid (R3.out.fieldA 4 (.slice a3 (k + 1) c3))
                   clear ho3 hg3 e3 c4)
      go_roundg (N - (k + 1))
      case measure => have := A.out; omega
      case rel => exact ⟨k + 1, a3, c3, by omega, by go_num, R4.out, O3.out⟩
    · obtain rfl : N = k := by have := A.out; omega
      go_wp2_with (first
        | (refine wpList_load_mid rfl 31 (.tmp 6) rfl (w.heap.size + 1) 0 rfl (rtN l (.slice a N c')) _ (rangeOf R1.out.ans) Tryd.underlying31 rfl rtInfo ?_)
        | (refine wpList_store_mid rfl 31 (.tmp 4) (.tmp 35) rfl w.heap.size 0 (rtN l (.slice a N c')).toArray rfl rfl R1.out.thereL rtInfo (rtN_one _ _ _ _) ?_
           generalize hwz : World.setCells _ _ _ _ = wz
           have RZ := Lib.hid (show RtW w wz (rtN l (.slice a N c')) _ by rw [← hwz]; exact R1.out.putO (n := 6) rfl _ rfl)
           have KZ := Lib.hid (show Kept (rtK w.heap.size) wr wz by rw [← hwz]; exact keptO _ _ _)
           clear hwz))
      exact bodyPost_ret (v := .tuple #[.agg (rtN l (.slice a N c')).toArray, .bool true]) (results_cellT rfl _ _ w.heap.size _ _ (.bool true) rfl rfl (rangeOf RZ.out.own) Tryd.underlying31 rfl rtInfo) rfl ⟨_, rfl, (O1.out.mono (by omega)).kept KZ.out (fun a m c hv hs => by
        have h1 := (O1.out.bounds a.block (by rw [hv]; rfl)).1
        rcases hs with hs | hs <;> omega), RZ.out.low⟩

set_option linter.unusedVariables false
set_option linter.unusedSimpArgs false
open Go.RowKit

def doV (verb n th : Int) (r : Bool) (L : Value) : Value := .agg #[.int .i64 verb, .int .i64 n, .int .i64 th, .bool r, L]
def doO (verb n th : Int) (r : Bool) (L : Value) : Obj := .cells #[.int .i64 verb, .int .i64 n, .int .i64 th, .bool r, L] 36
/-- what a law reads of a step that lies in block b -/
structure DoAt (b : Nat) (verb n th : Int) (r : Bool) (L : Value) (w : World) : Prop where
  c0 : w.cell? ⟨b, 0, none⟩ = some (.int .i64 verb)
  c1 : w.cell? ⟨b, 1, none⟩ = some (.int .i64 n)
  c2 : w.cell? ⟨b, 2, none⟩ = some (.int .i64 th)
  c3 : w.cell? ⟨b, 3, none⟩ = some (.bool r)
  c4 : w.cell? ⟨b, 4, none⟩ = some L
theorem DoAt.new (verb n th : Int) (r : Bool) (L : Value) (w : World) : DoAt w.heap.size verb n th r L (w.alloc (doO verb n th r L)) := by
  unfold doO
  exact ⟨by rw [World.cell?_alloc_at _ _ _ _ rfl]; rfl, by rw [World.cell?_alloc_at _ _ _ _ rfl]; rfl, by rw [World.cell?_alloc_at _ _ _ _ rfl]; rfl, by rw [World.cell?_alloc_at _ _ _ _ rfl]; rfl, by rw [World.cell?_alloc_at _ _ _ _ rfl]; rfl⟩
theorem DoAt.step {b : Nat} {verb n th : Int} {r : Bool} {L : Value} {w w' : World} (h : DoAt b verb n th r L w) (hs : Below w.heap.size w w') : DoAt b verb n th r L w' :=
  ⟨cell_step h.c0 hs, cell_step h.c1 hs, cell_step h.c2 hs, cell_step h.c3 hs, cell_step h.c4 hs⟩
theorem DoAt.keep {S : Nat → Prop} {b : Nat} {verb n th : Int} {r : Bool} {L : Value} {w w' : World} (h : DoAt b verb n th r L w) (hk : Kept S w w') (hn : ¬ S b) : DoAt b verb n th r L w' :=
  ⟨hk.cell hn h.c0, hk.cell hn h.c1, hk.cell hn h.c2, hk.cell hn h.c3, hk.cell hn h.c4⟩

set_option linter.unusedVariables false
set_option linter.unusedSimpArgs false
open Go.RowKit

theorem blk_keep {S : Nat → Prop} {w w' : World} {b : Nat} {o : Obj} (h : w.heap[b]? = some o) (hk : Kept S w w') (hn : ¬ S b) : w'.heap[b]? = some o := (hk.block b (Array.getElem?_eq_some_iff.1 h).1 hn).trans h
theorem code_of (e : Int) (w : World) (hg : Ea.Glob w) : Calls Tryd.prog 21 #[errV e] w fun ev w' => ev = .returned (.int .i64 e) ∧ Below w.heap.size w w' := by
  unfold errV
  by_cases h : e = 0
  · rw [if_pos h, h]; exact Ea.Code_nil w
  · rw [if_neg h]; exact Ea.Code_code e w hg
theorem OwnS.keep {α : Type} {E : Lay α} {S : Nat → Prop} {base : Nat} {w w' : World} {v : Value} {xs : List α} (h : OwnS E base w v xs) (hk : Kept S w w') (hn : ∀ k, v.ownBlock = some k → ¬ S k) : OwnS E base w' v xs :=
  h.kept hk (fun a n c hv hs => hn a.block (by rw [hv]; rfl) hs)
theorem AllO.keep {S : Nat → Prop} {w0 w w' : World} {v : Value} {ps : List (List Wr)} (h : AllO w0 w v ps) (hk : Kept S w w') (hn : ∀ k, v.ownBlock = some k → ¬ S k) : AllO w0 w' v ps :=
  let ⟨ss, h1, h2, h3⟩ := h
  ⟨ss, h1.keep hk hn, h2, h3⟩
theorem RtV.keep {S : Nat → Prop} {w0 w w' : World} {t : Tb} {va vd vm : Value} (h : RtV w0 w t va vd vm) (hk : Kept S w w') (hn : ∀ k, rtB va vd vm k → ¬ S k) : RtV w0 w' t va vd vm :=
  ⟨h.all.keep hk (fun k e => hn k (.inl e)), h.drp.keep hk (fun k e => hn k (.inr (.inl e))), h.mks.keep hk (fun k e => hn k (.inr (.inr e)))⟩
theorem AllO.bounds {w0 w : World} {v : Value} {ps : List (List Wr)} (h : AllO w0 w v ps) : ∀ k, v.ownBlock = some k → k < w.heap.size :=
  let ⟨_, h1, _, _⟩ := h
  fun k e => (h1.bounds k e).2
theorem RtV.bounds {w0 w : World} {t : Tb} {va vd vm : Value} (h : RtV w0 w t va vd vm) : ∀ k, rtB va vd vm k → k < w.heap.size := fun k hk => by
  rcases hk with e | e | e
  · exact h.all.bounds k e
  · exact (h.drp.bounds k e).2
  · exact (h.mks.bounds k e).2
/-- does has the document's table, the step and its answer in three blocks -/
structure DoW (S : Nat → Prop) (w W : World) (L R : List Value) (verb n th : Int) (r : Bool) (Lv : Value) : Prop where
  kept : Kept S w W
  size : w.heap.size + 3 ≤ W.heap.size
  own : W.heap[w.heap.size]? = some (.cells L.toArray 31 (0, 0))
  doo : DoAt (w.heap.size + 1) verb n th r Lv W
  ans : W.heap[w.heap.size + 2]? = some (.cells R.toArray 31 (0, 0))
theorem DoW.start (S : Nat → Prop) (w : World) (L R : List Value) (verb n th : Int) (r : Bool) (Lv : Value) :
    DoW S w (((w.alloc (.cells L.toArray 31)).alloc (doO verb n th r Lv)).alloc (.cells R.toArray 31)) L R verb n th r Lv := by
  have b1 := alloc_below0 w (.cells L.toArray 31)
  obtain ⟨w1, h1⟩ : ∃ W, W = w.alloc (.cells L.toArray 31) := ⟨_, rfl⟩
  have z1 : w1.heap.size = w.heap.size + 1 := by rw [h1]; simp
  have k1 := blk_new w (.cells L.toArray 31)
  rw [← h1] at b1 k1 ⊢
  have b2 := alloc_below0 w1 (doO verb n th r Lv)
  have k2 := DoAt.new verb n th r Lv w1
  obtain ⟨w2, h2⟩ : ∃ W, W = w1.alloc (doO verb n th r Lv) := ⟨_, rfl⟩
  have z2 : w2.heap.size = w.heap.size + 2 := by rw [h2]; simp [z1]
  rw [← h2] at b2 k2 ⊢
  have b3 := alloc_below0 w2 (.cells R.toArray 31)
  have k3 := blk_new w2 (.cells R.toArray 31)
  rw [z1] at k2
  rw [z2] at k3
  exact ⟨Kept.of_below ((b1.trans (b2.mono b1.size)).trans (b3.mono (Nat.le_trans b1.size b2.size))), by simp [z2], blk_step (blk_step k1 b2) b3, k2.step b3, k3⟩
section
variable {S : Nat → Prop} {w W W' : World} {L R : List Value} {verb n th : Int} {r : Bool} {Lv : Value}
theorem DoW.step (h : DoW S w W L R verb n th r Lv) (hs : Below W.heap.size W W') : DoW S w W' L R verb n th r Lv :=
  ⟨h.kept.trans (Kept.of_below hs), Nat.le_trans h.size hs.size, blk_step h.own hs, h.doo.step hs, blk_step h.ans hs⟩
theorem DoW.keep (h : DoW (Mt w S) w W L R verb n th r Lv) (hk : Kept (Mt W S) W W') (hS : ∀ k, S k → k < w.heap.size) : DoW (Mt w S) w W' L R verb n th r Lv :=
  ⟨h.kept.mt_trans hk, Nat.le_trans h.size hk.size, blk_keep h.own hk.mt (fun e => by have := hS _ e; omega), h.doo.keep hk.mt (fun e => by have := hS _ e; omega), blk_keep h.ans hk.mt (fun e => by have := hS _ e; omega)⟩
theorem DoW.put (h : DoW S w W L R verb n th r Lv) {k : Nat} (hn : R.length = k) (vs : List Value) (hv : vs.length = k) : DoW S w (W.setCells (w.heap.size + 2) 0 vs) L vs verb n th r Lv := by
  have e := list_laid vs h.ans (by simp [hn, hv])
  have q := (Kept.setCells (w := W) (b := w.heap.size + 2) vs 0 W (Kept.refl _ _))
  have hlt := h.size
  exact ⟨⟨q.os.trans h.kept.os, q.tape.trans h.kept.tape, q.output.trans h.kept.output, Nat.le_trans h.kept.size q.size, fun k hk hs => (q.block k (Nat.lt_of_lt_of_le hk h.kept.size) (by omega)).trans (h.kept.block k hk hs)⟩,
    Nat.le_trans h.size q.size, (q.block _ (by omega) (by omega)).trans h.own, h.doo.keep q (by omega), e⟩
theorem DoW.there (h : DoW S w W L R verb n th r Lv) : W.there (w.heap.size + 2) 0 R.length := blk_there h.ans _ (by simp)
end
theorem low3 (w : World) (o1 o2 o3 : Obj) : Below w.heap.size w (((w.alloc o1).alloc o2).alloc o3) :=
  let b1 := alloc_below0 w o1
  let b2 := alloc_below0 (w.alloc o1) o2
  let b3 := alloc_below0 ((w.alloc o1).alloc o2) o3
  (b1.trans (b2.mono b1.size)).trans (b3.mono (Nat.le_trans b1.size b2.size))
/-- what holds ahead of a step -/
structure DoPre (C : CmT) (w0 w : World) (a : Addr) (S : Nat → Prop) (t : Tb) (va vd vm : Value) : Prop where
  inv : C.Inv w a S t
  rt : RtV w0 w t va vd vm
  low : Below w0.heap.size w0 w
  off : ∀ k, rtB va vd vm k → ¬ S k
  S0 : ∀ k, S k → w0.heap.size ≤ k
  glob : Ea.Glob w0
  len : t.all.length ≤ 500
  small : ∀ p ∈ t.all, p.length ≤ 100 ∧ ∀ x ∈ p, x.2.1.size ≤ 1000
/-- what a step promises: both have told the same -/
def DoesP (C : CmT) (w0 w : World) (a : Addr) (S : Nat → Prop) (va vd vm : Value) (t' : Tb) (ev : Ending) (w' : World) : Prop :=
  ∃ S' va' vd' vm', ev = .returned (.tuple #[rtV t' va' vd' vm', .bool true]) ∧ C.Inv w' a S' t' ∧ RtV w0 w' t' va' vd' vm' ∧ (∀ k, rtB va' vd' vm' k → ¬ S' k) ∧ Kept (Mt w S) w w' ∧ (∀ k, S' k → S k ∨ w.heap.size ≤ k) ∧ (∀ b, rtB va' vd' vm' b → rtB va vd vm b ∨ w.heap.size ≤ b)
theorem Glob.at {w w' : World} (h : Ea.Glob w) (hb : Below w.heap.size w w') : Ea.Glob w' := Ea.Glob.below hb h
theorem does_fin {C : CmT} {w0 w W4 wz : World} {a : Addr} {S S4 : Nat → Prop} {t t' : Tb} {va vd vm va' vd' vm' : Value} {L R : List Value} {verb n th : Int} {r : Bool} {Lv : Value} (P : DoPre C w0 w a S t va vd vm) (D : DoW (Mt w S) w W4 L R verb n th r Lv) (hR : R.length = 6)
    (I : C.Inv W4 a S4 t') (V : RtV w0 W4 t' va' vd' vm') (n1 : ∀ k, S4 k → S k ∨ w.heap.size + 3 ≤ k) (n2 : ∀ b, rtB va' vd' vm' b → rtB va vd vm b ∨ w.heap.size + 3 ≤ b) (off : ∀ b, rtB va' vd' vm' b → ¬ S4 b)
    (hz : wz = W4.setCells (w.heap.size + 2) 0 (rtL t' va' vd' vm')) :
    wz.heap[w.heap.size + 2]? = some (.cells (rtL t' va' vd' vm').toArray 31 (0, 0)) ∧ DoesP C w0 w a S va vd vm t' (.returned (.tuple #[.agg (rtL t' va' vd' vm').toArray, .bool true])) wz := by
  have D2 := D.put hR (rtL t' va' vd' vm') rfl
  rw [← hz] at D2
  have q : Kept (fun k => k = w.heap.size + 2) W4 wz := by rw [hz]; exact Kept.setCells (w := W4) (b := w.heap.size + 2) _ 0 W4 (Kept.refl _ _)
  have hf : ∀ k, S k → k < w.heap.size := C.foot P.inv
  have hb := P.rt.bounds
  refine ⟨D2.ans, S4, va', vd', vm', rfl, C.keep I (q.wide (fun k _ e hs => ?_)), V.keep q (fun k hk e => ?_), off, D2.kept, fun k hk => (n1 k hk).imp id (fun h => by omega), fun k hk => (n2 k hk).imp id (fun h => by omega)⟩
  · subst e
    rcases n1 _ hs with h | h
    · have := hf _ h; omega
    · omega
  · subst e
    rcases n2 _ hk with h | h
    · have := hb _ h; omega
    · omega
theorem keptRange {W4 wz : World} {b c : Nat} {L vs : List Value} (hz : wz = W4.setCells c 0 vs) (h : W4.rangeAt b 0 L) (hne : b ≠ c) : wz.rangeAt b 0 L := fun j u hj => by
  have q : Kept (fun k => k = c) W4 wz := by rw [hz]; exact Kept.setCells (w := W4) (b := c) _ 0 W4 (Kept.refl _ _)
  exact q.cell hne (h j u hj)
/-- blocks of the call's own are written, which none of the three is -/
theorem DoW.keepT {S T : Nat → Prop} {w W W' : World} {L R : List Value} {verb n th : Int} {r : Bool} {Lv : Value} (h : DoW S w W L R verb n th r Lv) (hk : Kept T W W') (hg : ∀ k, T k → w.heap.size + 3 ≤ k) : DoW S w W' L R verb n th r Lv := by
  have h3 := h.size
  exact ⟨⟨hk.os.trans h.kept.os, hk.tape.trans h.kept.tape, hk.output.trans h.kept.output, Nat.le_trans h.kept.size hk.size, fun k hlt hs => (hk.block k (Nat.lt_of_lt_of_le hlt h.kept.size) (fun e => by have := hg k e; omega)).trans (h.kept.block k hlt hs)⟩,
    Nat.le_trans h.size hk.size, blk_keep h.own hk (fun e => by have := hg _ e; omega), h.doo.keep hk (fun e => by have := hg _ e; omega), blk_keep h.ans hk (fun e => by have := hg _ e; omega)⟩
def addV (x : Wr) : Wr := (x.1, x.2.1 ++ ⟨#[120]⟩, x.2.2)
theorem addV_enc (x : Wr) : lPw.enc (addV x) = (lPw.enc x).set 1 (.string (x.2.1 ++ ⟨#[120]⟩)) := rfl
theorem lPw_sz : lPw.sz = 3 := rfl
theorem addV_set {base : Nat} {w : World} {g m c : Nat} {xs : List Wr} {k : Nat} {x : Wr} (h : OwnS lPw base w (.slice (some ⟨g, 0, none⟩) m c) (turned addV xs k)) (hx : xs[k]? = some x) :
    OwnS lPw base (w.setCell ⟨g, k * 3 + 1, none⟩ (.string (x.2.1 ++ ⟨#[120]⟩))) (.slice (some ⟨g, 0, none⟩) m c) (turned addV xs (k + 1)) := by
  have e := OwnS.set h (i := k) (j := 1) (turned_at addV hx) (by rw [lPw_sz]; omega) (addV_enc x)
  rw [lPw_sz] at e
  rw [turned_set addV hx]
  exact e
theorem addV_cell {base : Nat} {w : World} {g m c : Nat} {xs : List Wr} {k : Nat} {x : Wr} (h : OwnS lPw base w (.slice (some ⟨g, 0, none⟩) m c) (turned addV xs k)) (hx : xs[k]? = some x) : w.cell? ⟨g, k * 3 + 1, none⟩ = some (.string x.2.1) := by
  have := h.sv.cellAt (turned_at addV hx) (j := 1) (u := .string x.2.1) rfl
  simpa [lPw] using this
end Go.Proofs.YtkbfhpgcjljbbaaDoor
