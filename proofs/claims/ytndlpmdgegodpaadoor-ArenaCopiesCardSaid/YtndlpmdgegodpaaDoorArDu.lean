/- An arena and the document's own beside it: what both keep; what does of package rowlocklaw04 has in memory. -/
import Derived.Test.YtndlpmdgegodpaaDoorArRj
import Derived.Test.YtndlpmdgegodpaaDoorArLow
import Derived.Test.YtndlpmdgegodpaaDoorArLaid
import Derived.Test.YtndlpmdgegodpaaDoorArMod
import Derived.Test.YtndlpmdgegodpaaDoorArSame
import Derived.Test.YtndlpmdgegodpaaDoorErrAs
import Derived.Deep.CutRange
namespace Go.Proofs.YtndlpmdgegodpaaDoor
open Go.RowKit

/-- a block that holds a ref -/
def XK (b : Nat) (p q : Int) (w : World) : Prop := w.heap[b]? = some (.cells #[.int .i64 p, .int .i64 q] 38 (0, 0))
theorem XK.set {b : Nat} {p q : Int} {w : World} (h : XK b p q w) (x y : Int) : XK b x y ((w.setCell ⟨b, 0, none⟩ (.int .i64 x)).setCell ⟨b, 1, none⟩ (.int .i64 y)) := by
  unfold XK at h ⊢
  simp [World.setCell, Array.getElem?_modify, h]
theorem blk_keep {S : Nat → Prop} {w w' : World} {b : Nat} {o : Obj} (h : w.heap[b]? = some o) (hk : Kept S w w') (hn : ¬ S b) : w'.heap[b]? = some o := (hk.block b (Array.getElem?_eq_some_iff.1 h).1 hn).trans h
/-- a record's rows and entries as they came in -/
def Kin (W : World) (rv en : Value) (rows : List Rw) (ents : List En) : Prop := SV lRow W rv rows ∧ SV lEnt W en ents ∧ rows.length ≤ 60 ∧ ents.length ≤ 60 ∧ SmallR rows
structure Du (C : ArC) (W w : World) (a : Addr) (S : Nat → Prop) (n l : Nat) (ps : List Pt) (us : List PuD) (v : Value) : Prop where
  inv : C.Inv w a S n l ps
  base : ∀ k, S k → W.heap.size ≤ k
  low : Below W.heap.size W w
  own : OwnS lPut W.heap.size w v us
  off : ∀ k, v.ownBlock = some k → ¬ S k
  kin : ∀ e ∈ us, Kin W e.rv e.en e.rows e.ents
section
variable {C : ArC} {W w w' : World} {a : Addr} {S S' : Nat → Prop} {n l : Nat} {ps ps' : List Pt} {us us' : List PuD} {v v' : Value}
theorem Du.puts (h : Du C W w a S n l ps us v) : PutsV w v us := ⟨h.own.sv, fun d hd => ⟨(h.kin d hd).1.below h.low, (h.kin d hd).2.1.below h.low⟩⟩
theorem Du.step (h : Du C W w a S n l ps us v) (hs : Below w.heap.size w w') : Du C W w' a S n l ps us v :=
  ⟨C.step h.inv hs, h.base, h.low.trans (hs.mono h.low.size), h.own.below hs, h.off, h.kin⟩
theorem Du.kept (h : Du C W w a S n l ps us v) {T : Nat → Prop} (hk : Kept T w w') (hT : ∀ k, T k → W.heap.size ≤ k) (hS : ∀ k, S k → ¬ T k) (ho : ∀ k, v.ownBlock = some k → ¬ T k) : Du C W w' a S n l ps us v :=
  ⟨C.keep h.inv (hk.wide fun k _ t s => hS k s t), h.base, h.low.trans (hk.below hT h.low.size), h.own.kept hk (fun x m c hv => ho x.block (by rw [hv]; rfl)), h.off, h.kin⟩
theorem Du.turn (h : Du C W w a S n l ps us v) (hi : C.Inv w' a S' n l ps') (hk : Kept S w w') (hS : ∀ k, S' k → S k ∨ w.heap.size ≤ k) : Du C W w' a S' n l ps' us v :=
  ⟨hi, fun k q => (hS k q).elim (h.base k) (fun q => Nat.le_trans h.low.size q), h.low.trans (hk.below h.base h.low.size), h.own.kept hk (fun x m c hv => h.off x.block (by rw [hv]; rfl)),
   fun k hk2 h2 => (hS k h2).elim (h.off k hk2) (fun q => by have := (h.own.bounds k hk2).2; omega), h.kin⟩
theorem Du.told (h : Du C W w a S n l ps us v) (hs : Below w.heap.size w w') (hn : NewP w w' v v' us us') (hk : ∀ e ∈ us', Kin W e.rv e.en e.rows e.ents) : Du C W w' a S n l ps us' v' := by
  rcases hn with ho | ⟨rfl, rfl⟩
  · exact ⟨C.step h.inv hs, h.base, h.low.trans (hs.mono h.low.size), ho.mono h.low.size, fun k hk2 h2 => by have := (ho.bounds k hk2).1; have := C.foot h.inv k h2; omega, hk⟩
  · exact ⟨C.step h.inv hs, h.base, h.low.trans (hs.mono h.low.size), h.own.below hs, h.off, hk⟩
theorem kin_heir (h : ∀ e ∈ us, Kin W e.rv e.en e.rows e.ents) (hh : ∀ e ∈ us', ∃ e0 ∈ us, Heir e e0) : ∀ e ∈ us', Kin W e.rv e.en e.rows e.ents := fun e he => by
  obtain ⟨e0, h0, h1, h2, h3, h4⟩ := hh e he
  rw [h1, h2, h3, h4]
  exact h e0 h0
theorem kin_put {s : Sc} {rv en : Value} {d : RecD} (h : ∀ e ∈ us, Kin W e.rv e.en e.rows e.ents) (hd : Kin W rv en d.rows d.ents) (hh : ∀ e ∈ us', (∃ e0 ∈ us, Heir e e0) ∨ (recVal s rv en = recVal e.sc e.rv e.en ∧ e.rows = d.rows ∧ e.ents = d.ents)) :
    ∀ e ∈ us', Kin W e.rv e.en e.rows e.ents := fun e he => by
  rcases hh e he with ⟨e0, h0, h1, h2, h3, h4⟩ | ⟨h1, h2, h3⟩
  · rw [h1, h2, h3, h4]
    exact h e0 h0
  · unfold recVal at h1
    simp only [Value.agg.injEq, Array.mk.injEq, List.cons.injEq] at h1
    rw [h2, h3, ← h1.2.2.2.2.2.1, ← h1.2.2.2.2.2.2.1]
    exact hd
theorem kin_load (h : ∀ e ∈ us, Kin W e.rv e.en e.rows e.ents) (x y : Int) : (loadM n (us.map PuD.pt) x y).rows.length ≤ 60 ∧ (loadM n (us.map PuD.pt) x y).ents.length ≤ 60 ∧ SmallR (loadM n (us.map PuD.pt) x y).rows := by
  have hz : RecD.zero.rows.length ≤ 60 ∧ RecD.zero.ents.length ≤ 60 ∧ SmallR RecD.zero.rows := ⟨by decide, by decide, fun r hr => by cases hr⟩
  unfold loadM
  split
  · split
    · rename_i p hp
      obtain ⟨i, -, hi⟩ := Option.bind_eq_some_iff.1 hp
      obtain ⟨e, he, rfl⟩ := List.mem_map.1 (List.mem_of_getElem? hi)
      exact (h e he).2.2
    · exact hz
  · exact hz
end
/-- the memory of does: its blocks, from m on -/
structure Fd (C : ArC) (W w0 w : World) (a : Addr) (S0 S : Nat → Prop) (n l : Nat) (ps : List Pt) (us : List PuD) (v0 v : Value) (d : DoD) (px py : Int) (m : Nat) : Prop where
  kA : w.heap[m]? = some (.cells #[.int .i64 n, .int .i64 l, v0] 29 (0, 0))
  kD : DB (m + 1) d.verb d.sc (.slice d.ra d.rows.length d.rc) (.slice d.ea d.ents.length d.ec) d.x d.y d.last d.nn w
  kZ : w.heap[m + 1 + 1]? = some (.cells #[.int .i64 0, .int .i64 0, .slice none 0 0] 29 (0, 0))
  kO : XK (m + 1 + 1 + 1) 0 0 w
  kX : XK (m + 1 + 1 + 1 + 1) px py w
  du : Du C W w a S n l ps us v
  off : ∀ k, S k → k < m ∨ m + 5 ≤ k
  size : m + 5 ≤ w.heap.size
  kep : Kept S0 w0 w
  new : ∀ k, S k → S0 k ∨ w0.heap.size ≤ k
  wm : w0.heap.size = m
  wle : W.heap.size ≤ m
section
variable {C : ArC} {W w0 w w' : World} {a : Addr} {S0 S S' : Nat → Prop} {n l : Nat} {ps ps' : List Pt} {us us' : List PuD} {v0 v v' : Value} {d : DoD} {px py : Int} {m : Nat}
theorem Fd.step (h : Fd C W w0 w a S0 S n l ps us v0 v d px py m) (hs : Below w.heap.size w w') : Fd C W w0 w' a S0 S n l ps us v0 v d px py m :=
  ⟨blk_step h.kA hs, h.kD.step hs, blk_step h.kZ hs, blk_step h.kO hs, blk_step h.kX hs, h.du.step hs, h.off, Nat.le_trans h.size hs.size, h.kep.trans (Kept.of_below hs), h.new, h.wm, h.wle⟩
theorem Fd.turn (h : Fd C W w0 w a S0 S n l ps us v0 v d px py m) (hi : C.Inv w' a S' n l ps') (hk : Kept S w w') (hS : ∀ k, S' k → S k ∨ w.heap.size ≤ k) : Fd C W w0 w' a S0 S' n l ps' us v0 v d px py m := by
  have hz := h.size
  have no : ∀ j, m ≤ j → j < m + 5 → ¬ S j := fun j h1 h2 q => by have := h.off j q; omega
  have hm := h.wm
  refine ⟨blk_keep h.kA hk (no _ (by omega) (by omega)), h.kD.kept hk (no _ (by omega) (by omega)), blk_keep h.kZ hk (no _ (by omega) (by omega)), blk_keep h.kO hk (no _ (by omega) (by omega)), blk_keep h.kX hk (no _ (by omega) (by omega)), h.du.turn hi hk hS,
    fun k q => (hS k q).elim (h.off k) (fun q => Or.inr (by omega)), Nat.le_trans hz hk.size, ?_, fun k q => (hS k q).elim (h.new k) (fun q => Or.inr (by omega)), hm, h.wle⟩
  exact ⟨hk.os.trans h.kep.os, hk.tape.trans h.kep.tape, hk.output.trans h.kep.output, Nat.le_trans h.kep.size hk.size, fun k hlt hn => (hk.block k (Nat.lt_of_lt_of_le hlt h.kep.size) (fun q => (h.new k q).elim hn (fun q => Nat.lt_irrefl _ (Nat.lt_of_lt_of_le hlt q)))).trans (h.kep.block k hlt hn)⟩
theorem Fd.other (h : Fd C W w0 w a S0 S n l ps us v0 v d px py m) {T : Nat → Prop} (hk : Kept T w w') (hT : ∀ k, T k → m + 5 ≤ k) (hS : ∀ k, S k → ¬ T k) (ho : ∀ k, v.ownBlock = some k → ¬ T k) : Fd C W w0 w' a S0 S n l ps us v0 v d px py m := by
  have no : ∀ j, j < m + 5 → ¬ T j := fun j h2 q => by have := hT j q; omega
  have hm := h.wm
  have hW := h.wle
  refine ⟨blk_keep h.kA hk (no _ (by omega)), h.kD.kept hk (no _ (by omega)), blk_keep h.kZ hk (no _ (by omega)), blk_keep h.kO hk (no _ (by omega)), blk_keep h.kX hk (no _ (by omega)), h.du.kept hk (fun k q => by have := hT k q; omega) hS ho,
    h.off, Nat.le_trans h.size hk.size, ?_, h.new, hm, hW⟩
  exact ⟨hk.os.trans h.kep.os, hk.tape.trans h.kep.tape, hk.output.trans h.kep.output, Nat.le_trans h.kep.size hk.size, fun k hlt hn => (hk.block k (Nat.lt_of_lt_of_le hlt h.kep.size) (no k (by omega))).trans (h.kep.block k hlt hn)⟩
theorem Fd.told (h : Fd C W w0 w a S0 S n l ps us v0 v d px py m) (hs : Below w.heap.size w w') (hn : NewP w w' v v' us us') (hk : ∀ e ∈ us', Kin W e.rv e.en e.rows e.ents) : Fd C W w0 w' a S0 S n l ps us' v0 v' d px py m :=
  ⟨blk_step h.kA hs, h.kD.step hs, blk_step h.kZ hs, blk_step h.kO hs, blk_step h.kX hs, h.du.told hs hn hk, h.off, Nat.le_trans h.size hs.size, h.kep.trans (Kept.of_below hs), h.new, h.wm, h.wle⟩
theorem Fd.setX (h : Fd C W w0 w a S0 S n l ps us v0 v d px py m) (hno : ∀ k, v.ownBlock = some k → k ≠ m + 1 + 1 + 1 + 1) (x y : Int) :
    Fd C W w0 ((w.setCell ⟨m + 1 + 1 + 1 + 1, 0, none⟩ (.int .i64 x)).setCell ⟨m + 1 + 1 + 1 + 1, 1, none⟩ (.int .i64 y)) a S0 S n l ps us v0 v d x y m := by
  have hk := ((Kept.refl (fun k => k = m + 1 + 1 + 1 + 1) w).setCell 0 (.int .i64 x)).setCell 1 (.int .i64 y)
  have hm := h.wm
  have hW := h.wle
  refine ⟨blk_keep h.kA hk (by omega), h.kD.kept hk (by omega), blk_keep h.kZ hk (by omega), blk_keep h.kO hk (by omega), h.kX.set x y, h.du.kept hk (fun k q => by omega) (fun k s q => by have := h.off k s; omega) hno,
    h.off, Nat.le_trans h.size hk.size, ?_, h.new, hm, hW⟩
  exact ⟨hk.os.trans h.kep.os, hk.tape.trans h.kep.tape, hk.output.trans h.kep.output, Nat.le_trans h.kep.size hk.size, fun k hlt hn => (hk.block k (Nat.lt_of_lt_of_le hlt h.kep.size) (by omega)).trans (h.kep.block k hlt hn)⟩
end
section
variable {C : ArC} {W w : World} {a : Addr} {S : Nat → Prop} {n l : Nat} {ps : List Pt} {us : List PuD} {v : Value}
/-- does's first four blocks -/
def startW (w : World) (n l : Nat) (v : Value) (d : DoD) : World :=
  (((w.alloc (.cells #[.int .i64 n, .int .i64 l, v] 29)).alloc (doObj d.verb d.sc (.slice d.ra d.rows.length d.rc) (.slice d.ea d.ents.length d.ec) d.x d.y d.last d.nn)).alloc (.cells #[.int .i64 0, .int .i64 0, .slice none 0 0] 29)).alloc (.cells #[.int .i64 0, .int .i64 0] 38)
theorem startW_db (w : World) (n l : Nat) (v : Value) (d : DoD) : DB (w.heap.size + 1) d.verb d.sc (.slice d.ra d.rows.length d.rc) (.slice d.ea d.ents.length d.ec) d.x d.y d.last d.nn (startW w n l v d) := by
  have h := DB.new d.verb d.sc (.slice d.ra d.rows.length d.rc) (.slice d.ea d.ents.length d.ec) d.x d.y d.last d.nn (w.alloc (.cells #[.int .i64 n, .int .i64 l, v] 29))
  rw [show (w.alloc (.cells #[.int .i64 n, .int .i64 l, v] 29)).heap.size = w.heap.size + 1 by simp] at h
  exact (h.step (alloc_below0 _ _)).step (alloc_below0 _ _)
theorem startW_below (w : World) (n l : Nat) (v : Value) (d : DoD) (o : Obj) : Below w.heap.size w ((startW w n l v d).alloc o) := by
  unfold startW
  have b1 := alloc_below0 w (.cells #[.int .i64 n, .int .i64 l, v] 29)
  have b2 := b1.trans ((alloc_below0 _ (doObj d.verb d.sc (.slice d.ra d.rows.length d.rc) (.slice d.ea d.ents.length d.ec) d.x d.y d.last d.nn)).mono b1.size)
  have b3 := b2.trans ((alloc_below0 _ (.cells #[.int .i64 0, .int .i64 0, .slice none 0 0] 29)).mono b2.size)
  have b4 := b3.trans ((alloc_below0 _ (.cells #[.int .i64 0, .int .i64 0] 38)).mono b3.size)
  exact b4.trans ((alloc_below0 _ o).mono b4.size)
theorem Fd.start (h : Du C W w a S n l ps us v) (d : DoD) : Fd C W w ((startW w n l v d).alloc (.cells #[.int .i64 d.x, .int .i64 d.y] 38)) a S S n l ps us v v d d.x d.y w.heap.size := by
  have hD := startW_db w n l v d
  unfold startW at hD ⊢
  obtain ⟨w1, hw1⟩ : ∃ W, W = w.alloc (.cells #[.int .i64 n, .int .i64 l, v] 29) := ⟨_, rfl⟩
  obtain ⟨w2, hw2⟩ : ∃ W, W = w1.alloc (doObj d.verb d.sc (.slice d.ra d.rows.length d.rc) (.slice d.ea d.ents.length d.ec) d.x d.y d.last d.nn) := ⟨_, rfl⟩
  obtain ⟨w3, hw3⟩ : ∃ W, W = w2.alloc (.cells #[.int .i64 0, .int .i64 0, .slice none 0 0] 29) := ⟨_, rfl⟩
  obtain ⟨w4, hw4⟩ : ∃ W, W = w3.alloc (.cells #[.int .i64 0, .int .i64 0] 38) := ⟨_, rfl⟩
  obtain ⟨w5, hw5⟩ : ∃ W, W = w4.alloc (.cells #[.int .i64 d.x, .int .i64 d.y] 38) := ⟨_, rfl⟩
  have b1 := alloc_below0 w (.cells #[.int .i64 n, .int .i64 l, v] 29)
  have k1 := blk_new w (.cells #[.int .i64 n, .int .i64 l, v] 29)
  rw [← hw1] at b1 k1 hD
  have b2 := alloc_below0 w1 (doObj d.verb d.sc (.slice d.ra d.rows.length d.rc) (.slice d.ea d.ents.length d.ec) d.x d.y d.last d.nn)
  rw [← hw2] at b2 hD
  have b3 := alloc_below0 w2 (.cells #[.int .i64 0, .int .i64 0, .slice none 0 0] 29)
  have k3 := blk_new w2 (.cells #[.int .i64 0, .int .i64 0, .slice none 0 0] 29)
  rw [← hw3] at b3 k3 hD
  have b4 := alloc_below0 w3 (.cells #[.int .i64 0, .int .i64 0] 38)
  have k4 := blk_new w3 (.cells #[.int .i64 0, .int .i64 0] 38)
  rw [← hw4] at b4 k4 hD
  have b5 := alloc_below0 w4 (.cells #[.int .i64 d.x, .int .i64 d.y] 38)
  have k5 := blk_new w4 (.cells #[.int .i64 d.x, .int .i64 d.y] 38)
  rw [← hw5] at b5 k5
  have z1 : w1.heap.size = w.heap.size + 1 := by rw [hw1]; simp
  have z2 : w2.heap.size = w.heap.size + 1 + 1 := by rw [hw2]; simp [z1]
  have z3 : w3.heap.size = w.heap.size + 1 + 1 + 1 := by rw [hw3]; simp [z2]
  have z4 : w4.heap.size = w.heap.size + 1 + 1 + 1 + 1 := by rw [hw4]; simp [z3]
  have z5 : w5.heap.size = w.heap.size + 1 + 1 + 1 + 1 + 1 := by rw [hw5]; simp [z4]
  rw [← hw1, ← hw2, ← hw3, ← hw4, ← hw5]
  have BB : Below w.heap.size w w5 := (((b1.trans (b2.mono (by omega))).trans (b3.mono (by omega))).trans (b4.mono (by omega))).trans (b5.mono (by omega))
  rw [z2] at k3
  rw [z3] at k4
  rw [z4] at k5
  exact ⟨blk_step (blk_step (blk_step (blk_step k1 b2) b3) b4) b5, hD.step b5, blk_step (blk_step k3 b4) b5, blk_step k4 b5, k5, h.step BB, fun k q => Or.inl (C.foot h.inv k q), by omega, Kept.of_below BB, fun k q => Or.inl q, rfl, h.low.size⟩
end
def addK (r : Rw) : Rw := (r.1 ++ ⟨#[120]⟩, r.2)
/-- fault.Code of what a call told is that call's code -/
theorem code_of (e : Int) (w : World) (hg : Ea.Glob w) : Calls Tryd.prog 22 #[errV e] w fun ev w' => ev = .returned (.int .i64 e) ∧ Below w.heap.size w w' := by
  unfold errV
  by_cases h : e = 0
  · rw [if_pos h, h]; exact Ea.Code_nil w
  · rw [if_neg h]; exact Ea.Code_code e w hg
/-- what does promises -/
def DoesP (C : ArC) (W w0 : World) (a : Addr) (S0 : Nat → Prop) (n l : Nat) (us0 : List PuD) (v0 : Value) (ev : Ending) (w' : World) : Prop :=
  ∃ v' us' S' x1 x2, ev = .returned (.tuple #[refA n l v', refV x1 x2, .bool true]) ∧ Du C W w' a S' n l (us'.map PuD.pt) us' v' ∧ us'.length ≤ us0.length + 1 ∧ Kept S0 w0 w' ∧ (∀ k, S' k → S0 k ∨ w0.heap.size ≤ k) ∧ (v' = v0 ∨ ∀ k, v'.ownBlock = some k → w0.heap.size ≤ k)
theorem NewP.far {w w' : World} {v v' : Value} {us us' : List PuD} {m : Nat} (h : NewP w w' v v' us us') (hm : m ≤ w.heap.size) : v' = v ∨ ∀ k, v'.ownBlock = some k → m ≤ k :=
  h.elim (fun o => .inr fun k hk => Nat.le_trans hm (o.bounds k hk).1) (fun e => .inl e.1)
/-- the results' two blocks, written -/
def endW (w : World) (m : Nat) (n l : Nat) (v : Value) (x1 x2 : Int) : World :=
  ((((w.setCell ⟨m + 1 + 1, 0, none⟩ (.int .i64 n)).setCell ⟨m + 1 + 1, 1, none⟩ (.int .i64 l)).setCell ⟨m + 1 + 1, 2, none⟩ v).setCell ⟨m + 1 + 1 + 1, 0, none⟩ (.int .i64 x1)).setCell ⟨m + 1 + 1 + 1, 1, none⟩ (.int .i64 x2)
theorem does_end {C : ArC} {W w0 w : World} {a : Addr} {S0 S : Nat → Prop} {n l : Nat} {ps : List Pt} {us us0 : List PuD} {v0 v : Value} {d : DoD} {px py x1 x2 : Int} {m : Nat} {act : Act} (h : Fd C W w0 w a S0 S n l ps us v0 v d px py m) (hps : us.map PuD.pt = ps) (hl : us.length ≤ us0.length + 1) (hvn : v = v0 ∨ ∀ k, v.ownBlock = some k → w0.heap.size ≤ k)
    (hp : act.tmps.getD 8 undef = .pointer (some ⟨m + 1 + 1, 0, none⟩)) (hq : act.tmps.getD 9 undef = .pointer (some ⟨m + 1 + 1 + 1, 0, none⟩)) (hb : act.tmps.getD 10 undef = .bool true) (hd : act.defers = []) :
    bodyPost Tryd.prog Tryd.f9 (DoesP C W w0 a S0 n l us0 v0) Exit.ret act (endW w m n l v x1 x2) := by
  have hm := h.wm
  have hW := h.wle
  have hz := h.size
  obtain ⟨-, -, -, -, -, -, s6⟩ := three_facts h.kZ (.int .i64 n) (.int .i64 l) v
  have o3 := blk_off (blk_off (blk_off h.kO (b := m + 1 + 1) (by omega) 0 (.int .i64 n)) (b := m + 1 + 1) (by omega) 1 (.int .i64 l)) (b := m + 1 + 1) (by omega) 2 v
  obtain ⟨-, -, -, -, t4⟩ := two_facts o3 (.int .i64 x1) (.int .i64 x2)
  have s8 := blk_off (blk_off s6 (b := m + 1 + 1 + 1) (by omega) 0 (.int .i64 x1)) (b := m + 1 + 1 + 1) (by omega) 1 (.int .i64 x2)
  have k1 := (((Kept.refl (fun k => k = m + 1 + 1) w).setCell 0 (.int .i64 n)).setCell 1 (.int .i64 l)).setCell 2 v
  have k2 := ((Kept.refl (fun k => k = m + 1 + 1 + 1) (((w.setCell ⟨m + 1 + 1, 0, none⟩ (.int .i64 n)).setCell ⟨m + 1 + 1, 1, none⟩ (.int .i64 l)).setCell ⟨m + 1 + 1, 2, none⟩ v)).setCell 0 (.int .i64 x1)).setCell 1 (.int .i64 x2)
  have kk := Kept.trans2 (U := fun k => k = m + 1 + 1 ∨ k = m + 1 + 1 + 1) k1 k2 (fun x h => .inl h) (fun x h => .inr h)
  refine bodyPost_ret (v := .tuple #[.agg (arCells n l v).toArray, .agg [.int .i64 x1, .int .i64 x2].toArray, .bool true]) (results_cellCT rfl _ _ (m + 1 + 1) (m + 1 + 1 + 1) (arCells n l v) [.int .i64 x1, .int .i64 x2] _ _ (.bool true) hp hq hb (blk_range s8) (blk_range t4) Tryd.underlying29 rfl (by kernel_rfl) Tryd.underlying38 rfl (by kernel_rfl)) hd ?_
  have nb : ∀ k, v.ownBlock = some k → ¬ (k = m + 1 + 1 ∨ k = m + 1 + 1 + 1) := by
    intro k hk q
    obtain ⟨_, h1⟩ := h.du.own
    rcases h1 with ⟨rfl, -⟩ | ⟨g1, c1, u1, rfl, -, h1, -⟩
    · cases hk
    · obtain rfl : g1 = k := Option.some.inj hk
      rcases q with rfl | rfl
      · have e := h.kZ
        rw [h1] at e
        simp only [Option.some.injEq, Obj.cells.injEq] at e
        exact absurd e.2.1 (by decide)
      · have e := h.kO
        unfold XK at e
        rw [h1] at e
        simp only [Option.some.injEq, Obj.cells.injEq] at e
        exact absurd e.2.1 (by decide)
  refine ⟨v, us, S, x1, x2, rfl, ?_, hl, ?_, h.new, hvn⟩
  · rw [hps]
    exact h.du.kept kk (fun k q => by omega) (fun k s q => by have := h.off k s; omega) nb
  · exact ⟨kk.os.trans h.kep.os, kk.tape.trans h.kep.tape, kk.output.trans h.kep.output, Nat.le_trans h.kep.size kk.size, fun k hlt hn => (kk.block k (Nat.lt_of_lt_of_le hlt h.kep.size) (by omega)).trans (h.kep.block k hlt hn)⟩
end Go.Proofs.YtndlpmdgegodpaaDoor
