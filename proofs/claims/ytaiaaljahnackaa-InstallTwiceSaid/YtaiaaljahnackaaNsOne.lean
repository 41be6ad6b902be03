/- One installer of layer 12's laws after another, at one memory. -/
import Derived.Test.YtaiaaljahnackaaMm
import Derived.Test.YtaiaaljahnackaaArAlloc
import Derived.Test.YtaiaaljahnackaaNsTwP
import Derived.Test.YtaiaaljahnackaaNsLst
import Derived.Test.YtaiaaljahnackaaNsHead
namespace Go.Proofs.Ytaiaaljahnackaa
open Go.RowKit

/-- how many of the slots 1 to k are free and not worn -/
def leftTo (l : Nat) (ps : List Pt) (k : Nat) : Nat := cnt k (fun m => !(slotOf ps m).2 && decide ((slotOf ps m).1 < l))
theorem cnt_le (P : Nat → Bool) : ∀ k, cnt k P ≤ k
  | 0 => Nat.le_refl _
  | k + 1 => by have := cnt_le P k; rw [cnt_succ]; split <;> omega
open Go.RowKit

/-- the live refs of the slots 1 to k -/
def liveTo (ps : List Pt) (k : Nat) : List Rf := liveM k ps
theorem liveTo_succ (ps : List Pt) (k : Nat) : liveTo ps (k + 1) = liveTo ps k ++ (if (slotOf ps (k + 1)).2 then [(((k : Int) + 1), ((slotOf ps (k + 1)).1 : Int))] else []) := by
  unfold liveTo liveM
  rw [List.range_succ, List.filter_append, List.map_append]
  congr 1
  rw [List.filter_cons]
  cases (slotOf ps (k + 1)).2 <;> simp
theorem liveTo_len (ps : List Pt) (k : Nat) : (liveTo ps k).length ≤ k := by
  unfold liveTo; rw [liveM_len]; exact cnt_le _ _
set_option maxRecDepth 100000 in
set_option maxHeartbeats 4000000 in
theorem live_any (a : Addr) (S : Nat → Prop) (n l : Nat) (ps : List Pt) (w : World) (h : ArInv w a S n l ps) :
    Calls Try.prog 48 #[.pointer (some a)] w fun ev w' => ∃ v', ev = .returned v' ∧ OwnS lRef w.heap.size w' v' (liveM n ps) ∧ Below w.heap.size w w' := by
  obtain ⟨ab, sb, ss, rfl, I0⟩ := h
  have a0 : w.cell? ⟨ab, 0, none⟩ = some (.slice (some ⟨sb, 0, none⟩) n n) := blk_cell I0.blkA 0
  have hn := okN_of I0.ok
  have I := Lib.hid I0
  clear I0
  go_enter Try.func48, Try.ntmps48
  go_wp2
  go_loopg [3, 13] n (fun r y i wr => ∃ (k : Nat), k + r = n ∧ i = .int .i64 k ∧ OwnS lRef w.heap.size wr y (liveTo ps k) ∧ Below w.heap.size w wr)
  case atStart => exact ⟨0, by omega, rfl, OwnS.nil _ _ _, Below.refl _ _⟩
  case round =>
    obtain ⟨k, hk, rfl, hO, hB⟩ := hrel
    have A := Lib.hid (show Below w.heap.size w wr ∧ k + gk = n from ⟨hB, hk⟩)
    have O := Lib.hid hO
    have I1 := Lib.hid (I.out.low hB)
    clear hB a0 hO
    by_cases hlt : k < n
    · obtain ⟨p, g1, g2, g3⟩ := I1.out.slot hlt
      have X := Lib.hid g3
      have x0 := g3.c0
      have x1 := g3.c1
      have x2 := g3.c2
      have j3 : (0 : Int) ≤ (k : Int) := by omega
      have j4 : (k : Int) < (n : Int) := by omega
      cases hst : (stOf ps (k + 1)).2 with
      | some d =>
        rw [hst] at g2
        obtain ⟨q, rfl, -⟩ := g2
        have T := Lib.hid (show liveTo ps (k + 1) = liveTo ps k ++ [((k : Int) + 1, ((stOf ps (k + 1)).1 : Int))] by rw [liveTo_succ, slot_st, hst]; rfl)
        obtain ⟨g, hgg⟩ : ∃ g, (stOf ps (k + 1)).1 = g := ⟨_, rfl⟩
        rw [hgg] at x1 T
        have ba := alloc_below0 wr (.cells #[.int .i64 ((k : Int) + 1), .int .i64 (g : Int), .pointer (some ⟨q, 0, none⟩)] 107)
        have bb := alloc_below0 (wr.alloc (.cells #[.int .i64 ((k : Int) + 1), .int .i64 (g : Int), .pointer (some ⟨q, 0, none⟩)] 107)) (.cells #[.int .i64 ((k : Int) + 1), .int .i64 (g : Int)] 34)
        have BA := Lib.hid (A.out.1.trans ((ba.trans (bb.mono ba.size)).mono A.out.1.size))
        have O2 := Lib.hid ((O.out.below ba).below bb)
        have SR := Lib.hid (OwnS.lit lRef w.heap.size (wr.alloc (.cells #[.int .i64 ((k : Int) + 1), .int .i64 (g : Int), .pointer (some ⟨q, 0, none⟩)] 107)) (wr.heap.size + 1) (by simp) [((k : Int) + 1, (g : Int))] (by have := A.out.1.size; omega) (by simp [maxLen])).sv
        have LN := Lib.hid (liveTo_len ps k)
        clear hst g1 g3 hgg X ba bb
        go_wp2_with (refine wpList_appS lRef 66 Try.underlying66 lRef_known (by decide) (by decide) rfl (.tmp 20) (.tmp 23) rfl w.heap.size rfl rfl O2.out SR (by have := LN.out; simp; omega) (by have := BA.out.size; exact this) ?_; intro v2 w2 ho2 hg2)
        go_roundg (n - (k + 1))
        case measure => have := A.out.2; omega
        case rel => exact ⟨k + 1, by omega, by go_num, by rw [T.out]; exact ho2, BA.out.trans ((Kept.of_grown hg2).below (fun j hj => (O2.out.bounds j hj.symm).1) BA.out.size)⟩
      | none =>
        rw [hst] at g2
        obtain rfl : p = none := g2
        have T := Lib.hid (show liveTo ps (k + 1) = liveTo ps k by rw [liveTo_succ, slot_st, hst]; simp)
        obtain ⟨g, hgg⟩ : ∃ g, (stOf ps (k + 1)).1 = g := ⟨_, rfl⟩
        rw [hgg] at x1
        have ba := alloc_below0 wr (.cells #[.int .i64 ((k : Int) + 1), .int .i64 (g : Int), .pointer none] 107)
        have BA := Lib.hid (A.out.1.trans (ba.mono A.out.1.size))
        have O2 := Lib.hid (O.out.below ba)
        clear hst g1 g3 hgg X ba
        go_wp2
        go_roundg (n - (k + 1))
        case measure => have := A.out.2; omega
        case rel => exact ⟨k + 1, by omega, by go_num, by rw [T.out]; exact O2.out, BA.out⟩
    · obtain rfl : k = n := by omega
      go_wp2
      go_ret
      exact ⟨_, rfl, O.out, A.out.1⟩

open Go.RowKit

/-- a memory, a counter, and what belongs to them -/
structure One (w0 w : World) (T : Nat → Prop) (cl : Nat) (m : MB) (S : Nat → Prop) (l : LimN) (ps : List Pt) (L : List Pg) (c : Ck) : Prop where
  mem : ∃ k, MemAt w m S l k ps L c
  base : AgB w0 w T cl m S
section
variable {w0 w w' : World} {T : Nat → Prop} {cl : Nat} {m : MB} {S : Nat → Prop} {l : LimN} {ps : List Pt} {L : List Pg} {c : Ck}
theorem One.low (h : One w0 w T cl m S l ps L c) (hb : Below w.heap.size w w') : One w0 w' T cl m S l ps L c := by
  obtain ⟨k, hM⟩ := h.mem
  have hv : Beside w w' T T (fun _ => False) cl m S := ⟨Kept.of_below hb, fun _ q => q.elim, fun _ q => q.elim, id, fun _ q => q, fun _ q => .inl q, fun x q => Nat.lt_of_lt_of_le (h.base.tin x q).2 hb.size⟩
  exact ⟨⟨k, hM.low hb⟩, h.base.move hv⟩
theorem One.access (h : One w0 w T cl m S l ps L c) {k : Int} (hM : MemAt w' m S l k ps L c) (hk : Kept (MS m S) w w') : One w0 w' T cl m S l ps L c :=
  ⟨⟨k, hM⟩, h.base.below.trans (hk.below (n := w0.heap.size) (fun x q => (h.base.tin x (h.base.tm x q)).1) h.base.below.size), h.base.ctr.kept hk h.base.nc, fun x q => ⟨(h.base.tin x q).1, Nat.lt_of_lt_of_le (h.base.tin x q).2 hk.size⟩, h.base.tm, h.base.tc, h.base.nc⟩
/-- a block of what was not there, or of what is not theirs -/
theorem One.not (h : One w0 w T cl m S l ps L c) {b : Nat} (hb : w.heap.size ≤ b) : ¬ T b := fun q => by have := (h.base.tin b q).2; omega
end
/-- behind Begin, for a job of the laws' at page 0's first head -/
def BegP (w : World) (d : JbD) (ds : List RecD) (hd : RecD) (jb cb cl : Nat) (ev : Ending) (w' : World) : Prop := ∃ (b : Nat) (i : Ins), ev = .returned (.pointer (some ⟨b, 0, none⟩)) ∧ w.heap.size ≤ b ∧ b < w'.heap.size ∧ Below w.heap.size w w' ∧ InvF i ∧ i.dn = false ∧ (i.pt = 0 ∧ i.tk = 0 ∧ i.sw = 0 ∧ (i.st = 0 ∨ ((i.news : Int) = d.news ∧ (i.st = 1 ∨ i.st = 2)))) ∧ ∀ T : Nat → Prop, ¬ T jb → ¬ T cb → AgI w' T b i d ds hd jb cb cl
theorem begin_one (d : JbD) (ds : List RecD) (hd : RecD) (jb cb cl : Nat) (w : World) (hj : w.heap[jb]? = some (.cells d.cells.toArray 46 (0, 0))) (hc : w.heap[cb]? = some (.cells #[.pointer (some ⟨cl, 0, none⟩)] 53 (0, 0))) :
    Calls Try.prog 10 #[jobV 0 1 1 d.news (.func (.func 35) #[] #[.pointer (some ⟨cb, 0, none⟩), .pointer (some ⟨jb, 0, none⟩)])] w (BegP w d ds hd jb cb cl) := by
  by_cases h : 0 ≤ d.news ∧ d.news ≤ 4
  · obtain ⟨n, hn⟩ : ∃ n : Nat, d.news = (n : Int) := ⟨d.news.toNat, by omega⟩
    have h4 : n ≤ 4 := by omega
    have hb : (settleI (beginI 0 1 1 n (.func (.func 35) #[] #[.pointer (some ⟨cb, 0, none⟩), .pointer (some ⟨jb, 0, none⟩)]))).pt = 0 ∧ (settleI (beginI 0 1 1 n (.func (.func 35) #[] #[.pointer (some ⟨cb, 0, none⟩), .pointer (some ⟨jb, 0, none⟩)]))).tk = 0 ∧ (settleI (beginI 0 1 1 n (.func (.func 35) #[] #[.pointer (some ⟨cb, 0, none⟩), .pointer (some ⟨jb, 0, none⟩)]))).sw = 0 ∧ ((settleI (beginI 0 1 1 n (.func (.func 35) #[] #[.pointer (some ⟨cb, 0, none⟩), .pointer (some ⟨jb, 0, none⟩)]))).st = 0 ∨ (((settleI (beginI 0 1 1 n (.func (.func 35) #[] #[.pointer (some ⟨cb, 0, none⟩), .pointer (some ⟨jb, 0, none⟩)]))).news : Int) = d.news ∧ ((settleI (beginI 0 1 1 n (.func (.func 35) #[] #[.pointer (some ⟨cb, 0, none⟩), .pointer (some ⟨jb, 0, none⟩)]))).st = 1 ∨ (settleI (beginI 0 1 1 n (.func (.func 35) #[] #[.pointer (some ⟨cb, 0, none⟩), .pointer (some ⟨jb, 0, none⟩)]))).st = 2))) := by
      rw [hn]
      by_cases hz : n = 0
      · subst hz
        rw [settle_begin0]
        exact ⟨rfl, rfl, rfl, .inr ⟨rfl, .inr rfl⟩⟩
      · rw [settle_beginN _ _ _ n (by omega)]
        exact ⟨rfl, rfl, rfl, .inr ⟨rfl, .inl rfl⟩⟩
    obtain ⟨-, hF, hd0⟩ := begun_shape 0 1 1 n h4 (.func 35) #[] #[.pointer (some ⟨cb, 0, none⟩), .pointer (some ⟨jb, 0, none⟩)]
    have fb := begin_y 0 1 1 n (.func 35) #[] #[.pointer (some ⟨cb, 0, none⟩), .pointer (some ⟨jb, 0, none⟩)] h4 w
    rw [← hn] at fb
    refine fb.mono ?_
    rintro ev w' ⟨b, rfl, hI, hbb, hs⟩
    exact ⟨b, _, rfl, hbb, (Array.getElem?_eq_some_iff.1 hI.blk).1, hs, hF, hd0, hb, fun T nj nc => AgI.begun h4 hI (blk_step hj hs) (blk_step hc hs) nj nc⟩
  · refine (begin_o 0 1 1 d.news _ _ _ (by omega) w).mono ?_
    rintro ev w' ⟨b, rfl, hI, hb, hs⟩
    exact ⟨b, _, rfl, hb, (Array.getElem?_eq_some_iff.1 hI.blk).1, hs, InvF.wrong, rfl, ⟨rfl, rfl, rfl, .inl rfl⟩, fun T _ _ => AgI.wrong hI⟩
section
variable {w0 w w' : World} {T : Nat → Prop} {cl : Nat} {m : MB} {S : Nat → Prop} {l : LimN} {ps : List Pt} {L : List Pg} {c : Ck}
/-- an installer that began is ready to go -/
theorem One.ready (h : One w0 w T cl m S l ps L c) {d : JbD} {bs : List RcL} {ds : List RecD} {hd : RecD} {jb cb b : Nat} {i : Ins} (hJ : JobR w0 d bs ds hd) (hs : Below w.heap.size w w') (h1 : w.heap.size ≤ b) (h2 : b < w'.heap.size) (nj : jb < b ∧ ¬ T jb) (nc : cb < b ∧ ¬ T cb) (hA : ∀ T : Nat → Prop, ¬ T jb → ¬ T cb → AgI w' T b i d ds hd jb cb cl) :
    One w0 w' (fun x => T x ∨ x = b) cl m S l ps L c ∧ AgI w' (fun x => T x ∨ x = b) b i d ds hd jb cb cl ∧ AgW w0 w' (fun x => T x ∨ x = b) b d bs ds hd cl m S := by
  obtain ⟨k, hM⟩ := h.mem
  have hB := h.base.join hs h1 h2
  exact ⟨⟨⟨k, hM.low hs⟩, hB⟩, hA _ (fun q => q.elim nj.2 (fun e => by omega)) (fun q => q.elim nc.2 (fun e => by omega)), hB.around hJ (.inr rfl) (fun q => by have := hM.lt _ q; omega) (fun e => by have := (h.base.tin cl h.base.tc).2; omega)⟩
/-- behind its run -/
theorem One.after {d : JbD} {bs : List RcL} {ds : List RecD} {hd : RecD} {jb cb b : Nat} {i i' : Ins} (h : RunAt w0 w T b i d bs ds hd jb cb cl m S l ps L c i' w') (hm : ∀ x, MS m S x → T x) (hb : T b) (hc : T cl) :
    ∃ S' ps' L', One w0 w' (fun x => T x ∨ MS m S' x) cl m S' l ps' L' c ∧ Run l d ds hd i ps L i' ps' L' ∧ InsAt w' b i' ∧ Kept T w w' ∧ (∀ x, MS m S' x → T x ∨ w.heap.size ≤ x) := by
  obtain ⟨S', k', ps', L', hR, hM, hA, hW, hk, hS⟩ := h
  exact ⟨S', ps', L', ⟨⟨k', hM⟩, hW.base⟩, hR, hA.lies, hk.wide (fun x _ q => q.elim (fun q => q.elim (hm x) (fun e => e ▸ hb)) (fun e => e ▸ hc)), fun x q => (hS x q).imp (hm x) id⟩
end
/-- a store into one and the same block, at two worlds alike below -/
theorem below_both {n : Nat} {w w' : World} (h : Below n w w') (a : Addr) (u : Value) : Below n (w.setCell a u) (w'.setCell a u) :=
  ⟨h.os, h.tape, h.output, by have := h.size; simp [World.setCell]; exact this, fun k hk => by
    simp only [World.setCell]
    rw [Array.getElem?_modify, Array.getElem?_modify]
    by_cases e : a.block = k
    · rw [if_pos e, if_pos e, h.block k hk]
    · rw [if_neg e, if_neg e, h.block k hk]⟩
theorem size_setCell (w : World) (a : Addr) (u : Value) : (w.setCell a u).heap.size = w.heap.size := by simp [World.setCell]
set_option maxRecDepth 100000 in
set_option maxHeartbeats 4000000 in
theorem mLive_any (w : World) (m : MB) (S : Nat → Prop) (l : LimN) (k : Int) (ps : List Pt) (L : List Pg) (c : Ck) (h : MemAt w m S l k ps L c) :
    Calls Try.prog 19 #[.pointer (some ⟨m.mb, 0, none⟩)] w fun ev w' => ∃ v, ev = .returned v ∧ OwnS lRef w.heap.size w' v (liveM l.s ps) ∧ Below w.heap.size w w' := by
  have M0 := Lib.hid h
  have x0 := M0.out.cA
  clear h
  go_enter Try.func19, Try.ntmps19
  go_wp2_with fail
  refine (live_any m.aa S l.s l.c ps _ M0.out.ar).mono ?_
  rintro ev w1 ⟨v, rfl, ho, hs⟩
  have O1 := Lib.hid ho
  have B1 := Lib.hid hs
  clear ho hs
  go_wp2
  go_ret
  exact ⟨_, rfl, O1.out, B1.out⟩
set_option maxRecDepth 100000 in
set_option maxHeartbeats 4000000 in
theorem mPages_any (w : World) (m : MB) (S : Nat → Prop) (l : LimN) (k : Int) (ps : List Pt) (L : List Pg) (c : Ck) (h : MemAt w m S l k ps L c) :
    Calls Try.prog 20 #[.pointer (some ⟨m.mb, 0, none⟩)] w fun ev w' => ∃ v, ev = .returned v ∧ OwnS lInt w.heap.size w' v (usedT L) ∧ Below w.heap.size w w' := by
  have M0 := Lib.hid h
  have x0 := M0.out.cT
  clear h
  go_enter Try.func20, Try.ntmps20
  go_wp2_with fail
  refine (pages_any _ m.ab m.pb l.p L M0.out.tb).mono ?_
  rintro ev w1 ⟨v, rfl, ho, hs⟩
  have O1 := Lib.hid ho
  have B1 := Lib.hid hs
  clear ho hs
  go_wp2
  go_ret
  exact ⟨_, rfl, O1.out, B1.out⟩
end Go.Proofs.Ytaiaaljahnackaa
