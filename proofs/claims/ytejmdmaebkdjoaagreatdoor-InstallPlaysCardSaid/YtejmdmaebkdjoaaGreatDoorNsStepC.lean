/- Package install's Step, by contract: making. -/
import Derived.Test.YtejmdmaebkdjoaaGreatDoorNsStepA
namespace Go.Proofs.YtejmdmaebkdjoaaGreatDoor
set_option linter.unusedVariables false
set_option linter.unusedSimpArgs false
set_option maxRecDepth 100000
set_option maxHeartbeats 4000000
open Go.RowKit
variable {A B : Array Value → Prop}
def madeI (i : Ins) (rc : Nat → Nat → Value) : Ins := { i with fn := .nilFunc, rc := rc, st := if i.news = 0 then 5 else 3 }
def keptI (i : Ins) (rc : Nat → Nat → Value) : Ins := { i with fn := .nilFunc, rc := rc }
theorem settle_made (i : Ins) (rc : Nat → Nat → Value) (hs : i.st = 2) (hp : i.pt = 0) (hw : i.sw = 0) : settleI (keptI i rc) = madeI i rc := by
 have e0 : settleI (keptI i rc) = settleGo 7 (keptI i rc) := by show settleGo (9 - i.st) _ = _; rw [hs]
 have b0 : (keptI i rc).busyB = false := by unfold Ins.busyB keptI; simp only [hs]; rfl
 have s0 : ¬ (keptI i rc).st = 8 := by show ¬ i.st = 8; omega
 rw [e0, settleGo, if_neg (by rw [b0]; decide), if_neg s0]
 have e1 : ({ keptI i rc with st := (keptI i rc).st + 1 } : Ins) = { keptI i rc with st := 3 } := by show ({ keptI i rc with st := i.st + 1 } : Ins) = _; rw [hs]
 rw [e1]
 by_cases hn : i.news = 0
 ·have b1 : ({ keptI i rc with st := 3 } : Ins).busyB = false := by unfold Ins.busyB keptI; simp only [hp, hn]; rfl
  rw [settleGo, if_neg (by rw [b1]; decide), if_neg (by show ¬ 3 = 8; decide)]
  have b2 : ({ keptI i rc with st := 3 + 1 } : Ins).busyB = false := by unfold Ins.busyB keptI; simp only [hw, hn]; rfl
  show settleGo 5 ({ keptI i rc with st := 3 + 1 } : Ins) = _
  rw [settleGo, if_neg (by rw [b2]; decide), if_neg (by show ¬ 4 = 8; decide)]
  have b3 : ({ keptI i rc with st := 3 + 1 + 1 } : Ins).busyB = true := by unfold Ins.busyB keptI; simp only [hp, hn]; rfl
  show settleGo 4 ({ keptI i rc with st := 3 + 1 + 1 } : Ins) = _
  rw [settleGo, if_pos b3]
  unfold madeI keptI
  rw [if_pos hn]
 ·have b1 : ({ keptI i rc with st := 3 } : Ins).busyB = true := by unfold Ins.busyB keptI; simp only [hp]; exact decide_eq_true (by omega)
  rw [settleGo, if_pos b1]
  unfold madeI keptI
  rw [if_neg hn]
def StepM (A B : Array Value → Prop) (w : World) (b : Nat) (i : Ins) (m : MB) (S : Nat → Prop) (l : LimN) (k : Int) (ps : List Pt) (L : List Pg) (c : Ck) (C Z T : Nat → Prop) (ds : List RecD) (hd : RecD) (ev : Ending) (w' : World) : Prop :=
 ∃ S' rc' j, ev = .returned (.bool (((settleI j).st : Int) == 0)) ∧ InsAt w' b (settleI j) ∧ MemAt w' m S' l (inc k) (putM l.s l.c ps (recsM ds hd i.news 0)) L c ∧ Kept (fun x => US m S b x ∨ C x) w w' ∧ (∀ x, MS m S' x → MS m S x ∨ w.heap.size ≤ x) ∧
  (∀ q, q ≤ i.news → RecL w' (fun x => T x ∨ MS m S' x) (rcLf rc' q) (recsM ds hd i.news q)) ∧ (∀ x, Z x → BlkAt A w x → BlkAt B w' x) ∧
  (((allocM l.s l.c ps).2.2 = 0 ∧ j = fillI (madeI i rc') (((allocM l.s l.c ps).1 : Int), ((allocM l.s l.c ps).2.1 : Int))) ∨ ((allocM l.s l.c ps).2.2 ≠ 0 ∧ ∃ v, ErrF w' v (allocM l.s l.c ps).2.2 ∧ j = undoI (madeI i rc') v))
theorem iStep2a (F : FuncId) (hF : ∀ args w, (callFunc F args).run Tryz.prog w = .ok (.enter F args) w) (caps : Array Value) (w : World) (b : Nat) (i : Ins) (m : MB) (S : Nat → Prop) (l : LimN) (k : Int) (ps : List Pt) (L : List Pg) (c : Ck) (hi : InsAt w b i) (h : MemAt w m S l k ps L c) (hb : ¬ MS m S b) (hf : FnOk i.fn) (he : ErV i.er) (C Z T : Nat → Prop) (hZb : ¬ Z b) (hZm : ∀ x, MS m S x → ¬ Z x) (ds : List RecD) (hd : RecD) (hs : i.st = 2) (hfn : i.fn = .func (.func F) #[] caps) (hz : i.rc = fun _ => rcZ) (hn : i.news ≤ 4) (ht4 : i.tk ≤ 4) (hp : i.pt = 0) (hsw : i.sw = 0) (hnn : i.news = 0)
  (hT : ∀ k, T k → k < w.heap.size) (hTb : T b) (hTm : ∀ k, MS m S k → T k) (hTc : ∀ k, C k → T k) (hCb : ¬ C b) (hCm : ∀ k, MS m S k → ¬ C k)
  (hmk : ∀ w1 pv, Kept (fun k => k = b) w w1 → OwnS lInt w.heap.size w1 pv i.pgsL → Calls Tryz.prog F (#[pv] ++ caps) w1 (MadeP A B w1 (fun k => C k ∨ pv.ownBlock = some k) Z ds hd)) :
  Calls Tryz.prog 11 #[.pointer (some ⟨b, 0, none⟩), .pointer (some ⟨m.mb, 0, none⟩)] w (StepM A B w b i m S l k ps L c C Z T ds hd) := by
 have PR := Lib.hid (iPrep_any F hF caps w b i C Z T hZb ds hd hi hs hfn hz hn ht4 hT hTb (fun k hk => hT k (hTc k hk)) hCb hmk)
 have SM := Lib.hid (fun rc => settle_made i rc hs hp hsw)
 have HN := Lib.hid (show i.news ≤ 4 ∧ i.pt = 0 ∧ i.sw = 0 ∧ (i.news = 0) from ⟨hn, hp, hsw, hnn⟩)
 have TT := Lib.hid (show (∀ k, T k → k < w.heap.size) ∧ T b ∧ (∀ k, MS m S k → T k) ∧ (∀ k, C k → T k) ∧ (∀ k, MS m S k → ¬ C k) from ⟨hT, hTb, hTm, hTc, hCm⟩)
 have HZ := Lib.hid (show ¬ Z b ∧ ∀ x, MS m S x → ¬ Z x from ⟨hZb, hZm⟩)
 clear hZb hZm
 have H5 := Lib.hid (show (madeI i i.rc).pt < 5 by show i.pt < 5; omega)
 clear hfn hz hn ht4 hp hsw hnn hT hTb hTm hTc hCb hCm hmk hF
 have I0 := Lib.hid hi
 have M0 := Lib.hid h
 have HB := Lib.hid hb
 have FE := Lib.hid (show FnOk i.fn ∧ ErV i.er from ⟨hf, he⟩)
 have x5 := hi.cSt
 have hov : ((i.st : Int) == 0) = false := by rw [hs]; rfl
 have ho := fun w' h => nOver_any w' b i h
 rw [hov] at ho
 have HS := Lib.hid hs
 rw [hs] at x5
 clear hi h hb hf he hs hov
 go_enter Tryz.func11, Tryz.ntmps11
 go_wp2_with fail
 refine (ho _ I0.out).mono ?_
 rintro ev w1 ⟨rfl, rfl⟩
 go_wp2_with fail
 refine PR.out.mono ?_
 rintro ev w2 ⟨rfl, hk, hz2, rc', hI, hR⟩
 have Z2 := Lib.hid hz2
 clear hz2
 have I2 := Lib.hid (show InsAt w2 b (keptI i rc') from hI)
 have K2 := Lib.hid (show Kept (fun x => US m S b x ∨ C x) w w2 from hk.wide fun x _ h => h.elim .inr (fun e => .inl (.inr e)))
 have M2 := Lib.hid (M0.out.keep hk (fun x hx h => h.elim (TT.out.2.2.2.2 x hx) (fun e => HB.out (e ▸ hx))))
 have R2 := Lib.hid hR
 clear hk hI hR x5 PR
 go_wp2_with fail
 refine (settle_any _ b _ I2.out (show i.st ≤ 8 by have := HS.out; omega) (.inl rfl) FE.out.2).mono ?_
 rintro ev w3 ⟨rfl, hI, hk⟩
 have MF := Lib.hid (M2.out.off1 hk HB.out)
 have I3 := Lib.hid (show InsAt w3 b (madeI i rc') by rw [← SM.out rc']; exact hI)
 have K3 := Lib.hid (K2.out.trans (hk.wide fun x _ e => (show US m S b x ∨ C x from .inl (.inr e))))
 have Z3 := Lib.hid (show ∀ x, Z x → BlkAt A w x → BlkAt B w3 x from fun x q1 q2 => (Z2.out x q1 q2).kept hk (fun e => HZ.out.1 (e ▸ q1)))
 have R3 := Lib.hid (show ∀ q, q ≤ i.news → RecL w3 T (rcLf rc' q) (recsM ds hd i.news q) from fun q hq => (R2.out q hq).grow hk (fun x e => e ▸ TT.out.2.1) (fun _ h => .inl h))
 have x5 : w3.cell? ⟨b, 5, none⟩ = some (.int .i64 5) := by
  have := I3.out.cSt
  rw [show (madeI i rc').st = 5 from if_pos HN.out.2.2.2] at this
  exact this
 have FK := Lib.hid (show (fillI (madeI i rc') (((allocM l.s l.c ps).1 : Int), ((allocM l.s l.c ps).2.1 : Int))).st ≤ 8 ∧ FnOk (fillI (madeI i rc') (((allocM l.s l.c ps).1 : Int), ((allocM l.s l.c ps).2.1 : Int))).fn ∧ ErV (fillI (madeI i rc') (((allocM l.s l.c ps).1 : Int), ((allocM l.s l.c ps).2.1 : Int))).er from ⟨(by show (if i.news = 0 then 5 else 3) ≤ 8; split <;> omega), .inl rfl, FE.out.2⟩)
 have LF := Lib.hid K3.out.size
 have H5' := Lib.hid (show (madeI i rc').pt < 5 from H5.out)
 have HR := Lib.hid (show RecIn w3 (MS m S) ((madeI i rc').rcL (madeI i rc').pt) (recsM ds hd i.news 0) by
  have e : (madeI i rc').pt = 0 := HN.out.2.1
  rw [e]
  exact (R3.out 0 (Nat.zero_le _)).inn TT.out.2.2.1)
 clear hI hk
 go_wp2_with fail
 refine (iFill_any _ b (madeI i rc') m S l k ps L c (recsM ds hd i.news 0) I3.out MF.out HB.out H5'.out HR.out).mono ?_
 rintro ev w4 ⟨rfl, S', hM, hk, hS, hcase⟩
 have M4 := Lib.hid hM
 have K4 := Lib.hid (K3.out.trans (hk.wide fun x _ h => (show US m S b x ∨ C x from .inl h)))
 have Z4 := Lib.hid (show ∀ x, Z x → BlkAt A w x → BlkAt B w4 x from fun x q1 q2 => (Z3.out x q1 q2).kept hk (fun h => h.elim (fun h => HZ.out.2 x h q1) (fun e => HZ.out.1 (e ▸ q1))))
 have HBZ := Lib.hid (show ¬ MS m S' b from fun hm => (hS b hm).elim HB.out (fun h => by have := I3.out.lt; omega))
 have FSq := Lib.hid (show ∀ x, MS m S' x → MS m S x ∨ w.heap.size ≤ x from fun x hx => (hS x hx).imp id (fun h => by have := LF.out; omega))
 have R4 := Lib.hid (show ∀ q, q ≤ i.news → RecL w4 (fun x => T x ∨ MS m S' x) (rcLf rc' q) (recsM ds hd i.news q) from fun q hq => (R3.out q hq).grow hk (fun x h => h.elim (TT.out.2.2.1 x) (fun e => e ▸ TT.out.2.1)) (fun x h => h.elim .inl (fun h => (hS x h).imp (TT.out.2.2.1 x) id)))
 clear hM hk hS x5
 rcases hcase with ⟨h0, hI⟩ | ⟨h0, v, hE, hI⟩
 ·have I4 := Lib.hid hI
  have HC := Lib.hid h0
  clear hI h0
  have JK := Lib.hid (show (fillI (madeI i rc') (((allocM l.s l.c ps).1 : Int), ((allocM l.s l.c ps).2.1 : Int))).st ≤ 8 ∧ FnOk (fillI (madeI i rc') (((allocM l.s l.c ps).1 : Int), ((allocM l.s l.c ps).2.1 : Int))).fn ∧ ErV (fillI (madeI i rc') (((allocM l.s l.c ps).1 : Int), ((allocM l.s l.c ps).2.1 : Int))).er from FK.out)
  go_wp2_with fail
  refine (settle_any _ b _ I4.out JK.out.1 JK.out.2.1 JK.out.2.2).mono ?_
  rintro ev wz ⟨rfl, hI, hk⟩
  have IZ := Lib.hid hI
  have MZ := Lib.hid (M4.out.off1 hk HBZ.out)
  have KZ := Lib.hid (K4.out.trans (hk.wide fun x _ e => (show US m S b x ∨ C x from .inl (.inr e))))
  have KO := Lib.hid hk
  clear hI hk
  go_wp2_with fail
  refine (nOver_any _ b _ IZ.out).mono ?_
  rintro ev wy ⟨rfl, rfl⟩
  have RZ := Lib.hid (show ∀ q, q ≤ i.news → RecL _ (fun x => T x ∨ MS m S' x) (rcLf rc' q) (recsM ds hd i.news q) from fun q hq => (R4.out q hq).grow KO.out (fun x e => .inl (e ▸ TT.out.2.1)) (fun _ h => .inl h))
  go_wp2
  go_ret
  exact ⟨S', rc', _, rfl, IZ.out, MZ.out, KZ.out, FSq.out, RZ.out, (fun x q1 q2 => (Z4.out x q1 q2).kept KO.out (fun e => HZ.out.1 (e ▸ q1))), .inl ⟨HC.out, rfl⟩⟩
 ·have I4 := Lib.hid hI
  have HC := Lib.hid h0
  have E4 := Lib.hid hE
  clear hI h0 hE
  have JK := Lib.hid (undo_ok (madeI i rc') v E4.out.erv)
  go_wp2_with fail
  refine (settle_any _ b _ I4.out JK.out.1 JK.out.2.1 JK.out.2.2).mono ?_
  rintro ev wz ⟨rfl, hI, hk⟩
  have IZ := Lib.hid hI
  have MZ := Lib.hid (M4.out.off1 hk HBZ.out)
  have KZ := Lib.hid (K4.out.trans (hk.wide fun x _ e => (show US m S b x ∨ C x from .inl (.inr e))))
  have KO := Lib.hid hk
  clear hI hk
  go_wp2_with fail
  refine (nOver_any _ b _ IZ.out).mono ?_
  rintro ev wy ⟨rfl, rfl⟩
  have EZ := Lib.hid (E4.out.kept KO.out I4.out.fault)
  have RZ := Lib.hid (show ∀ q, q ≤ i.news → RecL _ (fun x => T x ∨ MS m S' x) (rcLf rc' q) (recsM ds hd i.news q) from fun q hq => (R4.out q hq).grow KO.out (fun x e => .inl (e ▸ TT.out.2.1)) (fun _ h => .inl h))
  go_wp2
  go_ret
  exact ⟨S', rc', _, rfl, IZ.out, MZ.out, KZ.out, FSq.out, RZ.out, (fun x q1 q2 => (Z4.out x q1 q2).kept KO.out (fun e => HZ.out.1 (e ▸ q1))), .inr ⟨HC.out, v, EZ.out, rfl⟩⟩
theorem iStep2b (F : FuncId) (hF : ∀ args w, (callFunc F args).run Tryz.prog w = .ok (.enter F args) w) (caps : Array Value) (w : World) (b : Nat) (i : Ins) (m : MB) (S : Nat → Prop) (l : LimN) (k : Int) (ps : List Pt) (L : List Pg) (c : Ck) (hi : InsAt w b i) (h : MemAt w m S l k ps L c) (hb : ¬ MS m S b) (hf : FnOk i.fn) (he : ErV i.er) (C Z T : Nat → Prop) (hZb : ¬ Z b) (hZm : ∀ x, MS m S x → ¬ Z x) (ds : List RecD) (hd : RecD) (hs : i.st = 2) (hfn : i.fn = .func (.func F) #[] caps) (hz : i.rc = fun _ => rcZ) (hn : i.news ≤ 4) (ht4 : i.tk ≤ 4) (hp : i.pt = 0) (hsw : i.sw = 0) (hnn : 0 < i.news)
  (hT : ∀ k, T k → k < w.heap.size) (hTb : T b) (hTm : ∀ k, MS m S k → T k) (hTc : ∀ k, C k → T k) (hCb : ¬ C b) (hCm : ∀ k, MS m S k → ¬ C k)
  (hmk : ∀ w1 pv, Kept (fun k => k = b) w w1 → OwnS lInt w.heap.size w1 pv i.pgsL → Calls Tryz.prog F (#[pv] ++ caps) w1 (MadeP A B w1 (fun k => C k ∨ pv.ownBlock = some k) Z ds hd)) :
  Calls Tryz.prog 11 #[.pointer (some ⟨b, 0, none⟩), .pointer (some ⟨m.mb, 0, none⟩)] w (StepM A B w b i m S l k ps L c C Z T ds hd) := by
 have PR := Lib.hid (iPrep_any F hF caps w b i C Z T hZb ds hd hi hs hfn hz hn ht4 hT hTb (fun k hk => hT k (hTc k hk)) hCb hmk)
 have SM := Lib.hid (fun rc => settle_made i rc hs hp hsw)
 have HN := Lib.hid (show i.news ≤ 4 ∧ i.pt = 0 ∧ i.sw = 0 ∧ (0 < i.news) from ⟨hn, hp, hsw, hnn⟩)
 have TT := Lib.hid (show (∀ k, T k → k < w.heap.size) ∧ T b ∧ (∀ k, MS m S k → T k) ∧ (∀ k, C k → T k) ∧ (∀ k, MS m S k → ¬ C k) from ⟨hT, hTb, hTm, hTc, hCm⟩)
 have HZ := Lib.hid (show ¬ Z b ∧ ∀ x, MS m S x → ¬ Z x from ⟨hZb, hZm⟩)
 clear hZb hZm
 have H5 := Lib.hid (show (madeI i i.rc).pt < 5 by show i.pt < 5; omega)
 clear hfn hz hn ht4 hp hsw hnn hT hTb hTm hTc hCb hCm hmk hF
 have I0 := Lib.hid hi
 have M0 := Lib.hid h
 have HB := Lib.hid hb
 have FE := Lib.hid (show FnOk i.fn ∧ ErV i.er from ⟨hf, he⟩)
 have x5 := hi.cSt
 have hov : ((i.st : Int) == 0) = false := by rw [hs]; rfl
 have ho := fun w' h => nOver_any w' b i h
 rw [hov] at ho
 have HS := Lib.hid hs
 rw [hs] at x5
 clear hi h hb hf he hs hov
 go_enter Tryz.func11, Tryz.ntmps11
 go_wp2_with fail
 refine (ho _ I0.out).mono ?_
 rintro ev w1 ⟨rfl, rfl⟩
 go_wp2_with fail
 refine PR.out.mono ?_
 rintro ev w2 ⟨rfl, hk, hz2, rc', hI, hR⟩
 have Z2 := Lib.hid hz2
 clear hz2
 have I2 := Lib.hid (show InsAt w2 b (keptI i rc') from hI)
 have K2 := Lib.hid (show Kept (fun x => US m S b x ∨ C x) w w2 from hk.wide fun x _ h => h.elim .inr (fun e => .inl (.inr e)))
 have M2 := Lib.hid (M0.out.keep hk (fun x hx h => h.elim (TT.out.2.2.2.2 x hx) (fun e => HB.out (e ▸ hx))))
 have R2 := Lib.hid hR
 clear hk hI hR x5 PR
 go_wp2_with fail
 refine (settle_any _ b _ I2.out (show i.st ≤ 8 by have := HS.out; omega) (.inl rfl) FE.out.2).mono ?_
 rintro ev w3 ⟨rfl, hI, hk⟩
 have MF := Lib.hid (M2.out.off1 hk HB.out)
 have I3 := Lib.hid (show InsAt w3 b (madeI i rc') by rw [← SM.out rc']; exact hI)
 have K3 := Lib.hid (K2.out.trans (hk.wide fun x _ e => (show US m S b x ∨ C x from .inl (.inr e))))
 have Z3 := Lib.hid (show ∀ x, Z x → BlkAt A w x → BlkAt B w3 x from fun x q1 q2 => (Z2.out x q1 q2).kept hk (fun e => HZ.out.1 (e ▸ q1)))
 have R3 := Lib.hid (show ∀ q, q ≤ i.news → RecL w3 T (rcLf rc' q) (recsM ds hd i.news q) from fun q hq => (R2.out q hq).grow hk (fun x e => e ▸ TT.out.2.1) (fun _ h => .inl h))
 have x5 : w3.cell? ⟨b, 5, none⟩ = some (.int .i64 3) := by
  have := I3.out.cSt
  rw [show (madeI i rc').st = 3 from if_neg (by have := HN.out.2.2.2; omega)] at this
  exact this
 have FK := Lib.hid (show (fillI (madeI i rc') (((allocM l.s l.c ps).1 : Int), ((allocM l.s l.c ps).2.1 : Int))).st ≤ 8 ∧ FnOk (fillI (madeI i rc') (((allocM l.s l.c ps).1 : Int), ((allocM l.s l.c ps).2.1 : Int))).fn ∧ ErV (fillI (madeI i rc') (((allocM l.s l.c ps).1 : Int), ((allocM l.s l.c ps).2.1 : Int))).er from ⟨(by show (if i.news = 0 then 5 else 3) ≤ 8; split <;> omega), .inl rfl, FE.out.2⟩)
 have LF := Lib.hid K3.out.size
 have H5' := Lib.hid (show (madeI i rc').pt < 5 from H5.out)
 have HR := Lib.hid (show RecIn w3 (MS m S) ((madeI i rc').rcL (madeI i rc').pt) (recsM ds hd i.news 0) by
  have e : (madeI i rc').pt = 0 := HN.out.2.1
  rw [e]
  exact (R3.out 0 (Nat.zero_le _)).inn TT.out.2.2.1)
 clear hI hk
 go_wp2_with fail
 refine (iFill_any _ b (madeI i rc') m S l k ps L c (recsM ds hd i.news 0) I3.out MF.out HB.out H5'.out HR.out).mono ?_
 rintro ev w4 ⟨rfl, S', hM, hk, hS, hcase⟩
 have M4 := Lib.hid hM
 have K4 := Lib.hid (K3.out.trans (hk.wide fun x _ h => (show US m S b x ∨ C x from .inl h)))
 have Z4 := Lib.hid (show ∀ x, Z x → BlkAt A w x → BlkAt B w4 x from fun x q1 q2 => (Z3.out x q1 q2).kept hk (fun h => h.elim (fun h => HZ.out.2 x h q1) (fun e => HZ.out.1 (e ▸ q1))))
 have HBZ := Lib.hid (show ¬ MS m S' b from fun hm => (hS b hm).elim HB.out (fun h => by have := I3.out.lt; omega))
 have FSq := Lib.hid (show ∀ x, MS m S' x → MS m S x ∨ w.heap.size ≤ x from fun x hx => (hS x hx).imp id (fun h => by have := LF.out; omega))
 have R4 := Lib.hid (show ∀ q, q ≤ i.news → RecL w4 (fun x => T x ∨ MS m S' x) (rcLf rc' q) (recsM ds hd i.news q) from fun q hq => (R3.out q hq).grow hk (fun x h => h.elim (TT.out.2.2.1 x) (fun e => e ▸ TT.out.2.1)) (fun x h => h.elim .inl (fun h => (hS x h).imp (TT.out.2.2.1 x) id)))
 clear hM hk hS x5
 rcases hcase with ⟨h0, hI⟩ | ⟨h0, v, hE, hI⟩
 ·have I4 := Lib.hid hI
  have HC := Lib.hid h0
  clear hI h0
  have JK := Lib.hid (show (fillI (madeI i rc') (((allocM l.s l.c ps).1 : Int), ((allocM l.s l.c ps).2.1 : Int))).st ≤ 8 ∧ FnOk (fillI (madeI i rc') (((allocM l.s l.c ps).1 : Int), ((allocM l.s l.c ps).2.1 : Int))).fn ∧ ErV (fillI (madeI i rc') (((allocM l.s l.c ps).1 : Int), ((allocM l.s l.c ps).2.1 : Int))).er from FK.out)
  go_wp2_with fail
  refine (settle_any _ b _ I4.out JK.out.1 JK.out.2.1 JK.out.2.2).mono ?_
  rintro ev wz ⟨rfl, hI, hk⟩
  have IZ := Lib.hid hI
  have MZ := Lib.hid (M4.out.off1 hk HBZ.out)
  have KZ := Lib.hid (K4.out.trans (hk.wide fun x _ e => (show US m S b x ∨ C x from .inl (.inr e))))
  have KO := Lib.hid hk
  clear hI hk
  go_wp2_with fail
  refine (nOver_any _ b _ IZ.out).mono ?_
  rintro ev wy ⟨rfl, rfl⟩
  have RZ := Lib.hid (show ∀ q, q ≤ i.news → RecL _ (fun x => T x ∨ MS m S' x) (rcLf rc' q) (recsM ds hd i.news q) from fun q hq => (R4.out q hq).grow KO.out (fun x e => .inl (e ▸ TT.out.2.1)) (fun _ h => .inl h))
  go_wp2
  go_ret
  exact ⟨S', rc', _, rfl, IZ.out, MZ.out, KZ.out, FSq.out, RZ.out, (fun x q1 q2 => (Z4.out x q1 q2).kept KO.out (fun e => HZ.out.1 (e ▸ q1))), .inl ⟨HC.out, rfl⟩⟩
 ·have I4 := Lib.hid hI
  have HC := Lib.hid h0
  have E4 := Lib.hid hE
  clear hI h0 hE
  have JK := Lib.hid (undo_ok (madeI i rc') v E4.out.erv)
  go_wp2_with fail
  refine (settle_any _ b _ I4.out JK.out.1 JK.out.2.1 JK.out.2.2).mono ?_
  rintro ev wz ⟨rfl, hI, hk⟩
  have IZ := Lib.hid hI
  have MZ := Lib.hid (M4.out.off1 hk HBZ.out)
  have KZ := Lib.hid (K4.out.trans (hk.wide fun x _ e => (show US m S b x ∨ C x from .inl (.inr e))))
  have KO := Lib.hid hk
  clear hI hk
  go_wp2_with fail
  refine (nOver_any _ b _ IZ.out).mono ?_
  rintro ev wy ⟨rfl, rfl⟩
  have EZ := Lib.hid (E4.out.kept KO.out I4.out.fault)
  have RZ := Lib.hid (show ∀ q, q ≤ i.news → RecL _ (fun x => T x ∨ MS m S' x) (rcLf rc' q) (recsM ds hd i.news q) from fun q hq => (R4.out q hq).grow KO.out (fun x e => .inl (e ▸ TT.out.2.1)) (fun _ h => .inl h))
  go_wp2
  go_ret
  exact ⟨S', rc', _, rfl, IZ.out, MZ.out, KZ.out, FSq.out, RZ.out, (fun x q1 q2 => (Z4.out x q1 q2).kept KO.out (fun e => HZ.out.1 (e ▸ q1))), .inr ⟨HC.out, v, EZ.out, rfl⟩⟩
end Go.Proofs.YtejmdmaebkdjoaaGreatDoor
