/- The document's own Step: what calls of its arena and table leave. -/
import Derived.Test.YtejmdmaebkdjoaaGreatDoorNsStepB
import Derived.Test.YtejmdmaebkdjoaaGreatDoorNsStepC
import Derived.Test.YtejmdmaebkdjoaaGreatDoorNsJob
import Derived.Test.YtejmdmaebkdjoaaGreatDoorNsJob1
import Derived.Test.YtejmdmaebkdjoaaGreatDoorNsFew
import Derived.Test.YtejmdmaebkdjoaaGreatDoorMmRefN
import Derived.Test.YtejmdmaebkdjoaaGreatDoorMpRj
namespace Go.Proofs.YtejmdmaebkdjoaaGreatDoor
set_option linter.unusedVariables false
set_option linter.unusedSimpArgs false
set_option maxRecDepth 100000
set_option maxHeartbeats 4000000
open Go.RowKit
theorem settle_stay (j : Ins) (hs : j.st ≤ 8) (hb : j.busyB = true) : settleI j = j := by
 show settleGo (9 - j.st) j = j
 obtain ⟨g, hg⟩ : ∃ g, 9 - j.st = g + 1 := ⟨8 - j.st, by omega⟩
 rw [hg, settleGo, if_pos hb]
theorem settle_up (j : Ins) (hs : j.st < 8) (hb : j.busyB = false) : settleI j = settleI { j with st := j.st + 1 } := by
 show settleGo (9 - j.st) j = settleGo (9 - (j.st + 1)) _
 obtain ⟨g, hg⟩ : ∃ g, 9 - j.st = g + 1 := ⟨8 - j.st, by omega⟩
 rw [hg, settleGo, if_neg (by rw [hb]; decide), if_neg (by omega), show 9 - (j.st + 1) = g by omega]
theorem settle_end (j : Ins) (hs : j.st = 8) (hb : j.busyB = false) : settleI j = Ins.zero j.er := by
 show settleGo (9 - j.st) j = _
 rw [show 9 - j.st = 0 + 1 by omega, settleGo, if_neg (by rw [hb]; decide), if_pos hs]
theorem busy_at1 {j : Ins} (h : j.st = 1) : j.busyB = decide (j.tk < j.news) := by unfold Ins.busyB; rw [h]; rfl
theorem busy_at2 {j : Ins} (h : j.st = 2) : j.busyB = j.hasF := by unfold Ins.busyB; rw [h]; rfl
theorem busy_at3 {j : Ins} (h : j.st = 3) : j.busyB = decide (j.pt < j.news) := by unfold Ins.busyB; rw [h]; rfl
theorem busy_at4 {j : Ins} (h : j.st = 4) : j.busyB = decide (j.sw < j.news) := by unfold Ins.busyB; rw [h]; rfl
theorem busy_at5 {j : Ins} (h : j.st = 5) : j.busyB = decide (j.pt ≤ j.news) := by unfold Ins.busyB; rw [h]; rfl
theorem busy_at6 {j : Ins} (h : j.st = 6) : j.busyB = true := by unfold Ins.busyB; rw [h]; rfl
theorem busy_at0 {j : Ins} (h : j.st = 0) : j.busyB = true := by unfold Ins.busyB; rw [h]; rfl
theorem busy_at7 {j : Ins} (h : j.st = 7) : j.busyB = decide (0 < j.pt) := by unfold Ins.busyB; rw [h]; rfl
theorem busy_at8 {j : Ins} (h : j.st = 8) : j.busyB = decide (0 < j.tk) := by unfold Ins.busyB; rw [h]; rfl
theorem settle_take (i : Ins) (x : Int) (hs : i.st = 1) (hn : i.tk < i.news) (hf : i.hasF = true) : ∃ s, settleI (takeI i x) = { takeI i x with st := s } ∧ ((s = 1 ∧ i.tk + 1 < i.news) ∨ (s = 2 ∧ i.tk + 1 = i.news)) := by
 have h1 : (takeI i x).st = 1 := hs
 by_cases h : i.tk + 1 < i.news
 ·refine ⟨1, ?_, .inl ⟨rfl, h⟩⟩
  rw [settle_stay _ (by omega) (by rw [busy_at1 h1]; exact decide_eq_true h)]
  cases i; cases hs; rfl
 ·refine ⟨2, ?_, .inr ⟨rfl, by omega⟩⟩
  rw [settle_up _ (by omega) (by rw [busy_at1 h1]; exact decide_eq_false h), h1]
  exact settle_stay _ (by show 2 ≤ 8; decide) (by rw [busy_at2 rfl]; exact hf)
theorem settle_fill3 (i : Ins) (r : Rf) (hs : i.st = 3) (hn : i.pt < i.news) (hw : i.sw = 0) : ∃ s, settleI (fillI i r) = { fillI i r with st := s } ∧ ((s = 3 ∧ i.pt + 1 < i.news) ∨ (s = 4 ∧ i.pt + 1 = i.news)) := by
 have h1 : (fillI i r).st = 3 := hs
 by_cases h : i.pt + 1 < i.news
 ·refine ⟨3, ?_, .inl ⟨rfl, h⟩⟩
  rw [settle_stay _ (by omega) (by rw [busy_at3 h1]; exact decide_eq_true h)]
  cases i; cases hs; rfl
 ·refine ⟨4, ?_, .inr ⟨rfl, by omega⟩⟩
  rw [settle_up _ (by omega) (by rw [busy_at3 h1]; exact decide_eq_false h), h1]
  exact settle_stay _ (by show 4 ≤ 8; decide) (by rw [busy_at4 rfl]; exact decide_eq_true (by show i.sw < i.news; omega))
theorem settle_fill5 (i : Ins) (r : Rf) (hs : i.st = 5) (hn : i.pt = i.news) : settleI (fillI i r) = { fillI i r with st := 6 } := by
 have h1 : (fillI i r).st = 5 := hs
 rw [settle_up _ (by omega) (by rw [busy_at5 h1]; exact decide_eq_false (by show ¬ i.pt + 1 ≤ i.news; omega)), h1]
 exact settle_stay _ (by show 6 ≤ 8; decide) (busy_at6 rfl)
theorem settle_swap4 (i : Ins) (hs : i.st = 4) (hn : i.sw < i.news) (hp : i.pt = i.news) : ∃ s, settleI (swapI i) = { swapI i with st := s } ∧ ((s = 4 ∧ i.sw + 1 < i.news) ∨ (s = 5 ∧ i.sw + 1 = i.news)) := by
 have h1 : (swapI i).st = 4 := hs
 by_cases h : i.sw + 1 < i.news
 ·refine ⟨4, ?_, .inl ⟨rfl, h⟩⟩
  rw [settle_stay _ (by omega) (by rw [busy_at4 h1]; exact decide_eq_true h)]
  cases i; cases hs; rfl
 ·refine ⟨5, ?_, .inr ⟨rfl, by omega⟩⟩
  rw [settle_up _ (by omega) (by rw [busy_at4 h1]; exact decide_eq_false h), h1]
  exact settle_stay _ (by show 5 ≤ 8; decide) (by rw [busy_at5 rfl]; exact decide_eq_true (by show i.pt ≤ i.news; omega))
theorem settle_succ (i : Ins) : settleI (succI i) = succI i := settle_stay _ (by show 0 ≤ 8; decide) (busy_at0 rfl)
def backI (j : Ins) : Ins := if 0 < j.pt then { j with st := 7 } else if 0 < j.tk then { j with st := 8 } else Ins.zero j.er
theorem settle_back (j : Ins) (hs : j.st = 7 ∨ (j.st = 8 ∧ j.pt = 0)) : settleI j = backI j := by
 unfold backI
 rcases hs with h | ⟨h, hp⟩
 ·by_cases h0 : 0 < j.pt
  ·rw [if_pos h0, settle_stay _ (by omega) (by rw [busy_at7 h]; exact decide_eq_true h0)]
   cases j; cases h; rfl
  ·rw [if_neg h0, settle_up _ (by omega) (by rw [busy_at7 h]; exact decide_eq_false h0), h]
   by_cases h1 : 0 < j.tk
   ·rw [if_pos h1]
    exact settle_stay _ (by show 8 ≤ 8; decide) (by rw [busy_at8 rfl]; exact decide_eq_true h1)
   ·rw [if_neg h1]
    exact settle_end _ rfl (by rw [busy_at8 rfl]; exact decide_eq_false h1)
 ·rw [if_neg (by omega)]
  by_cases h1 : 0 < j.tk
  ·rw [if_pos h1, settle_stay _ (by omega) (by rw [busy_at8 h]; exact decide_eq_true h1)]
   cases j; cases h; rfl
  ·rw [if_neg h1]
   exact settle_end _ h (by rw [busy_at8 h]; exact decide_eq_false h1)
def Shape (i : Ins) : Prop :=
 i.news ≤ 4 ∧ i.tk ≤ 4 ∧ i.pt ≤ 5 ∧ i.sw ≤ 4 ∧ ErV i.er ∧
 ((i.st = 0 ∧ i.fn = .nilFunc) ∨ (i.st = 1 ∧ i.tk < i.news ∧ i.pt = 0 ∧ i.sw = 0 ∧ i.dn = false) ∨ (i.st = 2 ∧ i.tk = i.news ∧ i.pt = 0 ∧ i.sw = 0 ∧ i.dn = false) ∨
  (i.st = 3 ∧ i.fn = .nilFunc ∧ i.tk = i.news ∧ i.pt < i.news ∧ i.sw = 0 ∧ i.dn = false) ∨ (i.st = 4 ∧ i.fn = .nilFunc ∧ i.tk = i.news ∧ i.pt = i.news ∧ i.sw < i.news ∧ i.dn = false) ∨
  (i.st = 5 ∧ i.fn = .nilFunc ∧ i.tk = i.news ∧ i.pt = i.news ∧ i.sw = i.news ∧ i.dn = false) ∨ (i.st = 6 ∧ i.fn = .nilFunc ∧ i.tk = i.news ∧ i.pt = i.news + 1 ∧ i.sw = i.news ∧ i.dn = false) ∨
  (i.st = 7 ∧ i.fn = .nilFunc ∧ 0 < i.pt ∧ i.dn = false) ∨ (i.st = 8 ∧ i.fn = .nilFunc ∧ i.pt = 0 ∧ 0 < i.tk ∧ i.dn = false))
theorem shape_back (j : Ins) (hn : j.news ≤ 4) (ht : j.tk ≤ 4) (hp : j.pt ≤ 5) (hw : j.sw ≤ 4) (he : ErV j.er) (hf : j.fn = .nilFunc) (hd : j.dn = false) : Shape (backI j) := by
 unfold backI
 split
 ·next h => exact ⟨hn, ht, hp, hw, he, .inr (.inr (.inr (.inr (.inr (.inr (.inr (.inl ⟨rfl, hf, h, hd⟩)))))))⟩
 ·next h =>
  split
  ·next h1 => exact ⟨hn, ht, hp, hw, he, .inr (.inr (.inr (.inr (.inr (.inr (.inr (.inr ⟨rfl, hf, by show j.pt = 0; omega, h1, hd⟩)))))))⟩
  ·exact ⟨by show 0 ≤ 4; decide, by show 0 ≤ 4; decide, by show 0 ≤ 5; decide, by show 0 ≤ 4; decide, he, .inl ⟨rfl, rfl⟩⟩
theorem back_dn (j : Ins) (hd : j.dn = false) : (backI j).dn = false := by
 unfold backI
 split
 ·exact hd
 ·split
  ·exact hd
  ·rfl
open Go.RowKit
def UndV (i j : Ins) : Prop := ∃ v, ErV v ∧ j = undoI i v
def Und (w : World) (e : Int) (i j : Ins) : Prop := ∃ v, ErrF w v e ∧ j = undoI i v
def Ins.recs (i : Ins) (d : JbD) (ds : List RecD) (hd : RecD) (q : Nat) : RecD := recsM ds (mkHd hd d.fresh i.pgsL) i.news q
def AStep (w : World) (l : LimN) (d : JbD) (ds : List RecD) (hd : RecD) (i : Ins) (ps : List Pt) (L : List Pg) (j : Ins) (ps' : List Pt) (L' : List Pg) : Prop :=
 (i.st = 1 ∧ ps' = ps ∧ L' = takeL L ∧ ((takeE L = 0 ∧ j = takeI i (takeN L : Int)) ∨ (takeE L ≠ 0 ∧ Und w (takeE L) i j))) ∨
 (i.st = 2 ∧ ps' = putM l.s l.c ps (i.recs d ds hd 0) ∧ L' = L ∧ ∃ rc, ((allocM l.s l.c ps).2.2 = 0 ∧ j = fillI (madeI i rc) (((allocM l.s l.c ps).1 : Int), ((allocM l.s l.c ps).2.1 : Int))) ∨ ((allocM l.s l.c ps).2.2 ≠ 0 ∧ Und w (allocM l.s l.c ps).2.2 (madeI i rc) j)) ∨
 ((i.st = 3 ∨ i.st = 5) ∧ ps' = putM l.s l.c ps (i.recs d ds hd i.pt) ∧ L' = L ∧ (((allocM l.s l.c ps).2.2 = 0 ∧ j = fillI i (((allocM l.s l.c ps).1 : Int), ((allocM l.s l.c ps).2.1 : Int))) ∨ ((allocM l.s l.c ps).2.2 ≠ 0 ∧ Und w (allocM l.s l.c ps).2.2 i j))) ∨
 (i.st = 4 ∧ ps' = ps ∧ L' = swapL L (i.pg i.sw) (0, 0) (i.rf i.sw) ∧ ((swapB L (i.pg i.sw) (0, 0) = true ∧ j = swapI i) ∨ (swapB L (i.pg i.sw) (0, 0) = false ∧ Und w (codeT L (i.pg i.sw)) i j))) ∨
 (i.st = 6 ∧ ps' = ps ∧ L' = swapL L i.page (i.os, i.og) (i.rf i.sw) ∧ ((swapB L i.page (i.os, i.og) = true ∧ j = succI (swapI i)) ∨ (swapB L i.page (i.os, i.og) = false ∧ Und w (codeT L i.page) i j))) ∨
 (i.st = 7 ∧ ps' = freeM l.s ps (i.rf (i.pt - 1)).1 (i.rf (i.pt - 1)).2 ∧ L' = L ∧ j = { i with pt := i.pt - 1 }) ∨
 (i.st = 8 ∧ ps' = ps ∧ L' = giveL L (i.pg (i.tk - 1)) ∧ j = { i with tk := i.tk - 1 })
structure AgI (w : World) (T : Nat → Prop) (b : Nat) (i : Ins) (d : JbD) (ds : List RecD) (hd : RecD) (jb cb cl ci : Nat) : Prop where
 lies : InsAt w b i
 sh : Shape i
 job : (i.st = 1 ∨ i.st = 2) → i.fn = .func (.func 37) #[] #[.pointer (some ⟨cb, 0, none⟩), .pointer (some ⟨jb, 0, none⟩)] ∧ i.rc = (fun _ => rcZ) ∧ w.heap[jb]? = some (.cells d.cells.toArray 57 (0, 0)) ∧ w.heap[cb]? = some (.cells #[.pointer (some ⟨cl, ci, none⟩)] 64 (0, 0)) ∧ ¬ T jb ∧ ¬ T cb
 recs : (3 ≤ i.st ∧ i.st ≤ 6) → ∀ q, q ≤ i.news → RecL w T (rcLf i.rc q) (i.recs d ds hd q)
theorem AgI.fnok {w : World} {T : Nat → Prop} {b : Nat} {i : Ins} {d : JbD} {ds : List RecD} {hd : RecD} {jb cb cl ci : Nat} (h : AgI w T b i d ds hd jb cb cl ci) : FnOk i.fn := by
 obtain ⟨-, -, -, -, -, h9⟩ := h.sh
 rcases h9 with ⟨-, e⟩ | ⟨e, -⟩ | ⟨e, -⟩ | ⟨-, e, -⟩ | ⟨-, e, -⟩ | ⟨-, e, -⟩ | ⟨-, e, -⟩ | ⟨-, e, -⟩ | ⟨-, e, -⟩
 ·exact .inl e
 ·exact .inr ⟨_, _, _, (h.job (.inl e)).1⟩
 ·exact .inr ⟨_, _, _, (h.job (.inr e)).1⟩
 all_goals exact .inl e
theorem AgI.rest {w : World} {T : Nat → Prop} {b : Nat} {j : Ins} {d : JbD} {ds : List RecD} {hd : RecD} {jb cb cl ci : Nat} (h : InsAt w b j) (hs : Shape j) (h0 : j.st = 0 ∨ j.st = 7 ∨ j.st = 8) : AgI w T b j d ds hd jb cb cl ci :=
 ⟨h, hs, fun e => by omega, fun e => by omega⟩
theorem back_st (j : Ins) : (backI j).st = 0 ∨ (backI j).st = 7 ∨ (backI j).st = 8 := by
 unfold backI
 split
 ·exact .inr (.inl rfl)
 ·split
  ·exact .inr (.inr rfl)
  ·exact .inl rfl
theorem AgI.back {w : World} {T : Nat → Prop} {b : Nat} {j : Ins} {d : JbD} {ds : List RecD} {hd : RecD} {jb cb cl ci : Nat} (h : InsAt w b (settleI j)) (hs : j.st = 7 ∨ (j.st = 8 ∧ j.pt = 0)) (hn : j.news ≤ 4) (ht : j.tk ≤ 4) (hp : j.pt ≤ 5) (hw : j.sw ≤ 4) (he : ErV j.er) (hf : j.fn = .nilFunc) (hd' : j.dn = false) : AgI w T b (settleI j) d ds hd jb cb cl ci := by
 rw [settle_back j hs] at h ⊢
 exact AgI.rest h (shape_back j hn ht hp hw he hf hd') (back_st j)
theorem AgI.und {w : World} {T : Nat → Prop} {b : Nat} {i j : Ins} {d : JbD} {ds : List RecD} {hd : RecD} {jb cb cl ci : Nat} (h : InsAt w b (settleI j)) (hu : UndV i j) (ht : i.tk ≤ 4) (hp : i.pt ≤ 5) : AgI w T b (settleI j) d ds hd jb cb cl ci := by
 obtain ⟨v, hv, rfl⟩ := hu
 exact AgI.back h (.inl rfl) (by show 0 ≤ 4; decide) ht hp (by show 0 ≤ 4; decide) hv rfl rfl
open Go.RowKit
theorem hF_job : ∀ args w, (callFunc 37 args).run Tryz.prog w = .ok (.enter 37 args) w := fun args w => by simp [go_sem]
def CtrAt (w : World) (cl : Nat) (cz : Array Value) : Prop := w.heap[cl]? = some (.cells cz 3 (0, 0))
theorem CtrAt.lt {w : World} {cl : Nat} {cz : Array Value} (h : CtrAt w cl cz) : cl < w.heap.size := (Array.getElem?_eq_some_iff.1 h).1
theorem CtrAt.kept {w w' : World} {cl : Nat} {cz : Array Value} {S : Nat → Prop} (h : CtrAt w cl cz) (hk : Kept S w w') (hs : ¬ S cl) : CtrAt w' cl cz := (hk.block cl h.lt hs).trans h
def CtrN (i : Ins) (ci : Nat) (cz cz' : Array Value) : Prop := (i.st ≠ 2 ∧ cz' = cz) ∨ (i.st = 2 ∧ ∃ n : Int, cz[ci]? = some (.int .i64 n) ∧ cz' = cz.setIfInBounds ci (.int .i64 (inc n)))
structure AgW (w0 w : World) (T : Nat → Prop) (b : Nat) (d : JbD) (bs : List RcL) (ds : List RecD) (hd : RecD) (cl ci : Nat) (cz : Array Value) (m : MB) (S : Nat → Prop) : Prop where
 jobR : JobR w0 d bs ds hd
 below : Below w0.heap.size w0 w
 ctr : CtrAt w cl cz
 cat : ∃ n : Int, cz[ci]? = some (.int .i64 n)
 tin : ∀ k, T k → w0.heap.size ≤ k ∧ k < w.heap.size
 tm : ∀ k, MS m S k → T k
 tb : T b
 tc : T cl
 nb : ¬ MS m S b
 nc : ¬ MS m S cl
 ne : b ≠ cl
def AgQ (w : World) (T : Nat → Prop) (b : Nat) (i : Ins) (d : JbD) (ds : List RecD) (hd : RecD) (jb cb cl ci : Nat) (cz : Array Value) (m : MB) (S : Nat → Prop) (l : LimN) (k : Int) (ps : List Pt) (L : List Pg) (c : Ck) (ev : Ending) (w' : World) : Prop :=
 ∃ S' j ps' L', ev = .returned (.bool (((settleI j).st : Int) == 0)) ∧ MemAt w' m S' l (inc k) ps' L' c ∧ AStep w' l d ds hd i ps L j ps' L' ∧ AgI w' (fun x => T x ∨ MS m S' x) b (settleI j) d ds hd jb cb cl ci ∧ Kept (fun x => US m S b x ∨ x = cl) w w' ∧ (∀ x, MS m S' x → MS m S x ∨ w.heap.size ≤ x) ∧ ∃ cz', CtrAt w' cl cz' ∧ CtrN i ci cz cz'
theorem AgI.job_keep {w w' : World} {T : Nat → Prop} {b : Nat} {i : Ins} {d : JbD} {ds : List RecD} {hd : RecD} {jb cb cl ci : Nat} {m : MB} {S S' : Nat → Prop} (h : AgI w T b i d ds hd jb cb cl ci) (hs : i.st = 1 ∨ i.st = 2) (hk : Kept (US m S b) w w') (hm : ∀ x, MS m S x → T x) (hb : T b) (hS : ∀ x, MS m S' x → MS m S x ∨ w.heap.size ≤ x) :
  w'.heap[jb]? = some (.cells d.cells.toArray 57 (0, 0)) ∧ w'.heap[cb]? = some (.cells #[.pointer (some ⟨cl, ci, none⟩)] 64 (0, 0)) ∧ ¬ (T jb ∨ MS m S' jb) ∧ ¬ (T cb ∨ MS m S' cb) := by
 obtain ⟨-, -, h1, h2, h3, h4⟩ := h.job hs
 have hj := (Array.getElem?_eq_some_iff.1 h1).1
 have hc := (Array.getElem?_eq_some_iff.1 h2).1
 refine ⟨(hk.block jb hj (fun hu => hu.elim (fun q => h3 (hm _ q)) (fun e => h3 (e ▸ hb)))).trans h1, (hk.block cb hc (fun hu => hu.elim (fun q => h4 (hm _ q)) (fun e => h4 (e ▸ hb)))).trans h2, fun q => q.elim h3 (fun q => (hS _ q).elim (fun q => h3 (hm _ q)) (fun q => by omega)), fun q => q.elim h4 (fun q => (hS _ q).elim (fun q => h4 (hm _ q)) (fun q => by omega))⟩
theorem AgI.recs_keep {w w' : World} {T : Nat → Prop} {b : Nat} {i : Ins} {d : JbD} {ds : List RecD} {hd : RecD} {jb cb cl ci : Nat} {m : MB} {S S' : Nat → Prop} (h : AgI w T b i d ds hd jb cb cl ci) (hs : 3 ≤ i.st ∧ i.st ≤ 6) (hk : Kept (US m S b) w w') (hm : ∀ x, MS m S x → T x) (hb : T b) (hS : ∀ x, MS m S' x → MS m S x ∨ w.heap.size ≤ x) :
  ∀ q, q ≤ i.news → RecL w' (fun x => T x ∨ MS m S' x) (rcLf i.rc q) (i.recs d ds hd q) := fun q hq =>
 (h.recs hs q hq).grow hk (fun x hu => hu.elim (hm x) (fun e => e ▸ hb)) (fun x hx => hx.elim .inl (fun hx => (hS x hx).imp (hm x) id))
theorem us_nox {m : MB} {S : Nat → Prop} {b : Nat} {w w' : World} (h : Kept (fun x => US m S b x ∨ NoX x) w w') : Kept (US m S b) w w' := h.wide fun _ _ h => h.elim id (fun h => h.elim)
theorem ag1 (w0 w : World) (T : Nat → Prop) (b : Nat) (i : Ins) (d : JbD) (bs : List RcL) (ds : List RecD) (hd : RecD) (jb cb cl ci : Nat) (cz : Array Value) (m : MB) (S : Nat → Prop) (l : LimN) (k : Int) (ps : List Pt) (L : List Pg) (c : Ck) (h : AgI w T b i d ds hd jb cb cl ci) (hW : AgW w0 w T b d bs ds hd cl ci cz m S) (hM : MemAt w m S l k ps L c) (hs : i.st = 1) :
  Calls Tryz.prog 11 #[.pointer (some ⟨b, 0, none⟩), .pointer (some ⟨m.mb, 0, none⟩)] w (AgQ w T b i d ds hd jb cb cl ci cz m S l k ps L c) := by
 obtain ⟨hn4, ht4, hp5, hw4, her, hsh⟩ := h.sh
 obtain ⟨g1, g2, g3, g4⟩ : i.tk < i.news ∧ i.pt = 0 ∧ i.sw = 0 ∧ i.dn = false := by
  rcases hsh with g | g | g | g | g | g | g | g | g <;> first | (have := g.1; omega) | exact g.2
 refine (iStep1 w b i m S l k ps L c h.lies hM hW.nb h.fnok her hs (by omega)).mono ?_
 rintro ev w' ⟨S', j, rfl, hI, hM', hk, hS, hj⟩
 have hk2 := us_nox hk
 have hk3 : Kept (fun x => US m S b x ∨ x = cl) w w' := hk2.wide fun _ _ h => .inl h
 have hi3 : CtrAt w' cl cz := hW.ctr.kept hk2 (fun h => h.elim hW.nc (fun e => hW.ne e.symm))
 refine ⟨S', j, ps, takeL L, rfl, hM', .inl ⟨hs, rfl, rfl, hj⟩, ?_, hk3, hS, cz, hi3, .inl ⟨by omega, rfl⟩⟩
 rcases hj with ⟨-, rfl⟩ | ⟨-, v, hv, rfl⟩
 ·obtain ⟨e1, e2, -⟩ := h.job (.inl hs)
  obtain ⟨s, hse, hs2⟩ := settle_take i (takeN L : Int) hs g1 (by unfold Ins.hasF; rw [e1])
  rw [hse] at hI ⊢
  have hj := h.job_keep (m := m) (.inl hs) hk2 hW.tm hW.tb hS
  refine ⟨hI, ⟨hn4, by show i.tk + 1 ≤ 4; omega, hp5, hw4, her, ?_⟩, fun _ => ⟨e1, e2, hj⟩, fun e => ?_⟩
  ·rcases hs2 with ⟨q1, q2⟩ | ⟨q1, q2⟩
   ·exact .inr (.inl ⟨q1, q2, g2, g3, g4⟩)
   ·exact .inr (.inr (.inl ⟨q1, q2, g2, g3, g4⟩))
  ·have h1 : 3 ≤ s := e.1
   rcases hs2 with ⟨q1, -⟩ | ⟨q1, -⟩ <;> omega
 ·exact AgI.und hI ⟨v, hv.erv, rfl⟩ ht4 hp5
theorem ag3 (w0 w : World) (T : Nat → Prop) (b : Nat) (i : Ins) (d : JbD) (bs : List RcL) (ds : List RecD) (hd : RecD) (jb cb cl ci : Nat) (cz : Array Value) (m : MB) (S : Nat → Prop) (l : LimN) (k : Int) (ps : List Pt) (L : List Pg) (c : Ck) (h : AgI w T b i d ds hd jb cb cl ci) (hW : AgW w0 w T b d bs ds hd cl ci cz m S) (hM : MemAt w m S l k ps L c) (hs : i.st = 3) :
  Calls Tryz.prog 11 #[.pointer (some ⟨b, 0, none⟩), .pointer (some ⟨m.mb, 0, none⟩)] w (AgQ w T b i d ds hd jb cb cl ci cz m S l k ps L c) := by
 obtain ⟨hn4, ht4, hp5, hw4, her, hsh⟩ := h.sh
 obtain ⟨g0, g1, g2, g3, g4⟩ : i.fn = .nilFunc ∧ i.tk = i.news ∧ i.pt < i.news ∧ i.sw = 0 ∧ i.dn = false := by
  rcases hsh with g | g | g | g | g | g | g | g | g <;> first | (have := g.1; omega) | exact g.2
 have hr := h.recs ⟨by omega, by omega⟩ i.pt (by omega)
 refine (iStep3 w b i m S l k ps L c h.lies hM hW.nb h.fnok her hs (by omega) _ (hr.inn hW.tm)).mono ?_
 rintro ev w' ⟨S', j, rfl, hI, hM', hk, hS, hj⟩
 have hk2 := us_nox hk
 have hk3 : Kept (fun x => US m S b x ∨ x = cl) w w' := hk2.wide fun _ _ h => .inl h
 have hi3 : CtrAt w' cl cz := hW.ctr.kept hk2 (fun h => h.elim hW.nc (fun e => hW.ne e.symm))
 refine ⟨S', j, _, L, rfl, hM', .inr (.inr (.inl ⟨.inl hs, rfl, rfl, hj⟩)), ?_, hk3, hS, cz, hi3, .inl ⟨by omega, rfl⟩⟩
 rcases hj with ⟨-, rfl⟩ | ⟨-, v, hv, rfl⟩
 ·have hj := h.recs_keep (m := m) ⟨by omega, by omega⟩ hk2 hW.tm hW.tb hS
  obtain ⟨s, hse, hs2⟩ := settle_fill3 i (((allocM l.s l.c ps).1 : Int), ((allocM l.s l.c ps).2.1 : Int)) hs g2 g3
  rw [hse] at hI ⊢
  refine ⟨hI, ⟨hn4, ht4, by show i.pt + 1 ≤ 5; omega, hw4, her, ?_⟩, fun e => ?_, fun _ => hj⟩
  ·rcases hs2 with ⟨q1, q2⟩ | ⟨q1, q2⟩
   ·exact .inr (.inr (.inr (.inl ⟨q1, g0, g1, q2, g3, g4⟩)))
   ·exact .inr (.inr (.inr (.inr (.inl ⟨q1, g0, g1, q2, by show i.sw < i.news; omega, g4⟩))))
  ·have h1 : s = 1 ∨ s = 2 := e
   rcases hs2 with ⟨q1, -⟩ | ⟨q1, -⟩ <;> omega
 ·exact AgI.und hI ⟨v, hv.erv, rfl⟩ ht4 hp5
theorem ag5 (w0 w : World) (T : Nat → Prop) (b : Nat) (i : Ins) (d : JbD) (bs : List RcL) (ds : List RecD) (hd : RecD) (jb cb cl ci : Nat) (cz : Array Value) (m : MB) (S : Nat → Prop) (l : LimN) (k : Int) (ps : List Pt) (L : List Pg) (c : Ck) (h : AgI w T b i d ds hd jb cb cl ci) (hW : AgW w0 w T b d bs ds hd cl ci cz m S) (hM : MemAt w m S l k ps L c) (hs : i.st = 5) :
  Calls Tryz.prog 11 #[.pointer (some ⟨b, 0, none⟩), .pointer (some ⟨m.mb, 0, none⟩)] w (AgQ w T b i d ds hd jb cb cl ci cz m S l k ps L c) := by
 obtain ⟨hn4, ht4, hp5, hw4, her, hsh⟩ := h.sh
 obtain ⟨g0, g1, g2, g3, g4⟩ : i.fn = .nilFunc ∧ i.tk = i.news ∧ i.pt = i.news ∧ i.sw = i.news ∧ i.dn = false := by
  rcases hsh with g | g | g | g | g | g | g | g | g <;> first | (have := g.1; omega) | exact g.2
 have hr := h.recs ⟨by omega, by omega⟩ i.pt (by omega)
 refine (iStep5 w b i m S l k ps L c h.lies hM hW.nb h.fnok her hs (by omega) _ (hr.inn hW.tm)).mono ?_
 rintro ev w' ⟨S', j, rfl, hI, hM', hk, hS, hj⟩
 have hk2 := us_nox hk
 have hk3 : Kept (fun x => US m S b x ∨ x = cl) w w' := hk2.wide fun _ _ h => .inl h
 have hi3 : CtrAt w' cl cz := hW.ctr.kept hk2 (fun h => h.elim hW.nc (fun e => hW.ne e.symm))
 refine ⟨S', j, _, L, rfl, hM', .inr (.inr (.inl ⟨.inr hs, rfl, rfl, hj⟩)), ?_, hk3, hS, cz, hi3, .inl ⟨by omega, rfl⟩⟩
 rcases hj with ⟨-, rfl⟩ | ⟨-, v, hv, rfl⟩
 ·have hj := h.recs_keep (m := m) ⟨by omega, by omega⟩ hk2 hW.tm hW.tb hS
  rw [settle_fill5 i _ hs g2] at hI ⊢
  refine ⟨hI, ⟨hn4, ht4, by show i.pt + 1 ≤ 5; omega, hw4, her, .inr (.inr (.inr (.inr (.inr (.inr (.inl ⟨rfl, g0, g1, by show i.pt + 1 = i.news + 1; omega, g3, g4⟩))))))⟩, fun e => ?_, fun _ => hj⟩
  have h1 : (6 : Nat) = 1 ∨ (6 : Nat) = 2 := e
  omega
 ·exact AgI.und hI ⟨v, hv.erv, rfl⟩ ht4 hp5
theorem ag4 (w0 w : World) (T : Nat → Prop) (b : Nat) (i : Ins) (d : JbD) (bs : List RcL) (ds : List RecD) (hd : RecD) (jb cb cl ci : Nat) (cz : Array Value) (m : MB) (S : Nat → Prop) (l : LimN) (k : Int) (ps : List Pt) (L : List Pg) (c : Ck) (h : AgI w T b i d ds hd jb cb cl ci) (hW : AgW w0 w T b d bs ds hd cl ci cz m S) (hM : MemAt w m S l k ps L c) (hs : i.st = 4) :
  Calls Tryz.prog 11 #[.pointer (some ⟨b, 0, none⟩), .pointer (some ⟨m.mb, 0, none⟩)] w (AgQ w T b i d ds hd jb cb cl ci cz m S l k ps L c) := by
 obtain ⟨hn4, ht4, hp5, hw4, her, hsh⟩ := h.sh
 obtain ⟨g0, g1, g2, g3, g4⟩ : i.fn = .nilFunc ∧ i.tk = i.news ∧ i.pt = i.news ∧ i.sw < i.news ∧ i.dn = false := by
  rcases hsh with g | g | g | g | g | g | g | g | g <;> first | (have := g.1; omega) | exact g.2
 refine (iStep4 w b i m S l k ps L c h.lies hM hW.nb h.fnok her hs (by omega)).mono ?_
 rintro ev w' ⟨S', j, rfl, hI, hM', hk, hS, hj⟩
 have hk2 := us_nox hk
 have hk3 : Kept (fun x => US m S b x ∨ x = cl) w w' := hk2.wide fun _ _ h => .inl h
 have hi3 : CtrAt w' cl cz := hW.ctr.kept hk2 (fun h => h.elim hW.nc (fun e => hW.ne e.symm))
 refine ⟨S', j, ps, _, rfl, hM', .inr (.inr (.inr (.inl ⟨hs, rfl, rfl, hj⟩))), ?_, hk3, hS, cz, hi3, .inl ⟨by omega, rfl⟩⟩
 rcases hj with ⟨-, rfl⟩ | ⟨-, v, hv, rfl⟩
 ·have hj := h.recs_keep (m := m) ⟨by omega, by omega⟩ hk2 hW.tm hW.tb hS
  obtain ⟨s, hse, hs2⟩ := settle_swap4 i hs g3 g2
  rw [hse] at hI ⊢
  refine ⟨hI, ⟨hn4, ht4, hp5, by show i.sw + 1 ≤ 4; omega, her, ?_⟩, fun e => ?_, fun _ => hj⟩
  ·rcases hs2 with ⟨q1, q2⟩ | ⟨q1, q2⟩
   ·exact .inr (.inr (.inr (.inr (.inl ⟨q1, g0, g1, g2, q2, g4⟩))))
   ·exact .inr (.inr (.inr (.inr (.inr (.inl ⟨q1, g0, g1, g2, q2, g4⟩)))))
  ·have h1 : s = 1 ∨ s = 2 := e
   rcases hs2 with ⟨q1, -⟩ | ⟨q1, -⟩ <;> omega
 ·exact AgI.und hI ⟨v, hv.erv, rfl⟩ ht4 hp5
theorem ag6 (w0 w : World) (T : Nat → Prop) (b : Nat) (i : Ins) (d : JbD) (bs : List RcL) (ds : List RecD) (hd : RecD) (jb cb cl ci : Nat) (cz : Array Value) (m : MB) (S : Nat → Prop) (l : LimN) (k : Int) (ps : List Pt) (L : List Pg) (c : Ck) (h : AgI w T b i d ds hd jb cb cl ci) (hW : AgW w0 w T b d bs ds hd cl ci cz m S) (hM : MemAt w m S l k ps L c) (hs : i.st = 6) :
  Calls Tryz.prog 11 #[.pointer (some ⟨b, 0, none⟩), .pointer (some ⟨m.mb, 0, none⟩)] w (AgQ w T b i d ds hd jb cb cl ci cz m S l k ps L c) := by
 obtain ⟨hn4, ht4, hp5, hw4, her, hsh⟩ := h.sh
 obtain ⟨g0, g1, g2, g3, g4⟩ : i.fn = .nilFunc ∧ i.tk = i.news ∧ i.pt = i.news + 1 ∧ i.sw = i.news ∧ i.dn = false := by
  rcases hsh with g | g | g | g | g | g | g | g | g <;> first | (have := g.1; omega) | exact g.2
 refine (iStep6 w b i m S l k ps L c h.lies hM hW.nb h.fnok her hs (by omega)).mono ?_
 rintro ev w' ⟨S', j, rfl, hI, hM', hk, hS, hj⟩
 have hk2 := us_nox hk
 have hk3 : Kept (fun x => US m S b x ∨ x = cl) w w' := hk2.wide fun _ _ h => .inl h
 have hi3 : CtrAt w' cl cz := hW.ctr.kept hk2 (fun h => h.elim hW.nc (fun e => hW.ne e.symm))
 refine ⟨S', j, ps, _, rfl, hM', .inr (.inr (.inr (.inr (.inl ⟨hs, rfl, rfl, hj⟩)))), ?_, hk3, hS, cz, hi3, .inl ⟨by omega, rfl⟩⟩
 rcases hj with ⟨-, rfl⟩ | ⟨-, v, hv, rfl⟩
 ·rw [settle_succ] at hI ⊢
  exact AgI.rest hI ⟨by show 0 ≤ 4; decide, ht4, hp5, by show 0 ≤ 4; decide, .inl rfl, .inl ⟨rfl, rfl⟩⟩ (.inl rfl)
 ·exact AgI.und hI ⟨v, hv.erv, rfl⟩ ht4 hp5
theorem ag7 (w0 w : World) (T : Nat → Prop) (b : Nat) (i : Ins) (d : JbD) (bs : List RcL) (ds : List RecD) (hd : RecD) (jb cb cl ci : Nat) (cz : Array Value) (m : MB) (S : Nat → Prop) (l : LimN) (k : Int) (ps : List Pt) (L : List Pg) (c : Ck) (h : AgI w T b i d ds hd jb cb cl ci) (hW : AgW w0 w T b d bs ds hd cl ci cz m S) (hM : MemAt w m S l k ps L c) (hs : i.st = 7) :
  Calls Tryz.prog 11 #[.pointer (some ⟨b, 0, none⟩), .pointer (some ⟨m.mb, 0, none⟩)] w (AgQ w T b i d ds hd jb cb cl ci cz m S l k ps L c) := by
 obtain ⟨hn4, ht4, hp5, hw4, her, hsh⟩ := h.sh
 obtain ⟨g0, g1, g2⟩ : i.fn = .nilFunc ∧ 0 < i.pt ∧ i.dn = false := by
  rcases hsh with g | g | g | g | g | g | g | g | g <;> first | (have := g.1; omega) | exact g.2
 refine (iStep7 w b i m S l k ps L c h.lies hM hW.nb h.fnok her hs g1 hp5).mono ?_
 rintro ev w' ⟨S', j, rfl, hI, hM', hk, hS, rfl⟩
 have hk2 := us_nox hk
 have hk3 : Kept (fun x => US m S b x ∨ x = cl) w w' := hk2.wide fun _ _ h => .inl h
 have hi3 : CtrAt w' cl cz := hW.ctr.kept hk2 (fun h => h.elim hW.nc (fun e => hW.ne e.symm))
 exact ⟨S', _, _, L, rfl, hM', .inr (.inr (.inr (.inr (.inr (.inl ⟨hs, rfl, rfl, rfl⟩))))), AgI.back hI (.inl hs) hn4 ht4 (by show i.pt - 1 ≤ 5; omega) hw4 her g0 g2, hk3, hS, cz, hi3, .inl ⟨by omega, rfl⟩⟩
theorem ag8 (w0 w : World) (T : Nat → Prop) (b : Nat) (i : Ins) (d : JbD) (bs : List RcL) (ds : List RecD) (hd : RecD) (jb cb cl ci : Nat) (cz : Array Value) (m : MB) (S : Nat → Prop) (l : LimN) (k : Int) (ps : List Pt) (L : List Pg) (c : Ck) (h : AgI w T b i d ds hd jb cb cl ci) (hW : AgW w0 w T b d bs ds hd cl ci cz m S) (hM : MemAt w m S l k ps L c) (hs : i.st = 8) :
  Calls Tryz.prog 11 #[.pointer (some ⟨b, 0, none⟩), .pointer (some ⟨m.mb, 0, none⟩)] w (AgQ w T b i d ds hd jb cb cl ci cz m S l k ps L c) := by
 obtain ⟨hn4, ht4, hp5, hw4, her, hsh⟩ := h.sh
 obtain ⟨g0, g1, g2, g3⟩ : i.fn = .nilFunc ∧ i.pt = 0 ∧ 0 < i.tk ∧ i.dn = false := by
  rcases hsh with g | g | g | g | g | g | g | g | g <;> first | (have := g.1; omega) | exact g.2
 refine (iStep8 w b i m S l k ps L c h.lies hM hW.nb h.fnok her hs g2 ht4).mono ?_
 rintro ev w' ⟨S', j, rfl, hI, hM', hk, hS, rfl⟩
 have hk2 := us_nox hk
 have hk3 : Kept (fun x => US m S b x ∨ x = cl) w w' := hk2.wide fun _ _ h => .inl h
 have hi3 : CtrAt w' cl cz := hW.ctr.kept hk2 (fun h => h.elim hW.nc (fun e => hW.ne e.symm))
 exact ⟨S', _, ps, _, rfl, hM', .inr (.inr (.inr (.inr (.inr (.inr ⟨hs, rfl, rfl, rfl⟩))))), AgI.back hI (.inr ⟨hs, g1⟩) hn4 (by show i.tk - 1 ≤ 4; omega) hp5 hw4 her g0 g3, hk3, hS, cz, hi3, .inl ⟨by omega, rfl⟩⟩
theorem ag2a (w0 w : World) (T : Nat → Prop) (b : Nat) (i : Ins) (d : JbD) (bs : List RcL) (ds : List RecD) (hd : RecD) (jb cb cl ci : Nat) (cz : Array Value) (m : MB) (S : Nat → Prop) (l : LimN) (k : Int) (ps : List Pt) (L : List Pg) (c : Ck) (h : AgI w T b i d ds hd jb cb cl ci) (hW : AgW w0 w T b d bs ds hd cl ci cz m S) (hM : MemAt w m S l k ps L c) (hs : i.st = 2) (hz : i.news = 0) :
  Calls Tryz.prog 11 #[.pointer (some ⟨b, 0, none⟩), .pointer (some ⟨m.mb, 0, none⟩)] w (AgQ w T b i d ds hd jb cb cl ci cz m S l k ps L c) := by
 obtain ⟨hn4, ht4, hp5, hw4, her, hsh⟩ := h.sh
 obtain ⟨g1, g2, g3, g4⟩ : i.tk = i.news ∧ i.pt = 0 ∧ i.sw = 0 ∧ i.dn = false := by
  rcases hsh with g | g | g | g | g | g | g | g | g <;> first | (have := g.1; omega) | exact g.2
 obtain ⟨e1, e2, e3, e4, e5, e6⟩ := h.job (.inr hs)
 have hlj := (Array.getElem?_eq_some_iff.1 e3).1
 have hlc := (Array.getElem?_eq_some_iff.1 e4).1
 have hlt := hW.ctr.lt
 obtain ⟨n, hn⟩ := hW.cat
 have htb := hW.tin b hW.tb
 have htc := hW.tin cl hW.tc
 refine (iStep2a (A := fun cs => cs = cz) (B := fun cs => cs = cz.setIfInBounds ci (.int .i64 (inc n))) 37 hF_job #[.pointer (some ⟨cb, 0, none⟩), .pointer (some ⟨jb, 0, none⟩)] w b i m S l k ps L c h.lies hM hW.nb h.fnok her (fun x => x = cl) (fun x => x = cl) T hW.ne (fun x hx e => hW.nc (e ▸ hx)) ds (mkHd hd d.fresh i.pgsL) hs e1 e2 hn4 ht4 g2 g3 hz (fun x hx => (hW.tin x hx).2) hW.tb hW.tm (fun x e => e ▸ hW.tc) hW.ne (fun x hx e => hW.nc (e ▸ hx)) (fun w1 pv hk ho => ?_)).mono ?_
 ·have hcl := hW.ctr.kept hk (fun e => hW.ne e.symm)
  exact job1_any w0 w1 d bs ds hd jb cb cl w.heap.size cz n ci hn pv i.pgsL hW.jobR (hW.below.trans (hk.below (n := w0.heap.size) (fun x e => e ▸ htb.1) hW.below.size))
   ((hk.block jb hlj (fun e => e5 (e ▸ hW.tb))).trans e3) ((hk.block cb hlc (fun e => e6 (e ▸ hW.tb))).trans e4) hcl ho (by simp [Ins.pgsL]; omega) hW.below.size htc.1 (fun e => by have := (ho.bounds cl e).1; omega)
 rintro ev w' ⟨S', rc', j, rfl, hI, hM', hk, hS, hR, hZ, hj⟩
 have hZ2 : ∃ cz', CtrAt w' cl cz' ∧ CtrN i ci cz cz' := by
  obtain ⟨cs, e, h⟩ := hZ cl rfl ⟨cz, rfl, hW.ctr⟩
  exact ⟨cs, h, .inr ⟨hs, n, hn, e⟩⟩
 refine ⟨S', j, _, L, rfl, hM', .inr (.inl ⟨hs, rfl, rfl, rc', hj⟩), ?_, hk, hS, hZ2⟩
 rcases hj with ⟨-, rfl⟩ | ⟨-, v, hv, rfl⟩
 ·have hst : (madeI i rc').st = 5 := if_pos hz
  rw [settle_fill5 (madeI i rc') _ hst (by show i.pt = i.news; omega)] at hI ⊢
  refine ⟨hI, ⟨hn4, ht4, by show i.pt + 1 ≤ 5; omega, hw4, her, .inr (.inr (.inr (.inr (.inr (.inr (.inl ⟨rfl, rfl, g1, by show i.pt + 1 = i.news + 1; omega, by show i.sw = i.news; omega, g4⟩))))))⟩, fun e => ?_, fun _ => hR⟩
  have h1 : (6 : Nat) = 1 ∨ (6 : Nat) = 2 := e
  omega
 ·exact AgI.und hI ⟨v, hv.erv, rfl⟩ ht4 (by show i.pt ≤ 5; omega)
theorem ag2b (w0 w : World) (T : Nat → Prop) (b : Nat) (i : Ins) (d : JbD) (bs : List RcL) (ds : List RecD) (hd : RecD) (jb cb cl ci : Nat) (cz : Array Value) (m : MB) (S : Nat → Prop) (l : LimN) (k : Int) (ps : List Pt) (L : List Pg) (c : Ck) (h : AgI w T b i d ds hd jb cb cl ci) (hW : AgW w0 w T b d bs ds hd cl ci cz m S) (hM : MemAt w m S l k ps L c) (hs : i.st = 2) (hz : 0 < i.news) :
  Calls Tryz.prog 11 #[.pointer (some ⟨b, 0, none⟩), .pointer (some ⟨m.mb, 0, none⟩)] w (AgQ w T b i d ds hd jb cb cl ci cz m S l k ps L c) := by
 obtain ⟨hn4, ht4, hp5, hw4, her, hsh⟩ := h.sh
 obtain ⟨g1, g2, g3, g4⟩ : i.tk = i.news ∧ i.pt = 0 ∧ i.sw = 0 ∧ i.dn = false := by
  rcases hsh with g | g | g | g | g | g | g | g | g <;> first | (have := g.1; omega) | exact g.2
 obtain ⟨e1, e2, e3, e4, e5, e6⟩ := h.job (.inr hs)
 have hlj := (Array.getElem?_eq_some_iff.1 e3).1
 have hlc := (Array.getElem?_eq_some_iff.1 e4).1
 have hlt := hW.ctr.lt
 obtain ⟨n, hn⟩ := hW.cat
 have htb := hW.tin b hW.tb
 have htc := hW.tin cl hW.tc
 refine (iStep2b (A := fun cs => cs = cz) (B := fun cs => cs = cz.setIfInBounds ci (.int .i64 (inc n))) 37 hF_job #[.pointer (some ⟨cb, 0, none⟩), .pointer (some ⟨jb, 0, none⟩)] w b i m S l k ps L c h.lies hM hW.nb h.fnok her (fun x => x = cl) (fun x => x = cl) T hW.ne (fun x hx e => hW.nc (e ▸ hx)) ds (mkHd hd d.fresh i.pgsL) hs e1 e2 hn4 ht4 g2 g3 hz (fun x hx => (hW.tin x hx).2) hW.tb hW.tm (fun x e => e ▸ hW.tc) hW.ne (fun x hx e => hW.nc (e ▸ hx)) (fun w1 pv hk ho => ?_)).mono ?_
 ·have hcl := hW.ctr.kept hk (fun e => hW.ne e.symm)
  exact job1_any w0 w1 d bs ds hd jb cb cl w.heap.size cz n ci hn pv i.pgsL hW.jobR (hW.below.trans (hk.below (n := w0.heap.size) (fun x e => e ▸ htb.1) hW.below.size))
   ((hk.block jb hlj (fun e => e5 (e ▸ hW.tb))).trans e3) ((hk.block cb hlc (fun e => e6 (e ▸ hW.tb))).trans e4) hcl ho (by simp [Ins.pgsL]; omega) hW.below.size htc.1 (fun e => by have := (ho.bounds cl e).1; omega)
 rintro ev w' ⟨S', rc', j, rfl, hI, hM', hk, hS, hR, hZ, hj⟩
 have hZ2 : ∃ cz', CtrAt w' cl cz' ∧ CtrN i ci cz cz' := by
  obtain ⟨cs, e, h⟩ := hZ cl rfl ⟨cz, rfl, hW.ctr⟩
  exact ⟨cs, h, .inr ⟨hs, n, hn, e⟩⟩
 refine ⟨S', j, _, L, rfl, hM', .inr (.inl ⟨hs, rfl, rfl, rc', hj⟩), ?_, hk, hS, hZ2⟩
 rcases hj with ⟨-, rfl⟩ | ⟨-, v, hv, rfl⟩
 ·have hst : (madeI i rc').st = 3 := if_neg (by omega)
  obtain ⟨s, hse, hs2⟩ := settle_fill3 (madeI i rc') (((allocM l.s l.c ps).1 : Int), ((allocM l.s l.c ps).2.1 : Int)) hst (by show i.pt < i.news; omega) g3
  rw [hse] at hI ⊢
  refine ⟨hI, ⟨hn4, ht4, by show i.pt + 1 ≤ 5; omega, hw4, her, ?_⟩, fun e => ?_, fun _ => hR⟩
  ·rcases hs2 with ⟨q1, q2⟩ | ⟨q1, q2⟩
   ·exact .inr (.inr (.inr (.inl ⟨q1, rfl, g1, q2, g3, g4⟩)))
   ·exact .inr (.inr (.inr (.inr (.inl ⟨q1, rfl, g1, q2, by show i.sw < i.news; omega, g4⟩))))
  ·have h1 : s = 1 ∨ s = 2 := e
   rcases hs2 with ⟨q1, -⟩ | ⟨q1, -⟩ <;> omega
 ·exact AgI.und hI ⟨v, hv.erv, rfl⟩ ht4 (by show i.pt ≤ 5; omega)
theorem ag_step (w0 w : World) (T : Nat → Prop) (b : Nat) (i : Ins) (d : JbD) (bs : List RcL) (ds : List RecD) (hd : RecD) (jb cb cl ci : Nat) (cz : Array Value) (m : MB) (S : Nat → Prop) (l : LimN) (k : Int) (ps : List Pt) (L : List Pg) (c : Ck) (h : AgI w T b i d ds hd jb cb cl ci) (hW : AgW w0 w T b d bs ds hd cl ci cz m S) (hM : MemAt w m S l k ps L c) (hs : i.st ≠ 0) :
  Calls Tryz.prog 11 #[.pointer (some ⟨b, 0, none⟩), .pointer (some ⟨m.mb, 0, none⟩)] w (AgQ w T b i d ds hd jb cb cl ci cz m S l k ps L c) := by
 have h9 := h.sh.2.2.2.2.2
 rcases h9 with g | g | g | g | g | g | g | g | g
 ·exact absurd g.1 hs
 ·exact ag1 w0 w T b i d bs ds hd jb cb cl ci cz m S l k ps L c h hW hM g.1
 ·by_cases hz : i.news = 0
  ·exact ag2a w0 w T b i d bs ds hd jb cb cl ci cz m S l k ps L c h hW hM g.1 hz
  ·exact ag2b w0 w T b i d bs ds hd jb cb cl ci cz m S l k ps L c h hW hM g.1 (by omega)
 ·exact ag3 w0 w T b i d bs ds hd jb cb cl ci cz m S l k ps L c h hW hM g.1
 ·exact ag4 w0 w T b i d bs ds hd jb cb cl ci cz m S l k ps L c h hW hM g.1
 ·exact ag5 w0 w T b i d bs ds hd jb cb cl ci cz m S l k ps L c h hW hM g.1
 ·exact ag6 w0 w T b i d bs ds hd jb cb cl ci cz m S l k ps L c h hW hM g.1
 ·exact ag7 w0 w T b i d bs ds hd jb cb cl ci cz m S l k ps L c h hW hM g.1
 ·exact ag8 w0 w T b i d bs ds hd jb cb cl ci cz m S l k ps L c h hW hM g.1
open Go.RowKit
structure DI where
 over : Bool
 back : Bool
 done : Bool
 err : Int
 pgs : List Int
 rfs : List Rf
 links : Int
def DI.backE (D : DI) (e : Int) : DI := { D with back := true, err := e, over := decide (D.rfs.length + D.pgs.length = 0) }
def DI.recd (D : DI) (d : JbD) (ds : List RecD) (hd : RecD) : RecD := if (D.rfs.length : Int) < d.news then ((ds[D.rfs.length]?).map RecD.bare).getD RecD.zero else mkHd hd d.fresh D.pgs
def DI.spage (D : DI) (d : JbD) : Int := if D.links < d.news then D.pgs.getD D.links.toNat 0 else d.page
def DI.sold (D : DI) (d : JbD) : Rf := if D.links < d.news then (0, 0) else (d.os, d.og)
def DI.shead (D : DI) : Rf := D.rfs.getD (min D.links.toNat (D.rfs.length - 1)) (0, 0)
def DI.lastR (D : DI) : Rf := D.rfs.getD (D.rfs.length - 1) (0, 0)
def DI.lastP (D : DI) : Int := D.pgs.getD (D.pgs.length - 1) 0
def DI.step (l : LimN) (d : JbD) (ds : List RecD) (hd : RecD) (D : DI) (ps : List Pt) (L : List Pg) : DI × List Pt × List Pg :=
 if D.over = true then (D, ps, L)
 else if D.back = true then
  if 0 < D.rfs.length then ({ D with rfs := D.rfs.take (D.rfs.length - 1), over := decide (D.rfs.length - 1 + D.pgs.length = 0) }, freeM l.s ps D.lastR.1 D.lastR.2, L)
  else ({ D with pgs := D.pgs.take (D.pgs.length - 1), over := decide (D.rfs.length + (D.pgs.length - 1) = 0) }, ps, giveL L D.lastP)
 else if (D.pgs.length : Int) < d.news then
  (if takeE L = 0 then { D with pgs := D.pgs ++ [(takeN L : Int)] } else D.backE (takeE L), ps, takeL L)
 else if (D.rfs.length : Int) < d.news ∨ (D.links = d.news ∧ (D.rfs.length : Int) = d.news) then
  (if (allocM l.s l.c ps).2.2 = 0 then { D with rfs := D.rfs ++ [(((allocM l.s l.c ps).1 : Int), ((allocM l.s l.c ps).2.1 : Int))] } else D.backE (allocM l.s l.c ps).2.2, putM l.s l.c ps (D.recd d ds hd), L)
 else
  (if swapB L (D.spage d) (D.sold d) = true then (if D.links = d.news then { D with over := true, done := true } else { D with links := D.links + 1 }) else D.backE (codeT L (D.spage d)), ps, swapL L (D.spage d) (D.sold d) D.shead)
def Ins.rfsL (i : Ins) : List Rf := (List.range i.pt).map i.rf
structure Sim (d : JbD) (i : Ins) (e : Int) (D : DI) : Prop where
 over : D.over = decide (i.st = 0)
 job : (1 ≤ i.st ∧ i.st ≤ 6) → i.page = d.page ∧ i.os = d.os ∧ i.og = d.og ∧ (i.news : Int) = d.news
 fwd : (1 ≤ i.st ∧ i.st ≤ 6) → D.back = false ∧ D.done = false ∧ D.err = 0 ∧ D.pgs = i.pgsL ∧ D.rfs = i.rfsL ∧ D.links = (i.sw : Int)
 bck : (i.st = 7 ∨ i.st = 8) → D.back = true ∧ D.done = false ∧ D.err = e ∧ D.pgs = i.pgsL ∧ D.rfs = i.rfsL
 fin : i.st = 0 → D.done = i.dn ∧ (i.dn = true → D.err = 0 ∧ D.pgs = i.pgsL ∧ D.rfs = i.rfsL) ∧ (i.dn = false → D.err = e)
theorem range_upd {α : Type} (f : Nat → α) (t : Nat) (x : α) : (List.range (t + 1)).map (upd f t x) = (List.range t).map f ++ [x] := by
 rw [List.range_succ, List.map_append, List.map_cons, List.map_nil, upd_at]
 refine congrArg (· ++ [x]) (List.map_congr_left fun y hy => upd_ne _ _ ?_)
 have := List.mem_range.1 hy
 omega
theorem range_take {α : Type} (f : Nat → α) (t k : Nat) (h : k ≤ t) : ((List.range t).map f).take k = (List.range k).map f := by
 rw [← List.map_take, List.take_range, Nat.min_eq_left h]
theorem range_getD {α : Type} (f : Nat → α) (t k : Nat) (x : α) (h : k < t) : ((List.range t).map f).getD k x = f k := by
 rw [List.getD_eq_getElem?_getD, List.getElem?_map, List.getElem?_range h]; rfl
theorem pgsL_len (i : Ins) : i.pgsL.length = i.tk := by simp [Ins.pgsL]
theorem rfsL_len (i : Ins) : i.rfsL.length = i.pt := by simp [Ins.rfsL]
def EInf (w : World) (i j : Ins) (e e' : Int) : Prop := j.dn = false → (j.st = 0 ∨ j.st = 7 ∨ j.st = 8) → (e' = e ∧ j.er = i.er ∧ (i.st = 7 ∨ i.st = 8) ∧ i.dn = false) ∨ ErrF w j.er e'
theorem sim_back {d : JbD} {j : Ins} {e : Int} {D : DI} (hd : j.dn = false) (h1 : D.back = true) (h2 : D.done = false) (h3 : D.err = e) (h4 : D.pgs = j.pgsL) (h5 : D.rfs = j.rfsL) (h6 : D.over = decide (j.pt + j.tk = 0)) : Sim d (backI j) e D := by
 unfold backI
 split
 ·next h => exact ⟨by rw [h6]; show decide _ = decide ((7 : Nat) = 0); exact decide_eq_decide.2 ⟨fun q => by omega, fun q => by omega⟩, fun q => by have h7 : (7 : Nat) ≤ 6 := q.2; omega, fun q => by have h7 : (7 : Nat) ≤ 6 := q.2; omega, fun _ => ⟨h1, h2, h3, h4, h5⟩, fun q => by have h7 : (7 : Nat) = 0 := q; omega⟩
 ·next h =>
  split
  ·next h' => exact ⟨by rw [h6]; show decide _ = decide ((8 : Nat) = 0); exact decide_eq_decide.2 ⟨fun q => by omega, fun q => by omega⟩, fun q => by have h7 : (8 : Nat) ≤ 6 := q.2; omega, fun q => by have h7 : (8 : Nat) ≤ 6 := q.2; omega, fun _ => ⟨h1, h2, h3, h4, h5⟩, fun q => by have h7 : (8 : Nat) = 0 := q; omega⟩
  ·next h' => exact ⟨by rw [h6]; show decide _ = decide ((0 : Nat) = 0); exact decide_eq_decide.2 ⟨fun q => rfl, fun q => by omega⟩, fun q => by have h7 : 1 ≤ (0 : Nat) := q.1; omega, fun q => by have h7 : 1 ≤ (0 : Nat) := q.1; omega, fun q => by have h7 : (0 : Nat) = 7 ∨ (0 : Nat) = 8 := q; omega, fun _ => ⟨h2, fun q => (by have h7 : false = true := q; cases h7), fun _ => h3⟩⟩
theorem back_er (j : Ins) : (backI j).er = j.er := by
 unfold backI
 split
 ·rfl
 ·split <;> rfl
theorem sim_und {w : World} {d : JbD} {i j : Ins} {e c : Int} {D : DI} (hu : Und w c i j) (h1 : D.done = false) (h4 : D.pgs = i.pgsL) (h5 : D.rfs = i.rfsL) : Sim d (settleI j) c (D.backE c) ∧ EInf w i (settleI j) e c := by
 obtain ⟨v, hv, rfl⟩ := hu
 rw [settle_back _ (.inl rfl)]
 refine ⟨sim_back rfl rfl h1 rfl h4 h5 ?_, fun _ _ => .inr (by rw [back_er]; exact hv)⟩
 show decide (D.rfs.length + D.pgs.length = 0) = decide (i.pt + i.tk = 0)
 rw [h4, h5, pgsL_len, rfsL_len]
theorem sim_fwd {d : JbD} {i : Ins} {e : Int} {D : DI} (h : 1 ≤ i.st ∧ i.st ≤ 6) (h0 : D.over = false) (hj : i.page = d.page ∧ i.os = d.os ∧ i.og = d.og ∧ (i.news : Int) = d.news) (hf : D.back = false ∧ D.done = false ∧ D.err = 0 ∧ D.pgs = i.pgsL ∧ D.rfs = i.rfsL ∧ D.links = (i.sw : Int)) : Sim d i e D :=
 ⟨by rw [h0]; exact (decide_eq_false (by omega)).symm, fun _ => hj, fun _ => hf, fun q => by omega, fun q => by omega⟩
theorem einf_fwd {w : World} {i j : Ins} {e e' : Int} (h : 1 ≤ j.st ∧ j.st ≤ 6) : EInf w i j e e' := fun _ q => by omega
theorem sim_step {w : World} {l : LimN} {d : JbD} {ds : List RecD} {hd : RecD} {i j : Ins} {ps ps' : List Pt} {L L' : List Pg} {e : Int} {D : DI} (h : AStep w l d ds hd i ps L j ps' L') (hS : Shape i) (hf : i.st = 1 → i.hasF = true) (hM : Sim d i e D) :
  ∃ e', Sim d (settleI j) e' (D.step l d ds hd ps L).1 ∧ ps' = (D.step l d ds hd ps L).2.1 ∧ L' = (D.step l d ds hd ps L).2.2 ∧ EInf w i (settleI j) e e' := by
 obtain ⟨hn4, ht4, hp5, hw4, -, hsh⟩ := hS
 have no : i.st ≠ 0 → D.over = false := fun q => by rw [hM.over]; exact decide_eq_false q
 rcases h with ⟨hs, rfl, rfl, hc⟩ | ⟨hs, rfl, rfl, rc, hc⟩ | ⟨hs, rfl, rfl, hc⟩ | ⟨hs, rfl, rfl, hc⟩ | ⟨hs, rfl, rfl, hc⟩ | ⟨hs, rfl, rfl, rfl⟩ | ⟨hs, rfl, rfl, rfl⟩
 ·-- take
  obtain ⟨g1, g2, g3, g4⟩ : i.tk < i.news ∧ i.pt = 0 ∧ i.sw = 0 ∧ i.dn = false := by
   rcases hsh with g | g | g | g | g | g | g | g | g <;> first | (have := g.1; omega) | exact g.2
  obtain ⟨j1, j2, j3, j4⟩ := hM.job ⟨by omega, by omega⟩
  obtain ⟨f1, f2, f3, f4, f5, f6⟩ := hM.fwd ⟨by omega, by omega⟩
  have hst : D.step l d ds hd ps' L = (if takeE L = 0 then { D with pgs := D.pgs ++ [(takeN L : Int)] } else D.backE (takeE L), ps', takeL L) := by
   unfold DI.step
   rw [if_neg (by rw [no (by omega)]; decide), if_neg (by rw [f1]; decide), if_pos (by rw [f4, pgsL_len]; omega)]
  rw [hst]
  rcases hc with ⟨he, rfl⟩ | ⟨he, hu⟩
  ·rw [if_pos he]
   obtain ⟨s, e1, h2⟩ := settle_take i (takeN L : Int) hs g1 (hf hs)
   rw [e1]
   refine ⟨e, sim_fwd (by show 1 ≤ s ∧ s ≤ 6; omega) (no (by omega)) ⟨j1, j2, j3, j4⟩ ⟨f1, f2, f3, ?_, f5, f6⟩, rfl, rfl, einf_fwd (by show 1 ≤ s ∧ s ≤ 6; omega)⟩
   show D.pgs ++ [(takeN L : Int)] = (List.range (i.tk + 1)).map (upd i.pg i.tk (takeN L : Int))
   rw [range_upd, f4]; rfl
  ·rw [if_neg he]
   obtain ⟨q1, q2⟩ := sim_und (e := e) hu f2 f4 f5
   exact ⟨_, q1, rfl, rfl, q2⟩
 ·-- make, and the first record
  obtain ⟨g1, g2, g3, g4⟩ : i.tk = i.news ∧ i.pt = 0 ∧ i.sw = 0 ∧ i.dn = false := by
   rcases hsh with g | g | g | g | g | g | g | g | g <;> first | (have := g.1; omega) | exact g.2
  obtain ⟨j1, j2, j3, j4⟩ := hM.job ⟨by omega, by omega⟩
  obtain ⟨f1, f2, f3, f4, f5, f6⟩ := hM.fwd ⟨by omega, by omega⟩
  have hrl : D.rfs.length = 0 := by rw [f5, rfsL_len, g2]
  have hrec : D.recd d ds hd = i.recs d ds hd 0 := by
   unfold DI.recd Ins.recs recsM
   rw [hrl]
   by_cases hz : i.news = 0
   ·rw [if_neg (by omega), if_pos hz.symm, f4]
   ·rw [if_pos (by omega), if_neg (by omega)]
  have hst : D.step l d ds hd ps L' = (if (allocM l.s l.c ps).2.2 = 0 then { D with rfs := D.rfs ++ [(((allocM l.s l.c ps).1 : Int), ((allocM l.s l.c ps).2.1 : Int))] } else D.backE (allocM l.s l.c ps).2.2, putM l.s l.c ps (i.recs d ds hd 0), L') := by
   unfold DI.step
   rw [if_neg (by rw [no (by omega)]; decide), if_neg (by rw [f1]; decide), if_neg (by rw [f4, pgsL_len]; omega), if_pos (by rw [hrl, f6]; omega), hrec]
  rw [hst]
  rcases hc with ⟨he, rfl⟩ | ⟨he, hu⟩
  ·rw [if_pos he]
   have hnew : ∀ s, 1 ≤ s ∧ s ≤ 6 → Sim d { fillI (madeI i rc) (((allocM l.s l.c ps).1 : Int), ((allocM l.s l.c ps).2.1 : Int)) with st := s } e { D with rfs := D.rfs ++ [(((allocM l.s l.c ps).1 : Int), ((allocM l.s l.c ps).2.1 : Int))] } := fun s h6 => by
    refine sim_fwd h6 (no (by omega)) ⟨j1, j2, j3, j4⟩ ⟨f1, f2, f3, f4, ?_, f6⟩
    show D.rfs ++ [_] = (List.range (i.pt + 1)).map (upd i.rf i.pt _)
    rw [range_upd, f5]; rfl
   by_cases hz : i.news = 0
   ·have hst : (madeI i rc).st = 5 := if_pos hz
    rw [settle_fill5 (madeI i rc) _ hst (by show i.pt = i.news; omega)]
    exact ⟨e, hnew 6 ⟨by decide, by decide⟩, rfl, rfl, einf_fwd ⟨by show 1 ≤ 6; decide, by show 6 ≤ 6; decide⟩⟩
   ·have hst : (madeI i rc).st = 3 := if_neg hz
    obtain ⟨s, e1, h2⟩ := settle_fill3 (madeI i rc) (((allocM l.s l.c ps).1 : Int), ((allocM l.s l.c ps).2.1 : Int)) hst (by show i.pt < i.news; omega) g3
    rw [e1]
    exact ⟨e, hnew s ⟨by omega, by omega⟩, rfl, rfl, einf_fwd (by show 1 ≤ s ∧ s ≤ 6; omega)⟩
  ·rw [if_neg he]
   obtain ⟨q1, q2⟩ := sim_und (i := madeI i rc) (e := e) (D := D) hu f2 f4 f5
   refine ⟨_, q1, rfl, rfl, fun h1 h2 => ?_⟩
   rcases q2 h1 h2 with ⟨-, -, q3, -⟩ | q3
   ·have h7 : (madeI i rc).st = 3 ∨ (madeI i rc).st = 5 := by unfold madeI; simp only; split <;> simp
    omega
   ·exact .inr q3
 ·-- fill
  obtain ⟨g1, g2, g3, g4⟩ : i.tk = i.news ∧ ((i.st = 3 ∧ i.pt < i.news ∧ i.sw = 0) ∨ (i.st = 5 ∧ i.pt = i.news ∧ i.sw = i.news)) ∧ i.fn = .nilFunc ∧ i.dn = false := by
   rcases hsh with g | g | g | g | g | g | g | g | g
   ·omega
   ·omega
   ·omega
   ·exact ⟨g.2.2.1, .inl ⟨g.1, g.2.2.2.1, g.2.2.2.2.1⟩, g.2.1, g.2.2.2.2.2⟩
   ·omega
   ·exact ⟨g.2.2.1, .inr ⟨g.1, g.2.2.2.1, g.2.2.2.2.1⟩, g.2.1, g.2.2.2.2.2⟩
   ·omega
   ·omega
   ·omega
  obtain ⟨j1, j2, j3, j4⟩ := hM.job ⟨by omega, by omega⟩
  obtain ⟨f1, f2, f3, f4, f5, f6⟩ := hM.fwd ⟨by omega, by omega⟩
  have hrl : D.rfs.length = i.pt := by rw [f5, rfsL_len]
  have hrec : D.recd d ds hd = i.recs d ds hd i.pt := by
   unfold DI.recd Ins.recs recsM
   rw [hrl]
   by_cases hz : i.pt = i.news
   ·rw [if_neg (by omega), if_pos hz, f4]
   ·rw [if_pos (by omega), if_neg hz]
  have hst : D.step l d ds hd ps L' = (if (allocM l.s l.c ps).2.2 = 0 then { D with rfs := D.rfs ++ [(((allocM l.s l.c ps).1 : Int), ((allocM l.s l.c ps).2.1 : Int))] } else D.backE (allocM l.s l.c ps).2.2, putM l.s l.c ps (i.recs d ds hd i.pt), L') := by
   unfold DI.step
   rw [if_neg (by rw [no (by omega)]; decide), if_neg (by rw [f1]; decide), if_neg (by rw [f4, pgsL_len]; omega), if_pos (by rw [hrl, f6]; omega), hrec]
  rw [hst]
  rcases hc with ⟨he, rfl⟩ | ⟨he, hu⟩
  ·rw [if_pos he]
   have hnew : ∀ s, 1 ≤ s ∧ s ≤ 6 → Sim d { fillI i (((allocM l.s l.c ps).1 : Int), ((allocM l.s l.c ps).2.1 : Int)) with st := s } e { D with rfs := D.rfs ++ [(((allocM l.s l.c ps).1 : Int), ((allocM l.s l.c ps).2.1 : Int))] } := fun s h6 => by
    refine sim_fwd h6 (no (by omega)) ⟨j1, j2, j3, j4⟩ ⟨f1, f2, f3, f4, ?_, f6⟩
    show D.rfs ++ [_] = (List.range (i.pt + 1)).map (upd i.rf i.pt _)
    rw [range_upd, f5]; rfl
   rcases g2 with ⟨k1, k2, k3⟩ | ⟨k1, k2, k3⟩
   ·obtain ⟨s, e1, h2⟩ := settle_fill3 i (((allocM l.s l.c ps).1 : Int), ((allocM l.s l.c ps).2.1 : Int)) k1 k2 k3
    rw [e1]
    exact ⟨e, hnew s ⟨by omega, by omega⟩, rfl, rfl, einf_fwd (by show 1 ≤ s ∧ s ≤ 6; omega)⟩
   ·rw [settle_fill5 i _ k1 k2]
    exact ⟨e, hnew 6 ⟨by decide, by decide⟩, rfl, rfl, einf_fwd ⟨by show 1 ≤ 6; decide, by show 6 ≤ 6; decide⟩⟩
  ·rw [if_neg he]
   obtain ⟨q1, q2⟩ := sim_und (e := e) hu f2 f4 f5
   exact ⟨_, q1, rfl, rfl, q2⟩
 ·-- swap a base
  obtain ⟨-, g1, g2, g3, g4⟩ : i.fn = .nilFunc ∧ i.tk = i.news ∧ i.pt = i.news ∧ i.sw < i.news ∧ i.dn = false := by
   rcases hsh with g | g | g | g | g | g | g | g | g <;> first | (have := g.1; omega) | exact g.2
  obtain ⟨j1, j2, j3, j4⟩ := hM.job ⟨by omega, by omega⟩
  obtain ⟨f1, f2, f3, f4, f5, f6⟩ := hM.fwd ⟨by omega, by omega⟩
  have hrl : D.rfs.length = i.pt := by rw [f5, rfsL_len]
  have e1 : D.spage d = i.pg i.sw := by
   unfold DI.spage
   rw [if_pos (by omega), f6, f4, Int.toNat_natCast]
   exact range_getD _ _ _ _ (by omega)
  have e2 : D.sold d = (0, 0) := by unfold DI.sold; rw [if_pos (by omega)]
  have e3 : D.shead = i.rf i.sw := by
   unfold DI.shead
   rw [hrl, f6, f5, Int.toNat_natCast, Nat.min_eq_left (by omega)]
   exact range_getD _ _ _ _ (by omega)
  have hst : D.step l d ds hd ps' L = (if swapB L (i.pg i.sw) (0, 0) = true then (if D.links = d.news then { D with over := true, done := true } else { D with links := D.links + 1 }) else D.backE (codeT L (i.pg i.sw)), ps', swapL L (i.pg i.sw) (0, 0) (i.rf i.sw)) := by
   unfold DI.step
   rw [if_neg (by rw [no (by omega)]; decide), if_neg (by rw [f1]; decide), if_neg (by rw [f4, pgsL_len]; omega), if_neg (by rw [hrl, f6]; omega), e1, e2, e3]
  rw [hst]
  rcases hc with ⟨hb, rfl⟩ | ⟨hb, hu⟩
  ·rw [if_pos hb, if_neg (by rw [f6]; omega)]
   obtain ⟨s, e4, h2⟩ := settle_swap4 i hs g3 g2
   rw [e4]
   exact ⟨e, sim_fwd (by show 1 ≤ s ∧ s ≤ 6; omega) (no (by omega)) ⟨j1, j2, j3, j4⟩ ⟨f1, f2, f3, f4, f5, by show D.links + 1 = ((i.sw + 1 : Nat) : Int); rw [f6]; omega⟩, rfl, rfl, einf_fwd (by show 1 ≤ s ∧ s ≤ 6; omega)⟩
  ·rw [if_neg (by rw [hb]; decide)]
   obtain ⟨q1, q2⟩ := sim_und (e := e) hu f2 f4 f5
   exact ⟨_, q1, rfl, rfl, q2⟩
 ·-- the head's swap
  obtain ⟨-, g1, g2, g3, g4⟩ : i.fn = .nilFunc ∧ i.tk = i.news ∧ i.pt = i.news + 1 ∧ i.sw = i.news ∧ i.dn = false := by
   rcases hsh with g | g | g | g | g | g | g | g | g <;> first | (have := g.1; omega) | exact g.2
  obtain ⟨j1, j2, j3, j4⟩ := hM.job ⟨by omega, by omega⟩
  obtain ⟨f1, f2, f3, f4, f5, f6⟩ := hM.fwd ⟨by omega, by omega⟩
  have hrl : D.rfs.length = i.pt := by rw [f5, rfsL_len]
  have e1 : D.spage d = i.page := by unfold DI.spage; rw [if_neg (by omega), j1]
  have e2 : D.sold d = (i.os, i.og) := by unfold DI.sold; rw [if_neg (by omega), j2, j3]
  have e3 : D.shead = i.rf i.sw := by
   unfold DI.shead
   rw [hrl, f6, f5, Int.toNat_natCast, Nat.min_eq_left (by omega)]
   exact range_getD _ _ _ _ (by omega)
  have hst : D.step l d ds hd ps' L = (if swapB L i.page (i.os, i.og) = true then (if D.links = d.news then { D with over := true, done := true } else { D with links := D.links + 1 }) else D.backE (codeT L i.page), ps', swapL L i.page (i.os, i.og) (i.rf i.sw)) := by
   unfold DI.step
   rw [if_neg (by rw [no (by omega)]; decide), if_neg (by rw [f1]; decide), if_neg (by rw [f4, pgsL_len]; omega), if_neg (by rw [hrl, f6]; omega), e1, e2, e3]
  rw [hst]
  rcases hc with ⟨hb, rfl⟩ | ⟨hb, hu⟩
  ·rw [if_pos hb, if_pos (by rw [f6]; omega), settle_succ]
   refine ⟨e, ⟨rfl, fun q => by have h7 : 1 ≤ (0 : Nat) := q.1; omega, fun q => by have h7 : 1 ≤ (0 : Nat) := q.1; omega, fun q => by have h7 : (0 : Nat) = 7 ∨ (0 : Nat) = 8 := q; omega, fun _ => ⟨rfl, fun _ => ⟨f3, f4, f5⟩, fun q => (by have h7 : true = false := q; cases h7)⟩⟩, rfl, rfl, fun q => (by have h7 : true = false := q; cases h7)⟩
  ·rw [if_neg (by rw [hb]; decide)]
   obtain ⟨q1, q2⟩ := sim_und (e := e) hu f2 f4 f5
   exact ⟨_, q1, rfl, rfl, q2⟩
 ·-- free
  obtain ⟨-, g1, g2⟩ : i.fn = .nilFunc ∧ 0 < i.pt ∧ i.dn = false := by
   rcases hsh with g | g | g | g | g | g | g | g | g <;> first | (have := g.1; omega) | exact g.2
  obtain ⟨f1, f2, f3, f4, f5⟩ := hM.bck (.inl hs)
  have hrl : D.rfs.length = i.pt := by rw [f5, rfsL_len]
  have e1 : D.lastR = i.rf (i.pt - 1) := by
   unfold DI.lastR
   rw [hrl, f5]
   exact range_getD _ _ _ _ (by omega)
  have hst : D.step l d ds hd ps L' = ({ D with rfs := D.rfs.take (D.rfs.length - 1), over := decide (D.rfs.length - 1 + D.pgs.length = 0) }, freeM l.s ps (i.rf (i.pt - 1)).1 (i.rf (i.pt - 1)).2, L') := by
   unfold DI.step
   rw [if_neg (by rw [no (by omega)]; decide), if_pos f1, if_pos (by omega), e1]
  rw [hst, settle_back { i with pt := i.pt - 1 } (.inl hs)]
  refine ⟨e, sim_back g2 f1 f2 f3 f4 ?_ ?_, rfl, rfl, fun _ _ => .inl ⟨rfl, back_er _, .inl hs, g2⟩⟩
  ·show D.rfs.take (D.rfs.length - 1) = (List.range (i.pt - 1)).map i.rf
   rw [hrl, f5]
   exact range_take _ _ _ (by omega)
  ·show decide (D.rfs.length - 1 + D.pgs.length = 0) = decide (i.pt - 1 + i.tk = 0)
   rw [hrl, f4, pgsL_len]
 ·-- give
  obtain ⟨-, g1, g2, g3⟩ : i.fn = .nilFunc ∧ i.pt = 0 ∧ 0 < i.tk ∧ i.dn = false := by
   rcases hsh with g | g | g | g | g | g | g | g | g <;> first | (have := g.1; omega) | exact g.2
  obtain ⟨f1, f2, f3, f4, f5⟩ := hM.bck (.inr hs)
  have hrl : D.rfs.length = 0 := by rw [f5, rfsL_len, g1]
  have hpl : D.pgs.length = i.tk := by rw [f4, pgsL_len]
  have e1 : D.lastP = i.pg (i.tk - 1) := by
   unfold DI.lastP
   rw [hpl, f4]
   exact range_getD _ _ _ _ (by omega)
  have hst : D.step l d ds hd ps' L = ({ D with pgs := D.pgs.take (D.pgs.length - 1), over := decide (D.rfs.length + (D.pgs.length - 1) = 0) }, ps', giveL L (i.pg (i.tk - 1))) := by
   unfold DI.step
   rw [if_neg (by rw [no (by omega)]; decide), if_pos f1, if_neg (by omega), e1]
  rw [hst, settle_back { i with tk := i.tk - 1 } (.inr ⟨hs, g1⟩)]
  refine ⟨e, sim_back g3 f1 f2 f3 ?_ f5 ?_, rfl, rfl, fun _ _ => .inl ⟨rfl, back_er _, .inr hs, g3⟩⟩
  ·show D.pgs.take (D.pgs.length - 1) = (List.range (i.tk - 1)).map i.pg
   rw [hpl, f4]
   exact range_take _ _ _ (by omega)
  ·show decide (D.rfs.length + (D.pgs.length - 1) = 0) = decide (i.pt + (i.tk - 1) = 0)
   rw [hrl, hpl, g1]
open Go.RowKit
structure DX where
 d : JbD
 back : Bool
 over : Bool
 done : Bool
 err : Int
 pa : Option Addr
 pn : Nat
 pc : Nat
 ra : Option Addr
 rn : Nat
 rc : Nat
 links : Int
def DX.list (X : DX) : List Value := X.d.cells ++ [.bool false, .bool X.back, .bool X.over, .bool X.done, .int .i64 X.err, .slice X.pa X.pn X.pc, .slice X.ra X.rn X.rc, .int .i64 X.links]
def DX.val (X : DX) : Value := .agg X.list.toArray
theorem DX.len (X : DX) : X.list.length = 29 := rfl
theorem DX.one (X : DX) : X.list.toArray.all (fun x => x.oneCell') = true := all_oneCell_toArray fun u hu => by
 rcases List.mem_append.1 hu with h | h
 ·exact X.d.cells_one u h
 ·simp only [List.mem_cons, List.not_mem_nil, or_false] at h
  rcases h with h | h | h | h | h | h | h | h <;> (subst h; rfl)
theorem dxInfo : (Tryz.prog.info? 68).map (·.size) = some 29 := by kernel_rfl
theorem DX.info (X : DX) : (Tryz.prog.info? 68).map (·.size) = some X.list.length := dxInfo
structure DXAt (w : World) (b : Nat) (X : DX) : Prop where
 blk : w.heap[b]? = some (.cells X.list.toArray 68 (0, 0))
section
variable {w w' : World} {b : Nat} {X : DX}
theorem DXAt.lt (h : DXAt w b X) : b < w.heap.size := (Array.getElem?_eq_some_iff.1 h.blk).1
theorem DXAt.step (h : DXAt w b X) (hs : Below w.heap.size w w') : DXAt w' b X := ⟨blk_step h.blk hs⟩
theorem DXAt.new (w : World) (X : DX) : DXAt (w.alloc (.cells X.list.toArray 68)) w.heap.size X := ⟨blk_new w _⟩
theorem DXAt.rng (h : DXAt w b X) : w.rangeAt b 0 X.list := blk_rng h.blk
theorem DXAt.there (h : DXAt w b X) : w.there b 0 X.list.length := blk_there h.blk _ (Nat.le_refl _)
theorem DXAt.free (h : DXAt w b X) (o : Nat) : w.frozen? ⟨b, o, none⟩ = false := blk_free h.blk o
theorem DXAt.cPage (h : DXAt w b X) : w.cell? ⟨b, 0, none⟩ = some (.int .i64 X.d.page) := blk_cell h.blk 0
theorem DXAt.cOs (h : DXAt w b X) : w.cell? ⟨b, 1, none⟩ = some (.int .i64 X.d.os) := blk_cell h.blk 1
theorem DXAt.cOg (h : DXAt w b X) : w.cell? ⟨b, 2, none⟩ = some (.int .i64 X.d.og) := blk_cell h.blk 2
theorem DXAt.cNews (h : DXAt w b X) : w.cell? ⟨b, 3, none⟩ = some (.int .i64 X.d.news) := blk_cell h.blk 3
theorem DXAt.cBases (h : DXAt w b X) : w.cell? ⟨b, 4, none⟩ = some (.slice X.d.ba X.d.bn X.d.bc) := blk_cell h.blk 4
theorem DXAt.cFresh (h : DXAt w b X) : w.cell? ⟨b, 20, none⟩ = some (.int .i64 X.d.fresh) := blk_cell h.blk 20
theorem DXAt.cBack (h : DXAt w b X) : w.cell? ⟨b, 22, none⟩ = some (.bool X.back) := blk_cell h.blk 22
theorem DXAt.cOver (h : DXAt w b X) : w.cell? ⟨b, 23, none⟩ = some (.bool X.over) := blk_cell h.blk 23
theorem DXAt.cDone (h : DXAt w b X) : w.cell? ⟨b, 24, none⟩ = some (.bool X.done) := blk_cell h.blk 24
theorem DXAt.cErr (h : DXAt w b X) : w.cell? ⟨b, 25, none⟩ = some (.int .i64 X.err) := blk_cell h.blk 25
theorem DXAt.cPgs (h : DXAt w b X) : w.cell? ⟨b, 26, none⟩ = some (.slice X.pa X.pn X.pc) := blk_cell h.blk 26
theorem DXAt.cRfs (h : DXAt w b X) : w.cell? ⟨b, 27, none⟩ = some (.slice X.ra X.rn X.rc) := blk_cell h.blk 27
theorem DXAt.cLinks (h : DXAt w b X) : w.cell? ⟨b, 28, none⟩ = some (.int .i64 X.links) := blk_cell h.blk 28
theorem DXAt.head (h : DXAt w b X) : w.rangeAt b 5 X.d.hd.cells := fun j u hj => by
 have hl : j < 15 := (List.getElem?_eq_some_iff.1 hj).1
 rw [blk_cell h.blk, ← hj, List.getElem?_toArray]
 show ((.int .i64 X.d.page : Value) :: .int .i64 X.d.os :: .int .i64 X.d.og :: .int .i64 X.d.news :: .slice X.d.ba X.d.bn X.d.bc :: ((X.d.hd.cells ++ [.int .i64 X.d.fresh]) ++ _))[5 + j]? = _
 rw [Nat.add_comm 5 j]
 simp only [List.getElem?_cons_succ]
 rw [List.append_assoc, List.getElem?_append_left (show j < X.d.hd.cells.length from hl)]
theorem DXAt.setBack (h : DXAt w b X) (v : Bool) : DXAt (w.setCell ⟨b, 22, none⟩ (.bool v)) b { X with back := v } := ⟨blk_set h.blk 22 (.bool v)⟩
theorem DXAt.setOver (h : DXAt w b X) (v : Bool) : DXAt (w.setCell ⟨b, 23, none⟩ (.bool v)) b { X with over := v } := ⟨blk_set h.blk 23 (.bool v)⟩
theorem DXAt.setDone (h : DXAt w b X) (v : Bool) : DXAt (w.setCell ⟨b, 24, none⟩ (.bool v)) b { X with done := v } := ⟨blk_set h.blk 24 (.bool v)⟩
theorem DXAt.setErr (h : DXAt w b X) (v : Int) : DXAt (w.setCell ⟨b, 25, none⟩ (.int .i64 v)) b { X with err := v } := ⟨blk_set h.blk 25 (.int .i64 v)⟩
theorem DXAt.setPgs (h : DXAt w b X) (a : Option Addr) (n c : Nat) : DXAt (w.setCell ⟨b, 26, none⟩ (.slice a n c)) b { X with pa := a, pn := n, pc := c } := ⟨blk_set h.blk 26 (.slice a n c)⟩
theorem DXAt.setRfs (h : DXAt w b X) (a : Option Addr) (n c : Nat) : DXAt (w.setCell ⟨b, 27, none⟩ (.slice a n c)) b { X with ra := a, rn := n, rc := c } := ⟨blk_set h.blk 27 (.slice a n c)⟩
theorem DXAt.setLinks (h : DXAt w b X) (v : Int) : DXAt (w.setCell ⟨b, 28, none⟩ (.int .i64 v)) b { X with links := v } := ⟨blk_set h.blk 28 (.int .i64 v)⟩
theorem DXAt.off (h : DXAt w b X) {g : Nat} (hne : b ≠ g) (o : Nat) (u : Value) : DXAt (w.setCell ⟨g, o, none⟩ u) b X := ⟨blk_off h.blk hne o u⟩
end
theorem dx_laid {w : World} {b : Nat} {Y : DX} (h : DXAt w b Y) (X : DX) : DXAt (w.setCells b 0 X.list) b X := ⟨list_laid X.list h.blk rfl⟩
def DX.zero : DX := ⟨⟨0, 0, 0, 0, none, 0, 0, ⟨Sc.zero, none, 0, 0, none, 0, 0⟩, 0⟩, false, false, false, 0, none, 0, 0, none, 0, 0, 0⟩
def DX.backE (X : DX) (e : Int) : DX := { X with back := true, err := e, over := ((X.rn : Int) + (X.pn : Int) == 0) }
theorem iBack_any (X : DX) (e : Int) (w : World) (hl : X.rn ≤ 1000 ∧ X.pn ≤ 1000) : Calls Tryz.prog 48 #[X.val, .int .i64 e] w fun ev w' => ev = .returned (X.backE e).val ∧ Below w.heap.size w w' := by
 obtain ⟨W0, hW0⟩ : ∃ W, W = (w.alloc (.cells X.list.toArray 68)).alloc (.cells DX.zero.list.toArray 68) := ⟨_, rfl⟩
 have sz : (w.alloc (.cells X.list.toArray 68)).heap.size = w.heap.size + 1 := by simp
 have B0 := Lib.hid (show Below w.heap.size w W0 by rw [hW0]; exact (alloc_below0 w _).trans ((alloc_below0 _ _).mono (by omega)))
 have X0 := Lib.hid (show DXAt W0 w.heap.size X by rw [hW0]; exact (DXAt.new w X).step (alloc_below0 _ _))
 have Z0 := Lib.hid (show DXAt W0 (w.heap.size + 1) DX.zero by rw [hW0, ← sz]; exact DXAt.new _ _)
 have y0 := X0.out.cBack
 have y1 := X0.out.free 22
 have HL := Lib.hid hl
 clear sz hl
 unfold DX.val
 generalize hxl : X.list.toArray = xl at hW0 ⊢
 have hzl : DX.zero.list.toArray = #[.int .i64 0, .int .i64 0, .int .i64 0, .int .i64 0, .slice none 0 0, .int .i64 0, .string ⟨#[]⟩, .string ⟨#[]⟩, .bool false, .int .i64 0, .slice none 0 0, .slice none 0 0, .string ⟨#[]⟩, .string ⟨#[]⟩, .int .i64 0, .int .i64 0, .int .i64 0, .string ⟨#[]⟩, .int .i64 0, .int .i64 0, .int .i64 0, .bool false, .bool false, .bool false, .bool false, .int .i64 0, .slice none 0 0, .slice none 0 0, .int .i64 0] := rfl
 rw [hzl] at hW0
 clear hzl
 go_enter Tryz.func48, Tryz.ntmps48
 go_upto_region 1 with (fail)
 rw [← hW0]
 clear hW0
 go_upto_region 2 with (fail)
 have ne : w.heap.size + 1 ≠ w.heap.size := by omega
 have X1 := Lib.hid (X0.out.setBack true)
 have Z1 := Lib.hid (Z0.out.off ne 22 (.bool true))
 have B1 := Lib.hid (below_set B0.out (Nat.le_refl _) 22 (.bool true))
 generalize W0.setCell ⟨w.heap.size, 22, none⟩ (.bool true) = W1 at *
 clear y0 y1
 have y0 := X1.out.cErr
 have y1 := X1.out.free 25
 go_upto_region 3 with (fail)
 have X2 := Lib.hid (X1.out.setErr e)
 have Z2 := Lib.hid (Z1.out.off ne 25 (.int .i64 e))
 have B2 := Lib.hid (below_set B1.out (Nat.le_refl _) 25 (.int .i64 e))
 generalize W1.setCell ⟨w.heap.size, 25, none⟩ (.int .i64 e) = W2 at *
 clear y0 y1
 have y0 := X2.out.cRfs
 have y1 := X2.out.cPgs
 have y2 := X2.out.cOver
 have y3 := X2.out.free 23
 have i1 : IntKind.i64.wrap ((X.rn : Int) + (X.pn : Int)) = (X.rn : Int) + (X.pn : Int) := Go.IntWalk.i64_in _ (by have := HL.out; omega)
 go_upto_region 4 with (fail)
 have X3 := Lib.hid (show DXAt (W2.setCell ⟨w.heap.size, 23, none⟩ (.bool (((X.rn : Int) + (X.pn : Int) == 0)))) w.heap.size (X.backE e) from X2.out.setOver _)
 have Z3 := Lib.hid (Z2.out.off ne 23 (.bool (((X.rn : Int) + (X.pn : Int) == 0))))
 have B3 := Lib.hid (below_set B2.out (Nat.le_refl _) 23 (.bool (((X.rn : Int) + (X.pn : Int) == 0))))
 generalize W2.setCell ⟨w.heap.size, 23, none⟩ (.bool (((X.rn : Int) + (X.pn : Int) == 0))) = W3 at *
 clear y0 y1 y2 y3
 go_wp2_with (first
  | (refine wpList_load_mid rfl 68 (.tmp 2) rfl w.heap.size 0 rfl (X.backE e).list _ ?_ Tryz.underlying68 rfl (X.backE e).info ?_; exact X3.out.rng)
  | (refine wpList_store_to rfl 68 (.tmp 4) (.tmp 17) rfl (w.heap.size + 1) 0 (X.backE e).list rfl rfl ?_ (X.backE e).info (X.backE e).one ?_; exact Z3.out.there; intro W5 hW5; have Z5 := Lib.hid (show DXAt W5 (w.heap.size + 1) (X.backE e) by rw [hW5]; exact dx_laid Z3.out _); have B5 := Lib.hid (show Below w.heap.size w W5 by rw [hW5]; exact below_setCells (by omega) _ 0 _ B3.out); clear hW5))
 exact bodyPost_ret (v := (X.backE e).val) (results_cell1 rfl _ _ (w.heap.size + 1) (X.backE e).list _ rfl Z5.out.rng Tryz.underlying68 rfl (X.backE e).info) rfl ⟨rfl, B5.out⟩
open Go.RowKit
def mkSc (sc : Sc) (fresh : Int) (pgs : List Int) : Sc := if 1 ≤ fresh ∧ fresh ≤ (pgs.length : Int) then { sc with page := pgs.getD (fresh - 1).toNat 0 } else sc
def zrec : List Value := [.int .i64 0, .string ⟨#[]⟩, .string ⟨#[]⟩, .bool false, .int .i64 0, .slice none 0 0, .slice none 0 0, .string ⟨#[]⟩, .string ⟨#[]⟩, .int .i64 0, .int .i64 0, .int .i64 0, .string ⟨#[]⟩, .int .i64 0, .int .i64 0]
theorem iHead12_any (X : DX) (sc : Sc) (hra : Option Addr) (hrn hrc : Nat) (hea : Option Addr) (hen hec : Nat) (hX : X.d.hd = ⟨sc, hra, hrn, hrc, hea, hen, hec⟩) (pgs : List Int) (w : World) (hp : SV lInt w (.slice X.pa X.pn X.pc) pgs) (hl : X.pn ≤ 1000) :
  Calls Tryz.prog 49 #[X.val] w fun ev w' => ev = .returned (recVal (mkSc sc X.d.fresh pgs) (.slice hra hrn hrc) (.slice hea hen hec)) ∧ Below w.heap.size w w' := by
 obtain ⟨W0, hW0⟩ : ∃ W, W = (w.alloc (.cells X.list.toArray 68)).alloc (.cells zrec.toArray 55) := ⟨_, rfl⟩
 have sz : (w.alloc (.cells X.list.toArray 68)).heap.size = w.heap.size + 1 := by simp
 have B0 := Lib.hid (show Below w.heap.size w W0 by rw [hW0]; exact (alloc_below0 w _).trans ((alloc_below0 _ _).mono (by omega)))
 have X0 := Lib.hid (show DXAt W0 w.heap.size X by rw [hW0]; exact (DXAt.new w X).step (alloc_below0 _ _))
 have Z0 := Lib.hid (show W0.heap[w.heap.size + 1]? = some (recObj Sc.zero (.slice none 0 0) (.slice none 0 0)) by rw [hW0, ← sz]; exact blk_new _ _)
 have S0 := Lib.hid (show W0.heap.size = w.heap.size + 2 by rw [hW0]; simp)
 have PN := Lib.hid (show pgs.length = X.pn by obtain ⟨_, _, e, -⟩ := hp.lenform; exact (Value.slice.inj e).2.1.symm)
 have P0 := Lib.hid (hp.below B0.out)
 have HL := Lib.hid hl
 have RG := Lib.hid (show W0.rangeAt w.heap.size 5 (recCells sc (.slice hra hrn hrc) (.slice hea hen hec)) by have h := X0.out.head; rw [hX] at h; exact h)
 clear sz hl hp hX
 unfold DX.val
 generalize hxl : X.list.toArray = xl at hW0 ⊢
 unfold zrec at hW0
 go_enter Tryz.func49, Tryz.ntmps49
 go_upto_region 1 with (fail)
 rw [← hW0]
 clear hW0
 have T3 := Lib.hid (show (W0.alloc (.cells zrec.toArray 55)).there W0.heap.size 0 15 from n_there_new W0 _ _)
 have L3 := Lib.hid (show ((W0.alloc (.cells zrec.toArray 55)).setCells W0.heap.size 0 (recCells sc (.slice hra hrn hrc) (.slice hea hen hec))).heap[W0.heap.size]? = some (recObj sc (.slice hra hrn hrc) (.slice hea hen hec)) from list_laid (recCells sc (.slice hra hrn hrc) (.slice hea hen hec)) (blk_new W0 _) rfl)
 have Q3 := Lib.hid (show Below W0.heap.size W0 ((W0.alloc (.cells zrec.toArray 55)).setCells W0.heap.size 0 (recCells sc (.slice hra hrn hrc) (.slice hea hen hec))) from below_setCells (Nat.le_refl W0.heap.size) (recCells sc (.slice hra hrn hrc) (.slice hea hen hec)) 0 _ (alloc_below0 W0 _))
 unfold zrec at T3 L3 Q3
 go_upto_region 2 with (first
  | (refine wpList_load_mid rfl 55 (.tmp 5) rfl w.heap.size 5 rfl (recCells sc (.slice hra hrn hrc) (.slice hea hen hec)) _ ?_ Tryz.underlying55 rfl recInfoS ?_; exact RG.out)
  | (refine wpList_store_to rfl 55 (.tmp 3) (.tmp 6) rfl W0.heap.size 0 (recCells sc (.slice hra hrn hrc) (.slice hea hen hec)) rfl rfl ?_ recInfoS (rec_one ..) ?_; exact T3.out; intro W1 hW1; have L1 := Lib.hid (show W1.heap[W0.heap.size]? = some (recObj sc (.slice hra hrn hrc) (.slice hea hen hec)) by rw [hW1]; exact L3.out); have B1 := Lib.hid (show Below W0.heap.size W0 W1 by rw [hW1]; exact Q3.out); clear hW1))
 have X1 := Lib.hid (X0.out.step B1.out)
 have P1 := Lib.hid (P0.out.below B1.out)
 have Z1 := Lib.hid (blk_step Z0.out B1.out)
 clear T3 L3 Q3 RG
 try simp only [Act.put]
 obtain ⟨bb, hbb⟩ : ∃ bb, bb = decide (1 ≤ X.d.fresh ∧ X.d.fresh ≤ (X.pn : Int)) := ⟨_, rfl⟩
 have BV := Lib.hid hbb
 clear hbb
 go_cut [19] from 7 to 19 (fun s19 wc => s19 = .bool bb ∧ wc = W1)
 case first =>
  have y20 := X1.out.cFresh
  have y26 := X1.out.cPgs
  by_cases f1 : 1 ≤ X.d.fresh
  ·by_cases f2 : X.d.fresh ≤ (X.pn : Int)
   ·obtain rfl : bb = true := by rw [BV.out]; exact decide_eq_true ⟨f1, f2⟩
    go_wp2_with fail
    go_meet
    case rel => first | exact ⟨trivial, rfl⟩ | exact ⟨rfl, rfl⟩ | trivial | (simp; done)
   ·obtain rfl : bb = false := by rw [BV.out]; exact decide_eq_false (fun h => f2 h.2)
    go_wp2_with fail
    go_meet
    case rel => first | exact ⟨trivial, rfl⟩ | exact ⟨rfl, rfl⟩ | trivial | (simp; done)
  ·obtain rfl : bb = false := by rw [BV.out]; exact decide_eq_false (fun h => f1 h.1)
   go_wp2_with fail
   go_meet
   case rel => first | exact ⟨trivial, rfl⟩ | exact ⟨rfl, rfl⟩ | trivial | (simp; done)
 case rest =>
  obtain ⟨h19, hW9⟩ := hcut
  subst hW9 h19
  obtain ⟨wu, hwu⟩ : ∃ x, x = wc := ⟨_, rfl⟩
  subst hwu
  go_upto_if 19 with (fail)
  go_cut [] from 20 to 29 (fun wx => wx.heap[W0.heap.size]? = some (recObj (mkSc sc X.d.fresh pgs) (.slice hra hrn hrc) (.slice hea hen hec)) ∧ Kept (fun k => k = W0.heap.size) wu wx)
  case first =>
   have y20 := X1.out.cFresh
   have y26 := X1.out.cPgs
   cases bb with
   | true =>
    obtain ⟨f1, f2⟩ := of_decide_eq_true BV.out.symm
    obtain ⟨f, hf⟩ : ∃ f : Nat, X.d.fresh = (f : Int) + 1 := ⟨(X.d.fresh - 1).toNat, by omega⟩
    obtain ⟨fr, hfr⟩ : ∃ x, x = X.d.fresh := ⟨_, rfl⟩
    rw [← hfr] at y20 f1 f2 hf
    have NF := Lib.hid hfr
    clear hfr
    subst hf
    have sp := P1.out
    obtain ⟨pa, hpa0⟩ : ∃ x, x = X.pa := ⟨_, rfl⟩
    obtain ⟨lb, lo, hpa⟩ := sp.addr (by rw [PN.out]; omega)
    have hfp : f < X.pn := by omega
    obtain ⟨x, hx⟩ : ∃ x, pgs[f]? = some x := ⟨_, List.getElem?_eq_getElem (by rw [PN.out]; exact hfp)⟩
    rw [hpa] at sp y26
    have y21 : wu.cell? ⟨lb, lo + f, none⟩ = some (.int .i64 x) := by simpa [lInt] using sp.cellAt (j := 0) hx rfl
    have HX := Lib.hid hx
    have L5 := Lib.hid (show (wu.setCell ⟨W0.heap.size, 9, none⟩ (.int .i64 x)).heap[W0.heap.size]? = some (recObj { sc with page := x } (.slice hra hrn hrc) (.slice hea hen hec)) from blk_set (cs := (recCells sc (.slice hra hrn hrc) (.slice hea hen hec)).toArray) L1.out 9 (.int .i64 x))
    have MK := Lib.hid (show mkSc sc ((f : Int) + 1) pgs = { sc with page := x } by unfold mkSc; rw [if_pos ⟨by omega, by rw [PN.out]; omega⟩, show ((f : Int) + 1 - 1).toNat = f by omega, List.getD_eq_getElem?_getD, HX.out]; rfl)
    have fz : wu.frozen? ⟨W0.heap.size, 9, none⟩ = false := blk_free (cs := (recCells sc (.slice hra hrn hrc) (.slice hea hen hec)).toArray) L1.out 9
    have wz : wu.cell? ⟨W0.heap.size, 9, none⟩ = some (.int .i64 sc.page) := blk_cell (cs := (recCells sc (.slice hra hrn hrc) (.slice hea hen hec)).toArray) L1.out 9
    have i1 : IntKind.i64.wrap ((f : Int) + 1 - 1) = (f : Int) := by rw [show (f : Int) + 1 - 1 = f by omega]; exact Go.IntWalk.i64_in _ (by have := HL.out; omega)
    have i2' : IntKind.i64.wrap (f : Int) = (f : Int) := Go.IntWalk.i64_in _ (by have := HL.out; omega)
    have fi' : (f : Int) < (X.pn : Int) := by omega
    clear sp hx hpa hpa0
    go_wp2_with fail
    go_meet
    case rel =>
     rw [← NF.out, MK.out]
     first | exact ⟨trivial, L5.out, (Kept.refl _ _).setCell _ _⟩ | exact ⟨L5.out, (Kept.refl _ _).setCell _ _⟩
   | false =>
    have f9 := of_decide_eq_false BV.out.symm
    have MK := Lib.hid (show mkSc sc X.d.fresh pgs = sc by unfold mkSc; rw [if_neg (by rw [PN.out]; exact f9)])
    clear f9
    go_wp2_with fail
    go_meet
    case rel => rw [MK.out]; exact ⟨L1.out, Kept.refl _ _⟩
  case rest =>
   obtain ⟨hm, hk⟩ := hcut
   obtain ⟨wv, hwv⟩ : ∃ x, x = wc := ⟨_, rfl⟩
   subst hwv
   have L2 := Lib.hid (rec_range hm)
   have Z2 := Lib.hid ((hk.block _ (Array.getElem?_eq_some_iff.1 Z1.out).1 (by have := S0.out; omega)).trans Z1.out)
   have B2 := Lib.hid (show Below w.heap.size w wv from (B0.out.trans (B1.out.mono B0.out.size)).trans (hk.below (n := w.heap.size) (fun k (e : k = W0.heap.size) => by have := S0.out; omega) (B0.out.trans (B1.out.mono B0.out.size)).size))
   clear hm hk
   go_wp2_with (first
    | (refine wpList_load_mid rfl 55 (.tmp 3) rfl W0.heap.size 0 rfl (recCells (mkSc sc X.d.fresh pgs) (.slice hra hrn hrc) (.slice hea hen hec)) _ ?_ Tryz.underlying55 rfl recInfoS ?_; exact L2.out)
    | (refine wpList_store_to rfl 55 (.tmp 2) (.tmp 29) rfl (w.heap.size + 1) 0 (recCells (mkSc sc X.d.fresh pgs) (.slice hra hrn hrc) (.slice hea hen hec)) rfl rfl ?_ recInfoS (rec_one ..) ?_; exact blk_there Z2.out 15 (Nat.le_refl _); intro W5 hW5; have L5 := Lib.hid (show W5.heap[w.heap.size + 1]? = some (recObj (mkSc sc X.d.fresh pgs) (.slice hra hrn hrc) (.slice hea hen hec)) by rw [hW5]; exact list_laid (recCells (mkSc sc X.d.fresh pgs) (.slice hra hrn hrc) (.slice hea hen hec)) Z2.out rfl); have B5 := Lib.hid (show Below w.heap.size w W5 by rw [hW5]; exact below_setCells (by omega) _ 0 _ B2.out); clear hW5))
   exact bodyPost_ret (v := recVal (mkSc sc X.d.fresh pgs) (.slice hra hrn hrc) (.slice hea hen hec)) (results_cell1 rfl _ _ (w.heap.size + 1) (recCells (mkSc sc X.d.fresh pgs) (.slice hra hrn hrc) (.slice hea hen hec)) _ rfl (rec_range L5.out) Tryz.underlying55 rfl recInfoS) rfl ⟨rfl, B5.out⟩
def baseR (bs : List RcL) (k : Nat) : RcL := match bs[k]? with
 | some x => { x with sc := { x.sc with ns := 0, ng := 0 } }
 | none => ⟨Sc.zero, none, 0, 0, none, 0, 0⟩
def RcL.val (x : RcL) : Value := recVal x.sc (.slice x.ra x.rn x.rc) (.slice x.ea x.en x.ec)
theorem iBase_any (X : DX) (bs : List RcL) (k : Nat) (w : World) (hb : SV lRec w (.slice X.d.ba X.d.bn X.d.bc) bs) (hk : k ≤ 1000) :
  Calls Tryz.prog 50 #[X.val, .int .i64 (k : Int)] w fun ev w' => ev = .returned (baseR bs k).val ∧ Below w.heap.size w w' := by
 obtain ⟨W0, hW0⟩ : ∃ W, W = ((w.alloc (.cells X.list.toArray 68)).alloc (.cells zrec.toArray 55)).alloc (.cells zrec.toArray 55) := ⟨_, rfl⟩
 have sz : (w.alloc (.cells X.list.toArray 68)).heap.size = w.heap.size + 1 := by simp
 have sz2 : ((w.alloc (.cells X.list.toArray 68)).alloc (.cells zrec.toArray 55)).heap.size = w.heap.size + 1 + 1 := by simp
 have B0 := Lib.hid (show Below w.heap.size w W0 by rw [hW0]; exact ((alloc_below0 w _).trans ((alloc_below0 _ _).mono (by omega))).trans ((alloc_below0 _ _).mono (by omega)))
 have X0 := Lib.hid (show DXAt W0 w.heap.size X by rw [hW0]; exact ((DXAt.new w X).step (alloc_below0 _ _)).step (alloc_below0 _ _))
 have Z0 := Lib.hid (show W0.heap[w.heap.size + 1]? = some (recObj Sc.zero (.slice none 0 0) (.slice none 0 0)) by rw [hW0, ← sz]; exact blk_step (blk_new _ _) (alloc_below0 _ _))
 have R0 := Lib.hid (show W0.heap[w.heap.size + 1 + 1]? = some (recObj Sc.zero (.slice none 0 0) (.slice none 0 0)) by rw [hW0, ← sz2]; exact blk_new _ _)
 have NB := Lib.hid (show bs.length = X.d.bn by obtain ⟨_, _, e, -⟩ := hb.lenform; exact (Value.slice.inj e).2.1.symm)
 have V0 := Lib.hid (hb.below B0.out)
 have K0 := Lib.hid hk
 have y4 := X0.out.cBases
 clear sz sz2 hb hk
 unfold DX.val
 generalize hxl : X.list.toArray = xl at hW0 ⊢
 unfold zrec at hW0
 go_enter Tryz.func50, Tryz.ntmps50
 go_upto_region 2 with (fail)
 have hw0 : (((w.alloc (.cells xl 68)).alloc (.cells #[.int .i64 0, .string ⟨#[]⟩, .string ⟨#[]⟩, .bool false, .int .i64 0, .slice none 0 0, .slice none 0 0, .string ⟨#[]⟩, .string ⟨#[]⟩, .int .i64 0, .int .i64 0, .int .i64 0, .string ⟨#[]⟩, .int .i64 0, .int .i64 0] 55)).alloc (.cells #[.int .i64 0, .string ⟨#[]⟩, .string ⟨#[]⟩, .bool false, .int .i64 0, .slice none 0 0, .slice none 0 0, .string ⟨#[]⟩, .string ⟨#[]⟩, .int .i64 0, .int .i64 0, .int .i64 0, .string ⟨#[]⟩, .int .i64 0, .int .i64 0] 55)) = W0 := hW0.symm
 rw [hw0]
 clear hw0 hW0
 have kk : (k : Int) ≤ 1000 := by have := K0.out; omega
 obtain ⟨ba, hba⟩ : ∃ x, x = X.d.ba := ⟨_, rfl⟩
 rw [← hba] at y4 V0
 clear hba
 by_cases hlt : k < X.d.bn
 ·obtain ⟨lb, lo, hl⟩ := V0.out.addr (by rw [NB.out]; omega)
  subst hl
  obtain ⟨x, hx⟩ : ∃ x, bs[k]? = some x := ⟨_, List.getElem?_eq_getElem (by rw [NB.out]; exact hlt)⟩
  have RB := Lib.hid (show baseR bs k = { x with sc := { x.sc with ns := 0, ng := 0 } } by unfold baseR; rw [hx])
  have RG := Lib.hid (show W0.rangeAt lb (lo + k * 15) x.cells from V0.out.range hx)
  clear hx
  obtain ⟨sc, ra, rn, rc, ea, en, ec⟩ := x
  have L1 := Lib.hid (show (W0.setCells (w.heap.size + 1 + 1) 0 (recCells sc (.slice ra rn rc) (.slice ea en ec))).heap[w.heap.size + 1 + 1]? = some (recObj sc (.slice ra rn rc) (.slice ea en ec)) from list_laid (recCells sc (.slice ra rn rc) (.slice ea en ec)) (cs := zrec.toArray) R0.out rfl)
  go_upto_region 4 with (first
   | (refine wpList_load_mid rfl 55 (.tmp 17) rfl lb (lo + k * 15) rfl (recCells sc (.slice ra rn rc) (.slice ea en ec)) _ ?_ Tryz.underlying55 rfl recInfoS ?_; exact RG.out)
   | (refine wpList_store_to rfl 55 (.tmp 5) (.tmp 18) rfl (w.heap.size + 1 + 1) 0 (recCells sc (.slice ra rn rc) (.slice ea en ec)) rfl rfl ?_ recInfoS (rec_one ..) ?_; exact blk_there (cs := zrec.toArray) R0.out 15 (by decide); intro W1 hW1; have R1 := Lib.hid (show W1.heap[w.heap.size + 1 + 1]? = some (recObj sc (.slice ra rn rc) (.slice ea en ec)) by rw [hW1]; exact L1.out); have KB := Lib.hid (show Kept (fun j => j = w.heap.size + 1 + 1) W0 W1 by rw [hW1]; exact Kept.setCells _ _ _ (Kept.refl _ _)); clear hW1))
  clear y4
  go_upto_region 5 with (refine wpList_store_to rfl 48 (.tmp 20) (.tmp 19) rfl (w.heap.size + 1 + 1) 13 [.int .i64 0, .int .i64 0] rfl rfl ?_ refInfoS (by kernel_rfl) ?_; exact blk_thereN (cs := (recCells sc (.slice ra rn rc) (.slice ea en ec)).toArray) R1.out 13 2 (by show 13 + 2 ≤ 15; decide); intro W2 hW2; have R2 := Lib.hid (show W2.heap[w.heap.size + 1 + 1]? = some (recObj { sc with ns := 0, ng := 0 } (.slice ra rn rc) (.slice ea en ec)) by rw [hW2]; exact blk_set (blk_set (cs := (recCells sc (.slice ra rn rc) (.slice ea en ec)).toArray) R1.out 13 (.int .i64 0)) 14 (.int .i64 0)); have KC := Lib.hid (show Kept (fun j => j = w.heap.size + 1 + 1) W0 W2 by rw [hW2]; exact Kept.setCells _ _ _ KB.out); clear hW2)
  have B2 := Lib.hid (B0.out.trans (KC.out.below (n := w.heap.size) (fun j (e : j = w.heap.size + 1 + 1) => by omega) B0.out.size))
  have Z2 := Lib.hid ((KC.out.block _ (Array.getElem?_eq_some_iff.1 Z0.out).1 (by omega)).trans Z0.out)
  have L2 := Lib.hid (rec_range R2.out)
  go_wp2_with (first
   | (refine wpList_load_mid rfl 55 (.tmp 5) rfl (w.heap.size + 1 + 1) 0 rfl (recCells { sc with ns := 0, ng := 0 } (.slice ra rn rc) (.slice ea en ec)) _ ?_ Tryz.underlying55 rfl recInfoS ?_; exact L2.out)
   | (refine wpList_store_to rfl 55 (.tmp 4) (.tmp 21) rfl (w.heap.size + 1) 0 (recCells { sc with ns := 0, ng := 0 } (.slice ra rn rc) (.slice ea en ec)) rfl rfl ?_ recInfoS (rec_one ..) ?_; exact blk_there Z2.out 15 (Nat.le_refl _); intro W5 hW5; have L5 := Lib.hid (show W5.heap[w.heap.size + 1]? = some (recObj { sc with ns := 0, ng := 0 } (.slice ra rn rc) (.slice ea en ec)) by rw [hW5]; exact list_laid (recCells { sc with ns := 0, ng := 0 } (.slice ra rn rc) (.slice ea en ec)) Z2.out rfl); have B5 := Lib.hid (show Below w.heap.size w W5 by rw [hW5]; exact below_setCells (by omega) _ 0 _ B2.out); clear hW5))
  refine bodyPost_ret (v := recVal { sc with ns := 0, ng := 0 } (.slice ra rn rc) (.slice ea en ec)) (results_cell1 rfl _ _ (w.heap.size + 1) (recCells { sc with ns := 0, ng := 0 } (.slice ra rn rc) (.slice ea en ec)) _ rfl (rec_range L5.out) Tryz.underlying55 rfl recInfoS) rfl ⟨?_, B5.out⟩
  rw [RB.out]; rfl
 ·have RB := Lib.hid (show baseR bs k = ⟨Sc.zero, none, 0, 0, none, 0, 0⟩ by unfold baseR; rw [List.getElem?_eq_none (by rw [NB.out]; omega)])
  go_upto_region 4 with (fail)
  clear y4
  have R1 := Lib.hid R0.out
  have KB := Lib.hid (Kept.refl (fun j => j = w.heap.size + 1 + 1) W0)
  go_upto_region 5 with (refine wpList_store_to rfl 48 (.tmp 20) (.tmp 19) rfl (w.heap.size + 1 + 1) 13 [.int .i64 0, .int .i64 0] rfl rfl ?_ refInfoS (by kernel_rfl) ?_; exact blk_thereN (cs := (recCells Sc.zero (.slice none 0 0) (.slice none 0 0)).toArray) R1.out 13 2 (by show 13 + 2 ≤ 15; decide); intro W2 hW2; have R2 := Lib.hid (show W2.heap[w.heap.size + 1 + 1]? = some (recObj Sc.zero (.slice none 0 0) (.slice none 0 0)) by rw [hW2]; exact blk_set (blk_set (cs := (recCells Sc.zero (.slice none 0 0) (.slice none 0 0)).toArray) R1.out 13 (.int .i64 0)) 14 (.int .i64 0)); have KC := Lib.hid (show Kept (fun j => j = w.heap.size + 1 + 1) W0 W2 by rw [hW2]; exact Kept.setCells _ _ _ KB.out); clear hW2)
  have B2 := Lib.hid (B0.out.trans (KC.out.below (n := w.heap.size) (fun j (e : j = w.heap.size + 1 + 1) => by omega) B0.out.size))
  have Z2 := Lib.hid ((KC.out.block _ (Array.getElem?_eq_some_iff.1 Z0.out).1 (by omega)).trans Z0.out)
  have L2 := Lib.hid (rec_range R2.out)
  go_wp2_with (first
   | (refine wpList_load_mid rfl 55 (.tmp 5) rfl (w.heap.size + 1 + 1) 0 rfl (recCells Sc.zero (.slice none 0 0) (.slice none 0 0)) _ ?_ Tryz.underlying55 rfl recInfoS ?_; exact L2.out)
   | (refine wpList_store_to rfl 55 (.tmp 4) (.tmp 21) rfl (w.heap.size + 1) 0 (recCells Sc.zero (.slice none 0 0) (.slice none 0 0)) rfl rfl ?_ recInfoS (rec_one ..) ?_; exact blk_there Z2.out 15 (Nat.le_refl _); intro W5 hW5; have L5 := Lib.hid (show W5.heap[w.heap.size + 1]? = some (recObj Sc.zero (.slice none 0 0) (.slice none 0 0)) by rw [hW5]; exact list_laid (recCells Sc.zero (.slice none 0 0) (.slice none 0 0)) Z2.out rfl); have B5 := Lib.hid (show Below w.heap.size w W5 by rw [hW5]; exact below_setCells (by omega) _ 0 _ B2.out); clear hW5))
  refine bodyPost_ret (v := recVal Sc.zero (.slice none 0 0) (.slice none 0 0)) (results_cell1 rfl _ _ (w.heap.size + 1) (recCells Sc.zero (.slice none 0 0) (.slice none 0 0)) _ rfl (rec_range L5.out) Tryz.underlying55 rfl recInfoS) rfl ⟨?_, B5.out⟩
  rw [RB.out]; rfl
open Go.RowKit
structure MX where
 l : LimN
 qa : Option Addr
 qn : Nat
 qc : Nat
 ta : Option Addr
 tn : Nat
 tc : Nat
 cn : Int
 cl : Int
 ca : Option Addr
 cm : Nat
 cc : Nat
 count : Int
def MX.list (Y : MX) : List Value := [.int .i64 (Y.l.s : Int), .int .i64 (Y.l.p : Int), .int .i64 (Y.l.t : Int), .int .i64 (Y.l.r : Int), .int .i64 (Y.l.h : Int), .int .i64 (Y.l.c : Int), .int .i64 (Y.l.s : Int), .int .i64 (Y.l.c : Int), .slice Y.qa Y.qn Y.qc, .int .i64 (Y.l.p : Int), .slice Y.ta Y.tn Y.tc, .int .i64 Y.cn, .int .i64 Y.cl, .slice Y.ca Y.cm Y.cc, .int .i64 Y.count]
def MX.val (Y : MX) : Value := .agg Y.list.toArray
theorem MX.one (Y : MX) : Y.list.toArray.all (fun x => x.oneCell') = true := all_oneCell_toArray fun u hu => by
 simp only [MX.list, List.mem_cons, List.not_mem_nil, or_false] at hu
 rcases hu with h | h | h | h | h | h | h | h | h | h | h | h | h | h | h <;> (subst h; rfl)
theorem MX.info (Y : MX) : (Tryz.prog.info? 43).map (·.size) = some Y.list.length := (by kernel_rfl : (Tryz.prog.info? 43).map (·.size) = some 15)
def MX.zero : MX := ⟨⟨0, 0, 0, 0, 0, 0⟩, none, 0, 0, none, 0, 0, 0, 0, none, 0, 0, 0⟩
structure MXAt (w : World) (b : Nat) (Y : MX) : Prop where
 blk : w.heap[b]? = some (.cells Y.list.toArray 43 (0, 0))
section
variable {w w' : World} {b : Nat} {Y : MX}
theorem MXAt.lt (h : MXAt w b Y) : b < w.heap.size := (Array.getElem?_eq_some_iff.1 h.blk).1
theorem MXAt.step (h : MXAt w b Y) (hs : Below w.heap.size w w') : MXAt w' b Y := ⟨blk_step h.blk hs⟩
theorem MXAt.new (w : World) (Y : MX) : MXAt (w.alloc (.cells Y.list.toArray 43)) w.heap.size Y := ⟨blk_new w _⟩
theorem MXAt.rng (h : MXAt w b Y) : w.rangeAt b 0 Y.list := blk_rng h.blk
theorem MXAt.there (h : MXAt w b Y) : w.there b 0 Y.list.length := blk_there h.blk _ (Nat.le_refl _)
theorem MXAt.free (h : MXAt w b Y) (o : Nat) : w.frozen? ⟨b, o, none⟩ = false := blk_free h.blk o
theorem MXAt.cCount (h : MXAt w b Y) : w.cell? ⟨b, 14, none⟩ = some (.int .i64 Y.count) := blk_cell h.blk 14
theorem MXAt.arena (h : MXAt w b Y) : w.rangeAt b 6 [.int .i64 (Y.l.s : Int), .int .i64 (Y.l.c : Int), .slice Y.qa Y.qn Y.qc] := fun j u hj => by
 have hl : j < 3 := (List.getElem?_eq_some_iff.1 hj).1
 match j, hl, hj with
 | 0, _, hj => exact (blk_cell h.blk 6).trans hj
 | 1, _, hj => exact (blk_cell h.blk 7).trans hj
 | 2, _, hj => exact (blk_cell h.blk 8).trans hj
theorem MXAt.table (h : MXAt w b Y) : w.rangeAt b 9 [.int .i64 (Y.l.p : Int), .slice Y.ta Y.tn Y.tc] := fun j u hj => by
 have hl : j < 2 := (List.getElem?_eq_some_iff.1 hj).1
 match j, hl, hj with
 | 0, _, hj => exact (blk_cell h.blk 9).trans hj
 | 1, _, hj => exact (blk_cell h.blk 10).trans hj
theorem MXAt.setCount (h : MXAt w b Y) (v : Int) : MXAt (w.setCell ⟨b, 14, none⟩ (.int .i64 v)) b { Y with count := v } := ⟨blk_set h.blk 14 (.int .i64 v)⟩
theorem MXAt.setArena (h : MXAt w b Y) (a : Option Addr) (n c : Nat) : MXAt (w.setCells b 6 [.int .i64 (Y.l.s : Int), .int .i64 (Y.l.c : Int), .slice a n c]) b { Y with qa := a, qn := n, qc := c } := ⟨blk_set (blk_set (blk_set h.blk 6 (.int .i64 (Y.l.s : Int))) 7 (.int .i64 (Y.l.c : Int))) 8 (.slice a n c)⟩
theorem MXAt.setTable (h : MXAt w b Y) (a : Option Addr) (n c : Nat) : MXAt (w.setCells b 9 [.int .i64 (Y.l.p : Int), .slice a n c]) b { Y with ta := a, tn := n, tc := c } := ⟨blk_set (blk_set h.blk 9 (.int .i64 (Y.l.p : Int))) 10 (.slice a n c)⟩
theorem MXAt.keep (h : MXAt w b Y) {S : Nat → Prop} (hk : Kept S w w') (hn : ¬ S b) : MXAt w' b Y := ⟨(hk.block b h.lt hn).trans h.blk⟩
theorem DXAt.keep {X : DX} (h : DXAt w b X) {S : Nat → Prop} (hk : Kept S w w') (hn : ¬ S b) : DXAt w' b X := ⟨(hk.block b h.lt hn).trans h.blk⟩
end
theorem mx_laid {w : World} {b : Nat} {Z : MX} (h : MXAt w b Z) (Y : MX) : MXAt (w.setCells b 0 Y.list) b Y := ⟨list_laid Y.list h.blk rfl⟩
structure SA (w0 w : World) (X : DX) (Y : MX) : Prop where
 i : DXAt w w0.heap.size X
 m : MXAt w (w0.heap.size + 1) Y
 ri : DXAt w (w0.heap.size + 2) DX.zero
 rm : MXAt w (w0.heap.size + 3) MX.zero
 below : Below w0.heap.size w0 w
 sz : w0.heap.size + 4 ≤ w.heap.size
section
variable {w0 w w' : World} {X X' : DX} {Y Y' : MX}
theorem SA.low (h : SA w0 w X Y) (hs : Below w.heap.size w w') : SA w0 w' X Y :=
 ⟨h.i.step hs, h.m.step hs, h.ri.step hs, h.rm.step hs, h.below.trans (hs.mono h.below.size), Nat.le_trans h.sz hs.size⟩
theorem SA.putI (h : SA w0 w X Y) (hk : Kept (fun k => k = w0.heap.size) w w') (hi : DXAt w' w0.heap.size X') : SA w0 w' X' Y :=
 ⟨hi, h.m.keep hk (show ¬ w0.heap.size + 1 = w0.heap.size by omega), h.ri.keep hk (show ¬ w0.heap.size + 2 = w0.heap.size by omega), h.rm.keep hk (show ¬ w0.heap.size + 3 = w0.heap.size by omega), h.below.trans (hk.below (n := w0.heap.size) (fun k (e : k = w0.heap.size) => Nat.le_of_eq e.symm) h.below.size), Nat.le_trans h.sz hk.size⟩
theorem SA.putM (h : SA w0 w X Y) (hk : Kept (fun k => k = w0.heap.size + 1) w w') (hm : MXAt w' (w0.heap.size + 1) Y') : SA w0 w' X Y' :=
 ⟨h.i.keep hk (show ¬ w0.heap.size = w0.heap.size + 1 by omega), hm, h.ri.keep hk (show ¬ w0.heap.size + 2 = w0.heap.size + 1 by omega), h.rm.keep hk (show ¬ w0.heap.size + 3 = w0.heap.size + 1 by omega), h.below.trans (hk.below (n := w0.heap.size) (fun k (e : k = w0.heap.size + 1) => by omega) h.below.size), Nat.le_trans h.sz hk.size⟩
theorem SA.over (h : SA w0 w X Y) (v : Bool) : SA w0 (w.setCell ⟨w0.heap.size, 23, none⟩ (.bool v)) { X with over := v } Y := h.putI ((Kept.refl _ _).setCell _ _) (h.i.setOver v)
theorem SA.done (h : SA w0 w X Y) (v : Bool) : SA w0 (w.setCell ⟨w0.heap.size, 24, none⟩ (.bool v)) { X with done := v } Y := h.putI ((Kept.refl _ _).setCell _ _) (h.i.setDone v)
theorem SA.pgs (h : SA w0 w X Y) (a : Option Addr) (n c : Nat) : SA w0 (w.setCell ⟨w0.heap.size, 26, none⟩ (.slice a n c)) { X with pa := a, pn := n, pc := c } Y := h.putI ((Kept.refl _ _).setCell _ _) (h.i.setPgs a n c)
theorem SA.rfs (h : SA w0 w X Y) (a : Option Addr) (n c : Nat) : SA w0 (w.setCell ⟨w0.heap.size, 27, none⟩ (.slice a n c)) { X with ra := a, rn := n, rc := c } Y := h.putI ((Kept.refl _ _).setCell _ _) (h.i.setRfs a n c)
theorem SA.links (h : SA w0 w X Y) (v : Int) : SA w0 (w.setCell ⟨w0.heap.size, 28, none⟩ (.int .i64 v)) { X with links := v } Y := h.putI ((Kept.refl _ _).setCell _ _) (h.i.setLinks v)
theorem SA.count (h : SA w0 w X Y) (v : Int) : SA w0 (w.setCell ⟨w0.heap.size + 1, 14, none⟩ (.int .i64 v)) X { Y with count := v } := h.putM ((Kept.refl _ _).setCell _ _) (h.m.setCount v)
theorem SA.arena (h : SA w0 w X Y) (a : Option Addr) (n c : Nat) : SA w0 (w.setCells (w0.heap.size + 1) 6 [.int .i64 (Y.l.s : Int), .int .i64 (Y.l.c : Int), .slice a n c]) X { Y with qa := a, qn := n, qc := c } := h.putM (Kept.setCells _ _ _ (Kept.refl _ _)) (h.m.setArena a n c)
theorem SA.table (h : SA w0 w X Y) (a : Option Addr) (n c : Nat) : SA w0 (w.setCells (w0.heap.size + 1) 9 [.int .i64 (Y.l.p : Int), .slice a n c]) X { Y with ta := a, tn := n, tc := c } := h.putM (Kept.setCells _ _ _ (Kept.refl _ _)) (h.m.setTable a n c)
structure SR (w0 w : World) (X : DX) (Y : MX) : Prop where
 ri : DXAt w (w0.heap.size + 2) X
 rm : MXAt w (w0.heap.size + 3) Y
 below : Below w0.heap.size w0 w
end
theorem results_cell2 {fn : Func} {p p2 : Tmp} {ty ty2 : TypeId} (h : fn.results = #[.cell p ty, .cell p2 ty2]) (tmps : Array Value) (w : World) (b b2 : Nat) (cs cs2 : List Value) (d d2 : TypeDesc) (hp : tmps.getD p undef = .pointer (some ⟨b, 0, none⟩)) (hp2 : tmps.getD p2 undef = .pointer (some ⟨b2, 0, none⟩)) (hc : w.rangeAt b 0 cs) (hc2 : w.rangeAt b2 0 cs2)
  (hu : Tryz.prog.underlying ty = some d) (hd : d.isRow = true) (hi : (Tryz.prog.info? ty).map (·.size) = some cs.length) (hu2 : Tryz.prog.underlying ty2 = some d2) (hd2 : d2.isRow = true) (hi2 : (Tryz.prog.info? ty2).map (·.size) = some cs2.length) : (results fn tmps).run Tryz.prog w = .ok (.tuple #[.agg cs.toArray, .agg cs2.toArray]) w := by
 have hl := run_loadVar_mid w b 0 ty cs d hc hu hd hi
 have hl2 := run_loadVar_mid w b2 0 ty2 cs2 d2 hc2 hu2 hd2 hi2
 have hp' : tmps[p]?.getD undef = .pointer (some ⟨b, 0, none⟩) := by simpa using hp
 have hp2' : tmps[p2]?.getD undef = .pointer (some ⟨b2, 0, none⟩) := by simpa using hp2
 simp only [results, h]
 simp [hp', hp2', asAddr, hl, hl2, Result.andThen]
open Go.RowKit
structure DocS (w0 w : World) (T : Nat → Prop) (X : DX) (Y : MX) (D : DI) (ps : List Pt) (L : List Pg) (us : List PuD) (ups : List Up) : Prop where
 bl : Below w0.heap.size w0 w
 lo : ∀ k, T k → w0.heap.size ≤ k
 hi : ∀ k, T k → k < w.heap.size
 back : X.back = D.back
 over : X.over = D.over
 done : X.done = D.done
 err : X.err = D.err
 links : X.links = D.links
 pg : SV lInt w (.slice X.pa X.pn X.pc) D.pgs
 po : OutL w T (.slice X.pa X.pn X.pc)
 rf : SV lRef w (.slice X.ra X.rn X.rc) D.rfs
 ro : OutL w T (.slice X.ra X.rn X.rc)
 ar : SV lPut w (.slice Y.qa Y.qn Y.qc) us
 ao : OutL w T (.slice Y.qa Y.qn Y.qc)
 rc : ∀ e ∈ us, SV lRow w0 e.rv e.rows ∧ SV lEnt w0 e.en e.ents
 am : us.map PuD.pt = ps
 tb : OwnS lUp 0 w (.slice Y.ta Y.tn Y.tc) ups
 ot : OutL w T (.slice Y.ta Y.tn Y.tc)
 rk : RefOk ups L
 ln : L.length = Y.l.p
theorem OutL.same {w : World} {T : Nat → Prop} {a : Option Addr} {n c n' c' : Nat} (h : OutL w T (.slice a n c)) : OutL w T (.slice a n' c') := fun x m d e => by
 obtain ⟨rfl, rfl, rfl⟩ := Value.slice.inj e
 exact h x n c rfl
theorem OwnS.outN {α : Type} {E : Lay α} {base : Nat} {w : World} {v : Value} {xs : List α} (h : OwnS E base w v xs) {T : Nat → Prop} (hT : ∀ k, T k → k < base) : OutL w T v := fun x m d e => by
 have := h.bounds x.block (by rw [e]; rfl)
 exact ⟨fun ht => by have := hT _ ht; omega, this.2⟩
section
variable {w0 w w' : World} {T T' : Nat → Prop} {X : DX} {Y : MX} {D : DI} {ps : List Pt} {L : List Pg} {us us' : List PuD} {ups ups' : List Up}
theorem DocS.puts (h : DocS w0 w T X Y D ps L us ups) : PutsV w (.slice Y.qa Y.qn Y.qc) us := ⟨h.ar, fun e he => ⟨(h.rc e he).1.below h.bl, (h.rc e he).2.below h.bl⟩⟩
theorem DocS.grow (h : DocS w0 w T X Y D ps L us ups) {S : Nat → Prop} (hk : Kept S w w') (hS : ∀ k, S k → T k) (hT : ∀ k, T' k → T k ∨ w.heap.size ≤ k) (hT2 : ∀ k, T' k → k < w'.heap.size) : DocS w0 w' T' X Y D ps L us ups :=
 { h with
  bl := h.bl.trans (hk.below (fun k hs => h.lo k (hS k hs)) h.bl.size)
  lo := fun k hk2 => (hT k hk2).elim (h.lo k) (fun e => Nat.le_trans h.bl.size e)
  hi := hT2
  pg := h.pg.kept hk (h.po.out hS)
  po := h.po.grow hk.size hT
  rf := h.rf.kept hk (h.ro.out hS)
  ro := h.ro.grow hk.size hT
  ar := h.ar.kept hk (h.ao.out hS)
  ao := h.ao.grow hk.size hT
  tb := h.tb.kept hk (h.ot.out hS)
  ot := h.ot.grow hk.size hT }
theorem DocS.keep (h : DocS w0 w T X Y D ps L us ups) {S : Nat → Prop} (hk : Kept S w w') (hS : ∀ k, S k → T k) : DocS w0 w' T X Y D ps L us ups := h.grow hk hS (fun _ h => .inl h) (fun k hk2 => Nat.lt_of_lt_of_le (h.hi k hk2) hk.size)
theorem DocS.low (h : DocS w0 w T X Y D ps L us ups) (hs : Below w.heap.size w w') : DocS w0 w' T X Y D ps L us ups := h.keep (Kept.of_below (S := fun _ => False) hs) (fun _ q => q.elim)
def boxT (T : Nat → Prop) (n : Nat) : Nat → Prop := fun k => T k ∨ (n ≤ k ∧ k < n + 4)
theorem DocS.boxes (h : DocS w0 w T X Y D ps L us ups) (hs : Below w.heap.size w w') (hz : w.heap.size + 4 ≤ w'.heap.size) : DocS w0 w' (boxT T w.heap.size) X Y D ps L us ups :=
 h.grow (Kept.of_below (S := fun _ => False) hs) (fun _ q => q.elim) (fun k hk => hk.elim .inl (fun e => .inr e.1)) (fun k hk => hk.elim (fun e => Nat.lt_of_lt_of_le (h.hi k e) hs.size) (fun e => Nat.lt_of_lt_of_le e.2 hz))
theorem DocS.tight (h : DocS w0 w T X Y D ps L us ups) (hT : ∀ k, T' k → T k) : DocS w0 w T' X Y D ps L us ups := h.grow (Kept.refl (fun _ => False) w) (fun _ q => q.elim) (fun k hk => .inl (hT k hk)) (fun k hk => h.hi k (hT k hk))
theorem DocS.unbox {n : Nat} (h : DocS w0 w (boxT T n) X Y D ps L us ups) : DocS w0 w T X Y D ps L us ups := h.tight fun _ => .inl
theorem boxT.i {n : Nat} : ∀ k, k = n → boxT T n k := fun k e => .inr (by omega)
theorem boxT.m {n : Nat} : ∀ k, k = n + 1 → boxT T n k := fun k e => .inr (by omega)
theorem boxT.ri {n : Nat} : ∀ k, k = n + 2 → boxT T n k := fun k e => .inr (by omega)
theorem boxT.rm {n : Nat} : ∀ k, k = n + 3 → boxT T n k := fun k e => .inr (by omega)
theorem DocS.arena (h : DocS w0 w T X Y D ps L us ups) {a : Option Addr} {n c m : Nat} (hv : SV lPut w (.slice a n c) us') (ho : OwnS lPut m w (.slice a n c) us' ∨ .slice a n c = Value.slice Y.qa Y.qn Y.qc) (hm : ∀ k, T k → k < m) (hr : ∀ e ∈ us', SV lRow w0 e.rv e.rows ∧ SV lEnt w0 e.en e.ents) : DocS w0 w T X { Y with qa := a, qn := n, qc := c } D (us'.map PuD.pt) L us' ups :=
 { h with
  ar := hv
  ao := by
   rcases ho with ho | ho
   ·exact ho.outN hm
   ·show OutL w T (.slice a n c)
    rw [ho]; exact h.ao
  rc := hr
  am := rfl }
theorem DocS.table (h : DocS w0 w T X Y D ps L us ups) {a : Option Addr} {n c m : Nat} {L' : List Pg} (hv : OwnS lUp 0 w (.slice a n c) ups') (ho : OwnS lUp m w (.slice a n c) ups' ∨ .slice a n c = Value.slice Y.ta Y.tn Y.tc) (hm : ∀ k, T k → k < m) (hk : RefOk ups' L') (hl : L'.length = L.length) : DocS w0 w T X { Y with ta := a, tn := n, tc := c } D ps L' us ups' :=
 { h with
  tb := hv
  ot := by
   rcases ho with ho | ho
   ·exact ho.outN hm
   ·show OutL w T (.slice a n c)
    rw [ho]; exact h.ot
  rk := hk
  ln := hl.trans h.ln }
theorem DocS.count (h : DocS w0 w T X Y D ps L us ups) (v : Int) : DocS w0 w T X { Y with count := v } D ps L us ups := { h with }
theorem DocS.setOver (h : DocS w0 w T X Y D ps L us ups) {v u : Bool} (e : v = u) : DocS w0 w T { X with over := v } Y { D with over := u } ps L us ups := { h with over := e }
theorem DocS.setDone (h : DocS w0 w T X Y D ps L us ups) (v : Bool) : DocS w0 w T { X with done := v } Y { D with done := v } ps L us ups := { h with done := rfl }
theorem DocS.setLinks (h : DocS w0 w T X Y D ps L us ups) (v : Int) : DocS w0 w T { X with links := v } Y { D with links := v } ps L us ups := { h with links := rfl }
theorem DocS.pn (h : DocS w0 w T X Y D ps L us ups) : X.pn = D.pgs.length := by obtain ⟨_, _, e, -⟩ := h.pg.lenform; exact (Value.slice.inj e).2.1
theorem DocS.rn (h : DocS w0 w T X Y D ps L us ups) : X.rn = D.rfs.length := by obtain ⟨_, _, e, -⟩ := h.rf.lenform; exact (Value.slice.inj e).2.1
theorem DocS.backE (h : DocS w0 w T X Y D ps L us ups) (e : Int) : DocS w0 w T (X.backE e) Y (D.backE e) ps L us ups :=
 { h with
  back := rfl
  err := rfl
  over := by
   show ((X.rn : Int) + (X.pn : Int) == 0) = decide (D.rfs.length + D.pgs.length = 0)
   rw [h.pn, h.rn]
   show decide ((D.rfs.length : Int) + (D.pgs.length : Int) = 0) = _
   exact decide_eq_decide.2 ⟨fun q => by omega, fun q => by omega⟩ }
theorem DocS.cutP (h : DocS w0 w T X Y D ps L us ups) {k : Nat} (hk : k ≤ D.pgs.length) : DocS w0 w T { X with pn := k } Y { D with pgs := D.pgs.take k } ps L us ups := { h with pg := h.pg.takeV hk, po := h.po.same }
theorem DocS.cutR (h : DocS w0 w T X Y D ps L us ups) {k : Nat} (hk : k ≤ D.rfs.length) : DocS w0 w T { X with rn := k } Y { D with rfs := D.rfs.take k } ps L us ups := { h with rf := h.rf.takeV hk, ro := h.ro.same }
theorem DocS.newP (h : DocS w0 w T X Y D ps L us ups) {a : Option Addr} {n c m : Nat} {xs : List Int} (ho : OwnS lInt m w (.slice a n c) xs) (hm : ∀ k, T k → k < m) : DocS w0 w T { X with pa := a, pn := n, pc := c } Y { D with pgs := xs } ps L us ups := { h with pg := ho.sv, po := ho.outN hm }
theorem DocS.newR (h : DocS w0 w T X Y D ps L us ups) {a : Option Addr} {n c m : Nat} {xs : List Rf} (ho : OwnS lRef m w (.slice a n c) xs) (hm : ∀ k, T k → k < m) : DocS w0 w T { X with ra := a, rn := n, rc := c } Y { D with rfs := xs } ps L us ups := { h with rf := ho.sv, ro := ho.outN hm }
end
def StepR (w0 w : World) (T : Nat → Prop) (ds : List RecD) (hd : RecD) (X : DX) (Y : MX) (D : DI) (ps : List Pt) (L : List Pg) (us : List PuD) (ups : List Up) (ev : Ending) (w' : World) : Prop :=
 ∃ X' Y' us' ups', ev = .returned (.tuple #[X'.val, Y'.val]) ∧ X'.d = X.d ∧ Y'.l = Y.l ∧ Y'.count = (if D.over = true then Y.count else IntKind.i64.wrap (Y.count + 1)) ∧ DocS w0 w' T X' Y' (D.step Y.l X.d ds hd ps L).1 (D.step Y.l X.d ds hd ps L).2.1 (D.step Y.l X.d ds hd ps L).2.2 us' ups' ∧ us'.length ≤ us.length + 1 ∧ ups'.length ≤ ups.length + 1 ∧ Below w.heap.size w w'
theorem StepR.mk' {w0 w w' : World} {T : Nat → Prop} {ds : List RecD} {hd : RecD} {X : DX} {Y : MX} {D : DI} {ps : List Pt} {L : List Pg} {us : List PuD} {ups : List Up} {ev : Ending} {D' : DI} {ps' : List Pt} {L' : List Pg} (hst : D.step Y.l X.d ds hd ps L = (D', ps', L')) (X' : DX) (Y' : MX) (us' : List PuD) (ups' : List Up)
  (he : ev = .returned (.tuple #[X'.val, Y'.val])) (h1 : X'.d = X.d) (h2 : Y'.l = Y.l) (hc : Y'.count = (if D.over = true then Y.count else IntKind.i64.wrap (Y.count + 1))) (hD : DocS w0 w' T X' Y' D' ps' L' us' ups') (h3 : us'.length ≤ us.length + 1) (h4 : ups'.length ≤ ups.length + 1) (hb : Below w.heap.size w w') : StepR w0 w T ds hd X Y D ps L us ups ev w' :=
 ⟨X', Y', us', ups', he, h1, h2, hc, by rw [hst]; exact hD, h3, h4, hb⟩
theorem SA.start (w : World) (X : DX) (Y : MX) : SA w ((((w.alloc (.cells X.list.toArray 68)).alloc (.cells Y.list.toArray 43)).alloc (.cells DX.zero.list.toArray 68)).alloc (.cells MX.zero.list.toArray 43)) X Y := by
 obtain ⟨w1, hw1⟩ : ∃ x, x = w.alloc (.cells X.list.toArray 68) := ⟨_, rfl⟩
 obtain ⟨w2, hw2⟩ : ∃ x, x = w1.alloc (.cells Y.list.toArray 43) := ⟨_, rfl⟩
 obtain ⟨w3, hw3⟩ : ∃ x, x = w2.alloc (.cells DX.zero.list.toArray 68) := ⟨_, rfl⟩
 have z1 : w1.heap.size = w.heap.size + 1 := by rw [hw1]; simp
 have z2 : w2.heap.size = w.heap.size + 2 := by rw [hw2]; simp [z1]
 have z3 : w3.heap.size = w.heap.size + 3 := by rw [hw3]; simp [z2]
 have b1 : Below w.heap.size w w1 := by rw [hw1]; exact alloc_below0 _ _
 have b2 : Below w1.heap.size w1 w2 := by rw [hw2]; exact alloc_below0 _ _
 have b3 : Below w2.heap.size w2 w3 := by rw [hw3]; exact alloc_below0 _ _
 have k0 : DXAt w1 w.heap.size X := by rw [hw1]; exact DXAt.new w X
 have k1 : MXAt w2 (w.heap.size + 1) Y := by rw [hw2, ← z1]; exact MXAt.new w1 Y
 have k2 : DXAt w3 (w.heap.size + 2) DX.zero := by rw [hw3, ← z2]; exact DXAt.new w2 _
 rw [← hw1, ← hw2, ← hw3]
 have b4 := alloc_below0 w3 (.cells MX.zero.list.toArray 43)
 exact ⟨((k0.step b2).step b3).step b4, (k1.step b3).step b4, k2.step b4, by rw [← z3]; exact MXAt.new w3 _, (b1.trans (b2.mono b1.size)).trans ((b3.trans (b4.mono b3.size)).mono (by omega)), by simp [z3]⟩
section
variable {w0 w w' : World} {X : DX} {Y : MX}
structure SQ (w0 w : World) (X : DX) (Y : MX) : Prop where
 i : DXAt w w0.heap.size X
 m : MXAt w (w0.heap.size + 1) Y
 ri : DXAt w (w0.heap.size + 2) X
 rm : MXAt w (w0.heap.size + 3) MX.zero
 below : Below w0.heap.size w0 w
theorem SA.ri' (h : SA w0 w X Y) : SQ w0 (w.setCells (w0.heap.size + 2) 0 X.list) X Y :=
 have hk : Kept (fun k => k = w0.heap.size + 2) w (w.setCells (w0.heap.size + 2) 0 X.list) := Kept.setCells _ _ _ (Kept.refl _ _)
 ⟨h.i.keep hk (show ¬ w0.heap.size = w0.heap.size + 2 by omega), h.m.keep hk (show ¬ w0.heap.size + 1 = w0.heap.size + 2 by omega), dx_laid h.ri X, h.rm.keep hk (show ¬ w0.heap.size + 3 = w0.heap.size + 2 by omega), h.below.trans (hk.below (n := w0.heap.size) (fun k (e : k = w0.heap.size + 2) => by omega) h.below.size)⟩
theorem SQ.rm' (h : SQ w0 w X Y) : SR w0 (w.setCells (w0.heap.size + 3) 0 Y.list) X Y ∧ DXAt (w.setCells (w0.heap.size + 3) 0 Y.list) w0.heap.size X ∧ MXAt (w.setCells (w0.heap.size + 3) 0 Y.list) (w0.heap.size + 1) Y :=
 have hk : Kept (fun k => k = w0.heap.size + 3) w (w.setCells (w0.heap.size + 3) 0 Y.list) := Kept.setCells _ _ _ (Kept.refl _ _)
 ⟨⟨h.ri.keep hk (show ¬ w0.heap.size + 2 = w0.heap.size + 3 by omega), mx_laid h.rm Y, h.below.trans (hk.below (n := w0.heap.size) (fun k (e : k = w0.heap.size + 3) => by omega) h.below.size)⟩, h.i.keep hk (show ¬ w0.heap.size = w0.heap.size + 3 by omega), h.m.keep hk (show ¬ w0.heap.size + 1 = w0.heap.size + 3 by omega)⟩
end
theorem baseR_reads {w : World} {d : JbD} {bs : List RcL} {ds : List RecD} {hd : RecD} (h : JobR w d bs ds hd) (k : Nat) : RecV w (baseR bs k).val (((ds[k]?).map RecD.bare).getD RecD.zero) := by
 unfold baseR
 cases hb : bs[k]? with
 | none =>
  have : ds[k]? = none := List.getElem?_eq_none (by have := List.getElem?_eq_none_iff.1 hb; rw [← h.len]; exact this)
  rw [this]
  exact RecV.zero w
 | some x =>
  have hl : k < ds.length := by rw [← h.len]; exact (List.getElem?_eq_some_iff.1 hb).1
  have hd2 := List.getElem?_eq_getElem hl
  rw [hd2]
  obtain ⟨h1, h2, h3, -⟩ := h.each k x _ hb hd2
  exact ⟨.slice x.ra x.rn x.rc, .slice x.ea x.en x.ec, by show recVal { x.sc with ns := 0, ng := 0 } _ _ = recVal { (ds[k]'hl).sc with ns := 0, ng := 0 } _ _; rw [h1], h2, h3⟩
theorem head_reads {w : World} {d : JbD} {bs : List RcL} {ds : List RecD} {hd : RecD} (h : JobR w d bs ds hd) (pgs : List Int) : RecV w (recVal (mkSc d.hd.sc d.fresh pgs) (.slice d.hd.ra d.hd.rn d.hd.rc) (.slice d.hd.ea d.hd.en d.hd.ec)) (mkHd hd d.fresh pgs) := by
 obtain ⟨h1, h2, h3, -⟩ := h.head
 refine ⟨.slice d.hd.ra d.hd.rn d.hd.rc, .slice d.hd.ea d.hd.en d.hd.ec, ?_, ?_, ?_⟩
 ·unfold mkHd mkSc
  rw [h1]
  split <;> rfl
 ·unfold mkHd; split <;> exact h2
 ·unfold mkHd; split <;> exact h3
open Go.RowKit
theorem iStep12_over {w0 w : World} {T : Nat → Prop} {X : DX} {Y : MX} {D : DI} {ps : List Pt} {L : List Pg} {us : List PuD} {ups : List Up} (ds : List RecD) (hd : RecD) (hD : DocS w0 w T X Y D ps L us ups) (ho : D.over = true) :
  Calls Tryz.prog 12 #[X.val, Y.val] w (StepR w0 w T ds hd X Y D ps L us ups) := by
 have HST := Lib.hid (show D.step Y.l X.d ds hd ps L = (D, ps, L) by unfold DI.step; rw [if_pos ho])
 have HO := Lib.hid ho
 clear ho
 obtain ⟨W0, hW0⟩ : ∃ W, W = ((((w.alloc (.cells X.list.toArray 68)).alloc (.cells Y.list.toArray 43)).alloc (.cells DX.zero.list.toArray 68)).alloc (.cells MX.zero.list.toArray 43)) := ⟨_, rfl⟩
 have A0 := Lib.hid (show SA w W0 X Y by rw [hW0]; exact SA.start w X Y)
 have D0 := Lib.hid (hD.boxes A0.out.below A0.out.sz)
 have XO := Lib.hid hD.over
 have XB := Lib.hid hD.back
 have XL := Lib.hid hD.links
 have PN := Lib.hid hD.pn
 have RN := Lib.hid hD.rn
 have TLT := Lib.hid hD.hi
 have hzl : DX.zero.list.toArray = #[.int .i64 0, .int .i64 0, .int .i64 0, .int .i64 0, .slice none 0 0, .int .i64 0, .string ⟨#[]⟩, .string ⟨#[]⟩, .bool false, .int .i64 0, .slice none 0 0, .slice none 0 0, .string ⟨#[]⟩, .string ⟨#[]⟩, .int .i64 0, .int .i64 0, .int .i64 0, .string ⟨#[]⟩, .int .i64 0, .int .i64 0, .int .i64 0, .bool false, .bool false, .bool false, .bool false, .int .i64 0, .slice none 0 0, .slice none 0 0, .int .i64 0] := rfl
 have hzm : MX.zero.list.toArray = #[.int .i64 0, .int .i64 0, .int .i64 0, .int .i64 0, .int .i64 0, .int .i64 0, .int .i64 0, .int .i64 0, .slice none 0 0, .int .i64 0, .slice none 0 0, .int .i64 0, .int .i64 0, .slice none 0 0, .int .i64 0] := rfl
 rw [hzl, hzm] at hW0
 clear hzl hzm hD
 unfold DX.val MX.val
 generalize hxl : X.list.toArray = xl at hW0 ⊢
 generalize hyl : Y.list.toArray = yl at hW0 ⊢
 clear hxl hyl
 go_enter Tryz.func12, Tryz.ntmps12
 go_upto_region 1 with (fail)
 rw [← hW0]
 clear hW0
 have y0 := A0.out.i.cOver
 rw [XO.out, HO.out] at y0
 go_upto_region 2 with (fail)
 clear y0
 have A8 := Lib.hid (A0.out.low (Below.refl W0.heap.size W0).drew)
 have D8 := Lib.hid (D0.out.low (Below.refl W0.heap.size W0).drew)
 refine anyH_region (fun w' => DXAt w' w.heap.size X ∧ MXAt w' (w.heap.size + 1) Y) (by kernel_rfl) ?_
 generalize W0.drew = wd at *
 refine tkH (i := 0) (oi := ⟨some 26, _, _, _, _, _⟩) (v := .agg X.list.toArray) rfl (yieldsIf_load_mid (by rfl) 68 (.tmp 2) rfl w.heap.size 0 rfl X.list _ (fun w h => h.1.rng) Tryz.underlying68 rfl X.info) ⟨A8.out.i, A8.out.m⟩ ?resta0
 simp only [Act.put, sT, sZ, sS]
 refine tkH (i := 1) (oi := ⟨some 27, _, _, _, _, _⟩) (v := .agg Y.list.toArray) rfl (yieldsIf_load_mid (by rfl) 43 (.tmp 3) rfl (w.heap.size + 1) 0 rfl Y.list _ (fun w h => h.2.rng) Tryz.underlying43 rfl Y.info) ⟨A8.out.i, A8.out.m⟩ ?resta1
 simp only [Act.put, sT, sZ, sS]
 refine anyH_one (i := 2) (o := ⟨none, _, _, _, _, _⟩) (by kernel_rfl) rfl (fun K hK => ?_)
 rw [if_pos (by rfl)]
 refine wp_store_to 68 (.tmp 4) (.tmp 26) rfl (w.heap.size + 2) 0 X.list rfl rfl ?_ X.info X.one ?_
 ·exact A8.out.ri.there
 intro W8 hW8
 have Q8 := Lib.hid (show SQ w W8 X Y by rw [hW8]; exact A8.out.ri')
 have D9 := Lib.hid (show DocS _ W8 _ _ _ _ _ _ _ _ by rw [hW8]; exact D8.out.keep (Kept.setCells _ _ _ (Kept.refl _ _)) boxT.ri)
 clear hW8
 refine hK.out _ _ ⟨Q8.out.i, Q8.out.m⟩ ?_
 clear hK K
 try simp only [Act.put]
 refine anyH_one (i := 3) (o := ⟨none, _, _, _, _, _⟩) (by kernel_rfl) rfl (fun K hK => ?_)
 rw [if_pos (by rfl)]
 refine wp_store_to 43 (.tmp 5) (.tmp 27) rfl (w.heap.size + 3) 0 Y.list rfl rfl ?_ Y.info Y.one ?_
 ·exact Q8.out.rm.there
 intro W9 hW9
 have Q9 := Lib.hid (show SR w W9 X Y ∧ DXAt W9 w.heap.size X ∧ MXAt W9 (w.heap.size + 1) Y by rw [hW9]; exact Q8.out.rm')
 have DE := Lib.hid (show DocS _ W9 _ _ _ _ _ _ _ _ by rw [hW9]; exact D9.out.keep (Kept.setCells _ _ _ (Kept.refl _ _)) boxT.rm)
 clear hW9
 refine hK.out _ _ Q9.out.2 ?_
 clear hK K
 try simp only [Act.put]
 refine wpAnyH_done (by kernel_rfl) ?_ _
 go_wp2
 refine bodyPost_ret (v := .tuple #[X.val, Y.val]) (results_cell2 rfl _ _ (w.heap.size + 2) (w.heap.size + 3) X.list Y.list _ _ rfl rfl Q9.out.1.ri.rng Q9.out.1.rm.rng Tryz.underlying68 rfl X.info Tryz.underlying43 rfl Y.info) rfl ?_
 exact StepR.mk' HST.out X Y us ups rfl rfl rfl (by rw [if_pos HO.out]) DE.out.unbox (Nat.le_succ _) (Nat.le_succ _) Q9.out.1.below
open Go.RowKit
theorem NewP.step {w w1 w2 : World} {v v' : Value} {us us' : List PuD} (h : NewP w w1 v v' us us') (hs : Below w1.heap.size w1 w2) : NewP w w2 v v' us us' := h.imp (fun h => h.below hs) id
theorem NewP.off {w w1 w2 : World} {v v' : Value} {us us' : List PuD} (h : NewP w w1 v v' us us') {g : Nat} {cs : Array Value} (hb : w1.heap[g]? = some (.cells cs 35 (0, 0))) (hk : Kept (fun k => k = g) w1 w2) : NewP w w2 v v' us us' :=
 h.imp (fun h => h.kept hk (h.offT hb (by decide))) id
theorem NewP.lower {w w0 w1 : World} {v v' : Value} {us us' : List PuD} (h : NewP w w1 v v' us us') (hl : w0.heap.size ≤ w.heap.size) : NewP w0 w1 v v' us us' := h.imp (fun h => h.mono hl) id
def NewU (n : Nat) (w' : World) (v v' : Value) (us' : List Up) : Prop := OwnS lUp 0 w' v' us' ∧ (OwnS lUp n w' v' us' ∨ v' = v)
theorem NewU.step {n : Nat} {w1 w2 : World} {v v' : Value} {us' : List Up} (h : NewU n w1 v v' us') (hs : Below w1.heap.size w1 w2) : NewU n w2 v v' us' := ⟨h.1.below hs, h.2.imp (fun h => h.below hs) id⟩
theorem NewU.off {n : Nat} {w1 w2 : World} {v v' : Value} {us' : List Up} (h : NewU n w1 v v' us') {g : Nat} {cs : Array Value} (hb : w1.heap[g]? = some (.cells cs 38 (0, 0))) (hk : Kept (fun k => k = g) w1 w2) : NewU n w2 v v' us' :=
 ⟨h.1.kept hk (h.1.offT hb (by decide)), h.2.imp (fun h => h.kept hk (h.offT hb (by decide))) id⟩
theorem NewU.lower {n m : Nat} {w1 : World} {v v' : Value} {us' : List Up} (h : NewU n w1 v v' us') (hl : m ≤ n) : NewU m w1 v v' us' := ⟨h.1, h.2.imp (fun h => h.mono hl) id⟩
def arL (Y : MX) (a : Option Addr) (n c : Nat) : List Value := [.int .i64 (Y.l.s : Int), .int .i64 (Y.l.c : Int), .slice a n c]
def tbL (Y : MX) (a : Option Addr) (n c : Nat) : List Value := [.int .i64 (Y.l.p : Int), .slice a n c]
theorem arL_one (Y : MX) (a : Option Addr) (n c : Nat) : (arL Y a n c).toArray.all (fun x => x.oneCell') = true := all_oneCell_toArray fun u hu => by
 simp only [arL, List.mem_cons, List.not_mem_nil, or_false] at hu
 rcases hu with h | h | h <;> (subst h; rfl)
theorem tbL_one (Y : MX) (a : Option Addr) (n c : Nat) : (tbL Y a n c).toArray.all (fun x => x.oneCell') = true := all_oneCell_toArray fun u hu => by
 simp only [tbL, List.mem_cons, List.not_mem_nil, or_false] at hu
 rcases hu with h | h <;> (subst h; rfl)
theorem arInfo : (Tryz.prog.info? 35).map (·.size) = some 3 := by kernel_rfl
theorem tbInfo : (Tryz.prog.info? 38).map (·.size) = some 2 := by kernel_rfl
theorem rng_step {w w' : World} {b o : Nat} {cs : List Value} (h : w.rangeAt b o cs) (hs : Below w.heap.size w w') : w'.rangeAt b o cs := fun j u hj => cell_step (h j u hj) hs
section
variable {w0 w w1 w' : World} {T : Nat → Prop} {X : DX} {Y : MX} {D : DI} {ps : List Pt} {L : List Pg} {us us' : List PuD} {ups ups' : List Up}
theorem DocS.arenaP (h : DocS w0 w' T X Y D ps L us ups) {a : Option Addr} {n c : Nat} (hn : NewP w1 w' (.slice Y.qa Y.qn Y.qc) (.slice a n c) us us') (hm : ∀ k, T k → k < w1.heap.size) (hr : ∀ e ∈ us', SV lRow w0 e.rv e.rows ∧ SV lEnt w0 e.en e.ents) : DocS w0 w' T X { Y with qa := a, qn := n, qc := c } D (us'.map PuD.pt) L us' ups := by
 rcases hn with ho | ⟨e, rfl⟩
 ·exact h.arena ho.sv (.inl ho) hm hr
 ·exact h.arena (m := w1.heap.size) (by rw [e]; exact h.ar) (.inr e) hm hr
theorem DocS.tableP (h : DocS w0 w' T X Y D ps L us ups) {a : Option Addr} {n c m : Nat} {L' : List Pg} (hn : NewU m w' (.slice Y.ta Y.tn Y.tc) (.slice a n c) ups') (hm : ∀ k, T k → k < m) (hk : RefOk ups' L') (hl : L'.length = L.length) : DocS w0 w' T X { Y with ta := a, tn := n, tc := c } D ps L' us ups' :=
 h.table hn.1 hn.2 hm hk hl
theorem DocS.cutR4 (h : DocS w0 w T X Y D ps L us ups) {X' : DX} {k : Nat} (e : X' = { X with rn := k }) (hk : k ≤ D.rfs.length) : DocS w0 w T X' Y { D with rfs := D.rfs.take k } ps L us ups := by rw [e]; exact h.cutR hk
theorem DocS.cutP4 (h : DocS w0 w T X Y D ps L us ups) {X' : DX} {k : Nat} (e : X' = { X with pn := k }) (hk : k ≤ D.pgs.length) : DocS w0 w T X' Y { D with pgs := D.pgs.take k } ps L us ups := by rw [e]; exact h.cutP hk
theorem heirs_read (hu : ∀ e ∈ us, SV lRow w0 e.rv e.rows ∧ SV lEnt w0 e.en e.ents) (hh : ∀ e ∈ us', ∃ e0 ∈ us, Heir e e0) : ∀ e ∈ us', SV lRow w0 e.rv e.rows ∧ SV lEnt w0 e.en e.ents := fun e he => by
 obtain ⟨e0, h0, h1, h2, h3, h4⟩ := hh e he
 rw [h1, h2, h3, h4]
 exact hu e0 h0
end
structure SQ2 (w0 w : World) (X Z : DX) (Y : MX) : Prop where
 i : DXAt w w0.heap.size X
 m : MXAt w (w0.heap.size + 1) Y
 ri : DXAt w (w0.heap.size + 2) Z
 rm : MXAt w (w0.heap.size + 3) MX.zero
 below : Below w0.heap.size w0 w
theorem SA.ri2 {w0 w : World} {X Z : DX} {Y : MX} (h : SA w0 w X Y) : SQ2 w0 (w.setCells (w0.heap.size + 2) 0 Z.list) X Z Y :=
 have hk : Kept (fun k => k = w0.heap.size + 2) w (w.setCells (w0.heap.size + 2) 0 Z.list) := Kept.setCells _ _ _ (Kept.refl _ _)
 ⟨h.i.keep hk (show ¬ w0.heap.size = w0.heap.size + 2 by omega), h.m.keep hk (show ¬ w0.heap.size + 1 = w0.heap.size + 2 by omega), dx_laid h.ri Z, h.rm.keep hk (show ¬ w0.heap.size + 3 = w0.heap.size + 2 by omega), h.below.trans (hk.below (n := w0.heap.size) (fun k (e : k = w0.heap.size + 2) => by omega) h.below.size)⟩
theorem SQ2.rm' {w0 w : World} {X Z : DX} {Y : MX} (h : SQ2 w0 w X Z Y) : SR w0 (w.setCells (w0.heap.size + 3) 0 Y.list) Z Y ∧ DXAt (w.setCells (w0.heap.size + 3) 0 Y.list) w0.heap.size X ∧ MXAt (w.setCells (w0.heap.size + 3) 0 Y.list) (w0.heap.size + 1) Y :=
 have hk : Kept (fun k => k = w0.heap.size + 3) w (w.setCells (w0.heap.size + 3) 0 Y.list) := Kept.setCells _ _ _ (Kept.refl _ _)
 ⟨⟨h.ri.keep hk (show ¬ w0.heap.size + 2 = w0.heap.size + 3 by omega), mx_laid h.rm Y, h.below.trans (hk.below (n := w0.heap.size) (fun k (e : k = w0.heap.size + 3) => by omega) h.below.size)⟩, h.i.keep hk (show ¬ w0.heap.size = w0.heap.size + 3 by omega), h.m.keep hk (show ¬ w0.heap.size + 1 = w0.heap.size + 3 by omega)⟩
theorem xy_one (x y : Int) : ([.int .i64 x, .int .i64 y] : List Value).toArray.all (fun x => x.oneCell') = true := all_oneCell_toArray fun u hu => by
 simp only [List.mem_cons, List.not_mem_nil, or_false] at hu
 rcases hu with h | h <;> (subst h; rfl)
theorem alloc_read {w0 : World} {us us' : List PuD} {r : Value} {d : RecD} (hu : ∀ e ∈ us, SV lRow w0 e.rv e.rows ∧ SV lEnt w0 e.en e.ents) (hv : RecV w0 r d) (hh : ∀ e ∈ us', (∃ e0 ∈ us, Heir e e0) ∨ (r = recVal e.sc e.rv e.en ∧ e.rows = d.rows ∧ e.ents = d.ents)) : ∀ e ∈ us', SV lRow w0 e.rv e.rows ∧ SV lEnt w0 e.en e.ents := fun e he => by
 rcases hh e he with ⟨e0, h0, h1, h2, h3, h4⟩ | ⟨h1, h2, h3⟩
 ·rw [h1, h2, h3, h4]; exact hu e0 h0
 ·obtain ⟨rv, en, rfl, q1, q2⟩ := hv
  unfold recVal at h1
  simp only [Value.agg.injEq, Array.mk.injEq, List.cons.injEq] at h1
  rw [← h1.2.2.2.2.2.1, ← h1.2.2.2.2.2.2.1, h2, h3]
  exact ⟨q1, q2⟩
theorem DXAt.old {w : World} {b : Nat} {X : DX} (h : DXAt w b X) : w.rangeAt b 1 [.int .i64 X.d.os, .int .i64 X.d.og] := fun j u hj => by
 have hl : j < 2 := (List.getElem?_eq_some_iff.1 hj).1
 match j, hl, hj with
 | 0, _, hj => exact h.cOs.trans hj
 | 1, _, hj => exact h.cOg.trans hj
theorem DocS.links4 {w0 w : World} {T : Nat → Prop} {X : DX} {Y : MX} {D : DI} {ps : List Pt} {L : List Pg} {us : List PuD} {ups : List Up} (h : DocS w0 w T X Y D ps L us ups) (v : Int) : DocS w0 w T { X with links := v } Y { D with links := v } ps L us ups := h.setLinks v
theorem shead_at {D : DI} {k : Nat} {r : Rf} (hm : min D.links.toNat (D.rfs.length - 1) = k) (h : D.rfs[k]? = some r) : D.shead = r := by
 unfold DI.shead
 rw [hm, List.getD_eq_getElem?_getD, h]; rfl
end Go.Proofs.YtejmdmaebkdjoaaGreatDoor
